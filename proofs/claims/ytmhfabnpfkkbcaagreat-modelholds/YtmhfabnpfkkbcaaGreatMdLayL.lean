/-
  A room's lists: layLists.
-/
import Derived.Test.YtmhfabnpfkkbcaaGreatMdLayT
namespace Go.Proofs.YtmhfabnpfkkbcaaGreat
open Go.RowKit

theorem RoomAt.grown {ety : Nat → TypeId} {base R : Nat} {S : Lab} {F : Nat → List Value} {w w' : World} {row : Option Nat} (h : RoomAt ety base R S F w) (hg : w.grownBy w' row) (h0 : ∀ g, row = some g → S g = 0) : RoomAt ety base R S F w' := by
  have hR := h.lt
  have hb : ∀ k, k < w.heap.size → S k ≠ 0 → w'.heap[k]? = w.heap[k]? := fun k hk hS => hg.block k hk (fun he => hS (h0 k he.symm))
  refine ⟨h.lab, fun k hk => h.top k (Nat.le_trans hg.size hk), h.low, Nat.le_trans h.bas hg.size, ?_, fun f hf => ?_⟩
  · obtain ⟨cs, t, h1, h2⟩ := h.blk
    exact ⟨cs, t, (hb R hR (by rw [h.lab]; decide)).trans h1, h2⟩
  · obtain ⟨v, h1, h2, h3⟩ := h.field f hf
    exact ⟨v, (World.cell?_of_block (a := ⟨R, f, none⟩) (hb R hR (by rw [h.lab]; decide))).trans h1, ownsRow_same h2 (fun g hg' => hb g (h2.lt g hg').2 (by rw [h3 g hg']; omega)), h3⟩
theorem Agree.grown {S S' : Lab} {w w1 w2 : World} {row : Option Nat} (h : Agree S S' w w1) (hg : w1.grownBy w2 row) (hr : ∀ g, row = some g → w.heap.size ≤ g) : Agree S S' w w2 :=
  ⟨hg.os.trans h.os, hg.tape.trans h.tape, hg.output.trans h.output, Nat.le_trans h.size hg.size, h.lab, fun k hk h0 => (hg.block k (Nat.lt_of_lt_of_le hk h.size) (fun he => by have := hr k he.symm; omega)).trans (h.block k hk h0)⟩
theorem grownBy_of_below {w W w' : World} {row : Option Nat} (hW : Below w.heap.size w W) (hg : W.grownBy w' row) : w.grownBy w' row :=
  ⟨hg.os.trans hW.os, hg.tape.trans hW.tape, hg.output.trans hW.output, Nat.le_trans hW.size hg.size, fun k hk hne => (hg.block k (Nat.lt_of_lt_of_le hk hW.size) hne).trans (hW.block k hk)⟩

/-- A list that was laid within a list. -/
structure Row1 where
  b : Nat
  cap : Nat
  l : List Int
def Row1.val (r : Row1) : Value := .slice (some ⟨r.b, 0, none⟩) r.l.length (r.l.length + 4)
def Row1.ent (r : Row1) : Value := .slice (some ⟨r.b, 0, none⟩) (r.l.length + 4) r.cap
def Row1.at_ (r : Row1) : Value := .int .i64 (r.l.length : Int)
/-- It lies there, apart from the row that is being made. -/
structure Row1.Ok (S : Lab) (w : World) (base : Nat) (av : Option Nat) (r : Row1) : Prop where
  ge : base ≤ r.b
  lt : r.b < w.heap.size
  lab : S r.b = 0
  ne : some r.b ≠ av
  cells : ∀ j u, (laidInts r.l 4)[j]? = some u → w.cell? ⟨r.b, j, none⟩ = some u
theorem Row1.Ok.agree {S S' : Lab} {w w' : World} {base : Nat} {av : Option Nat} {r : Row1} (h : r.Ok S w base av) (ha : Agree S S' w w') : r.Ok S' w' base av :=
  ⟨h.ge, Nat.lt_of_lt_of_le h.lt ha.size, (ha.lab _ h.lt).trans h.lab, h.ne, fun j u hj => (ha.cell (a := ⟨r.b, j, none⟩) h.lt h.lab).trans (h.cells j u hj)⟩
theorem Row1.Ok.grown {S : Lab} {w w' : World} {base : Nat} {av av' : Option Nat} {r : Row1} (h : r.Ok S w base av) (hg : w.grownBy w' av) (hn : av' = av ∨ ∃ g, av' = some g ∧ w.heap.size ≤ g) : r.Ok S w' base av' := by
  refine ⟨h.ge, Nat.lt_of_lt_of_le h.lt hg.size, h.lab, ?_, fun j u hj => (World.cell?_of_block (a := ⟨r.b, j, none⟩) (hg.block r.b h.lt h.ne)).trans (h.cells j u hj)⟩
  rcases hn with rfl | ⟨g, rfl, hgg⟩
  · exact h.ne
  · intro he
    injection he with he
    have := h.lt
    omega
/-- A mark of a list of lists. -/
structure MarkOk (S : Lab) (w : World) (av : Option Nat) (m : Nat) (y : Int) : Prop where
  lt : m < w.heap.size
  lab : S m = 0
  ne : some m ≠ av
  cell : w.cell? ⟨m, 0, none⟩ = some (.int .i64 y)
theorem MarkOk.agree {S S' : Lab} {w w' : World} {av : Option Nat} {m : Nat} {y : Int} (h : MarkOk S w av m y) (ha : Agree S S' w w') : MarkOk S' w' av m y :=
  ⟨Nat.lt_of_lt_of_le h.lt ha.size, (ha.lab _ h.lt).trans h.lab, h.ne, (ha.cell (a := ⟨m, 0, none⟩) h.lt h.lab).trans h.cell⟩
theorem MarkOk.grown {S : Lab} {w w' : World} {av av' : Option Nat} {m : Nat} {y : Int} (h : MarkOk S w av m y) (hg : w.grownBy w' av) (hn : av' = av ∨ ∃ g, av' = some g ∧ w.heap.size ≤ g) : MarkOk S w' av' m y := by
  refine ⟨Nat.lt_of_lt_of_le h.lt hg.size, h.lab, ?_, (World.cell?_of_block (a := ⟨m, 0, none⟩) (hg.block m h.lt h.ne)).trans h.cell⟩
  rcases hn with rfl | ⟨g, rfl, hgg⟩
  · exact h.ne
  · intro he
    injection he with he
    have := h.lt
    omega
def markVal (m : Nat) : Value := .slice (some ⟨m, 0, none⟩) 1 1

/-- Where the first loop of layLists stands. -/
structure LL1 (base R : Nat) (S0 : Lab) (F0 : Nat → List Value) (w : World) (l : List (List Int)) (k : Nat) (fv : Value) (S : Lab) (F : Nat → List Value) (D : List Row1) (wr : World) : Prop where
  room : RoomAt ety base R S F wr
  agree : Agree S0 S w wr
  own : wr.ownsRow w.heap.size 27 1 fv D.length (D.map Row1.val)
  lab : ∀ g, fv.ownBlock = some g → S g = 0
  rows : D.map Row1.l = l.take k
  ok : ∀ r ∈ D, r.Ok S wr w.heap.size fv.ownBlock
  f0 : F 0 = F0 0 ++ D.map Row1.ent
  f1 : F 1 = F0 1 ++ D.map Row1.at_
  f : ∀ j, j ≠ 0 → j ≠ 1 → F j = F0 j
  high : ∀ k, k < w.heap.size → 150 ≤ S0 k → wr.heap[k]? = w.heap[k]?

theorem LL1.len {base R : Nat} {S0 : Lab} {F0 : Nat → List Value} {w : World} {l : List (List Int)} {k : Nat} {fv : Value} {S : Lab} {F : Nat → List Value} {D : List Row1} {wr : World} (h : LL1 base R S0 F0 w l k fv S F D wr) (hk : k ≤ l.length) : D.length = k := by
  have := congrArg List.length h.rows
  simp at this
  omega

/-- One list more. -/
theorem LL1.next {base R : Nat} {S0 : Lab} {F0 : Nat → List Value} {w : World} {l : List (List Int)} {k : Nat} {fv fv' : Value} {S S1 : Lab} {F F1 : Nat → List Value} {D : List Row1} {wr w1 w2 : World} (h : LL1 base R S0 F0 w l k fv S F D wr) (hk : k < l.length)
    {b cap : Nat} (hb : wr.heap.size ≤ b) (hb1 : b < w1.heap.size) (hS1 : S1 b = 0) (hR1 : RoomAt ety base R S1 F1 w1) (h0 : F1 0 = F 0 ++ [.slice (some ⟨b, 0, none⟩) ((l[k]).length + 4) cap]) (h1 : F1 1 = F 1 ++ [.int .i64 ((l[k]).length : Int)]) (hF : ∀ j, j ≠ 0 → j ≠ 1 → F1 j = F j)
    (hA : Agree S S1 wr w1) (hc : ∀ j u, (laidInts l[k] 4)[j]? = some u → w1.cell? ⟨b, j, none⟩ = some u) (hh : ∀ k, k < wr.heap.size → 150 ≤ S k → w1.heap[k]? = wr.heap[k]?)
    {W1 : World} (hW : Below w1.heap.size w1 W1) (ho : w2.ownsRow w.heap.size 27 1 fv' (D.length + 1) (D.map Row1.val ++ [.slice (some ⟨b, 0, none⟩) (l[k]).length ((l[k]).length + 4)])) (hg : W1.grownBy w2 fv.ownBlock) (hn : fv'.ownBlock = fv.ownBlock ∨ ∃ g, fv'.ownBlock = some g ∧ w1.heap.size ≤ g) :
    LL1 base R S0 F0 w l (k + 1) fv' S1 F1 (D ++ [⟨b, cap, l[k]⟩]) w2 := by
  have hg1 := grownBy_of_below hW hg
  have hlt : ∀ g, fv.ownBlock = some g → w.heap.size ≤ g ∧ g < wr.heap.size := h.own.lt
  have hl1 : ∀ g, fv.ownBlock = some g → S1 g = 0 := fun g hg' => (hA.lab g (hlt g hg').2).trans (h.lab g hg')
  refine ⟨hR1.grown hg1 hl1, (h.agree.trans hA).grown hg1 (fun g hg' => (hlt g hg').1), ?_, ?_, ?_, ?_, ?_, ?_, fun j hj0 hj1 => (hF j hj0 hj1).trans (h.f j hj0 hj1), fun q hq hS => ?_⟩
  · simpa [Row1.val] using ho
  · intro g hg'
    rcases hn with e | ⟨g', e, hge⟩
    · exact hl1 g (e ▸ hg')
    · rw [e] at hg'
      injection hg' with hg'
      subst hg'
      exact hR1.top g' hge
  · rw [List.map_append, h.rows, List.take_succ_eq_append_getElem hk]; rfl
  · intro r hr
    rcases List.mem_append.1 hr with hr | hr
    · exact ((h.ok r hr).agree hA).grown hg1 hn
    · rw [List.mem_singleton.1 hr]
      have hne : some b ≠ fv.ownBlock := fun he => by have := (hlt b he.symm).2; omega
      exact Row1.Ok.grown (av := fv.ownBlock) ⟨Nat.le_trans h.agree.size hb, hb1, hS1, hne, hc⟩ hg1 hn
  · rw [h0, h.f0]; simp [Row1.ent]
  · rw [h1, h.f1]; simp [Row1.at_]
  · have hq1 : q < wr.heap.size := Nat.lt_of_lt_of_le hq h.agree.size
    exact (hg1.block q (Nat.lt_of_lt_of_le hq1 hA.size) (fun he => by have := (hlt q he.symm).1; omega)).trans ((hh q hq1 (by rw [h.agree.lab q hq]; exact hS)).trans (h.high q hq hS))

/-- Where the second loop of layLists stands. -/
structure LL2 (base R : Nat) (S0 : Lab) (F0 : Nat → List Value) (w : World) (l : List (List Int)) (k : Nat) (fv : Value) (S : Lab) (F : Nat → List Value) (D : List Row1) (M : List Nat) (wr : World) : Prop where
  room : RoomAt ety base R S F wr
  agree : Agree S0 S w wr
  own : wr.ownsRow w.heap.size 27 1 fv (l.length + k) (D.map Row1.val ++ M.map markVal)
  lab : ∀ g, fv.ownBlock = some g → S g = 0
  rows : D.map Row1.l = l
  ok : ∀ r ∈ D, r.Ok S wr w.heap.size fv.ownBlock
  len : M.length = k
  marks : ∀ i (h : i < M.length), MarkOk S wr fv.ownBlock M[i] (lotI i)
  f0 : F 0 = F0 0 ++ D.map Row1.ent
  f1 : F 1 = F0 1 ++ D.map Row1.at_
  f : ∀ j, j ≠ 0 → j ≠ 1 → F j = F0 j
  high : ∀ k, k < w.heap.size → 150 ≤ S0 k → wr.heap[k]? = w.heap[k]?

theorem LL1.done {base R : Nat} {S0 : Lab} {F0 : Nat → List Value} {w : World} {l : List (List Int)} {k : Nat} {fv : Value} {S : Lab} {F : Nat → List Value} {D : List Row1} {wr : World} (h : LL1 base R S0 F0 w l k fv S F D wr) (hk : k = l.length) : LL2 base R S0 F0 w l 0 fv S F D [] wr := by
  have hl := h.len (Nat.le_of_eq hk)
  refine ⟨h.room, h.agree, ?_, h.lab, ?_, h.ok, rfl, fun i h => by simp at h, h.f0, h.f1, h.f, h.high⟩
  · have := h.own
    rw [hl, hk] at this
    simpa using this
  · rw [h.rows, hk, List.take_length]

/-- One mark more. -/
theorem LL2.next {base R : Nat} {S0 : Lab} {F0 : Nat → List Value} {w : World} {l : List (List Int)} {k : Nat} {fv fv' : Value} {S : Lab} {F : Nat → List Value} {D : List Row1} {M : List Nat} {wr W1 w2 : World} (h : LL2 base R S0 F0 w l k fv S F D M wr)
    (hW : Below wr.heap.size wr W1) (hm : wr.heap.size < W1.heap.size) (hc : W1.cell? ⟨wr.heap.size, 0, none⟩ = some (.int .i64 (lotI k))) (ho : w2.ownsRow w.heap.size 27 1 fv' (l.length + k + 1) (D.map Row1.val ++ M.map markVal ++ [.slice (some ⟨wr.heap.size, 0, none⟩) 1 1])) (hg : W1.grownBy w2 fv.ownBlock) (hn : fv'.ownBlock = fv.ownBlock ∨ ∃ g, fv'.ownBlock = some g ∧ W1.heap.size ≤ g) :
    LL2 base R S0 F0 w l (k + 1) fv' S F D (M ++ [wr.heap.size]) w2 := by
  have hg1 := grownBy_of_below hW hg
  have hlt : ∀ g, fv.ownBlock = some g → w.heap.size ≤ g ∧ g < wr.heap.size := h.own.lt
  have hn1 : fv'.ownBlock = fv.ownBlock ∨ ∃ g, fv'.ownBlock = some g ∧ wr.heap.size ≤ g := hn.imp id (fun ⟨g, e, hge⟩ => ⟨g, e, by omega⟩)
  refine ⟨h.room.grown hg1 h.lab, h.agree.grown hg1 (fun g hg' => (hlt g hg').1), ?_, ?_, h.rows, fun r hr => (h.ok r hr).grown hg1 hn1, by simp [h.len], ?_, h.f0, h.f1, h.f, fun q hq hS => (hg1.block q (Nat.lt_of_lt_of_le hq h.agree.size) (fun he => by have := (hlt q he.symm).1; omega)).trans (h.high q hq hS)⟩
  · simpa [markVal, Nat.add_assoc] using ho
  · intro g hg'
    rcases hn1 with e | ⟨g', e, hge⟩
    · exact h.lab g (e ▸ hg')
    · rw [e] at hg'
      injection hg' with hg'
      subst hg'
      exact h.room.top g' hge
  · intro i hi
    by_cases hiM : i < M.length
    · rw [List.getElem_append_left hiM]
      exact (h.marks i hiM).grown hg1 hn1
    · have hik : i = M.length := by simp at hi; omega
      subst hik
      rw [List.getElem_append_right (Nat.le_refl _)]
      simp only [Nat.sub_self, List.getElem_cons_zero]
      have hne : some wr.heap.size ≠ fv.ownBlock := fun he => by have := (hlt _ he.symm).2; omega
      refine ⟨Nat.lt_of_lt_of_le hm hg.size, h.room.top _ (Nat.le_refl _), ?_, ?_⟩
      · rcases hn with e | ⟨g', e, hge⟩
        · rw [e]; exact hne
        · rw [e]; intro he; injection he with he; omega
      · rw [h.len]
        exact (World.cell?_of_block (a := ⟨wr.heap.size, 0, none⟩) (hg.block _ hm hne)).trans hc
end Go.Proofs.YtmhfabnpfkkbcaaGreat
