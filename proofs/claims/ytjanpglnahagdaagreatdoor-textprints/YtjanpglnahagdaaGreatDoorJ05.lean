/-
  Put together: MdLayL, MdLayM.
-/
import Derived.Test.YtjanpglnahagdaaGreatDoorJ04
namespace Go.Proofs.YtjanpglnahagdaaGreatDoor
open Go.RowKit

theorem RoomAt.grown {ety : Nat → TypeId} {base R : Nat} {S : Lab} {F : Nat → List Value} {w w' : World} {row : Option Nat} (h : RoomAt ety base R S F w) (hg : w.grownBy w' row) (h0 : ∀ g, row = some g → S g = 0) : RoomAt ety base R S F w' := by
  have hR := h.lt
  have hb : ∀ k, k < w.heap.size → S k ≠ 0 → w'.heap[k]? = w.heap[k]? := fun k hk hS => hg.block k hk (fun he => hS (h0 k he.symm))
  refine ⟨h.lab, fun k hk => h.top k (Nat.le_trans hg.size hk), h.low, Nat.le_trans h.bas hg.size, ?_, fun f hf => ?_⟩
  · obtain ⟨cs, t, h1, h2⟩ := h.blk
    exact ⟨cs, t, (hb R hR (by rw [h.lab]; decide)).trans h1, h2⟩
  · obtain ⟨v, h1, h2, h3⟩ := h.field f hf
    exact ⟨v, (World.cell?_of_block (a := ⟨R, f, none⟩) (hb R hR (by rw [h.lab]; decide))).trans h1, ownsRow_same h2 (fun g hg' => hb g (h2.lt g hg').2 (by rw [h3 g hg']; omega)), h3⟩
theorem Agree.grown {S S' : Lab} {w w1 w2 : World} {row : Option Nat} (h : Agree S S' w w1) (hg : w1.grownBy w2 row) (hr : ∀ g, row = some g → w.heap.size ≤ g) : Agree S S' w w2 :=
  ⟨hg.os.trans h.os, hg.tape.trans h.tape, hg.output.trans h.output, Nat.le_trans h.size hg.size, h.lab, fun k hk h0 => (hg.block k (Nat.lt_of_lt_of_le hk h.size) (fun he => by have := hr k he.symm; omega)).trans (h.block k hk h0)⟩
theorem grownBy_of_below {w W w' : World} {row : Option Nat} (hW : Below w.heap.size w W) (hg : W.grownBy w' row) : w.grownBy w' row :=
  ⟨hg.os.trans hW.os, hg.tape.trans hW.tape, hg.output.trans hW.output, Nat.le_trans hW.size hg.size, fun k hk hne => (hg.block k (Nat.lt_of_lt_of_le hk hW.size) hne).trans (hW.block k hk)⟩

/-- A list that was laid within a list. -/
structure Row1 where
  b : Nat
  cap : Nat
  l : List Int
def Row1.val (r : Row1) : Value := .slice (some ⟨r.b, 0, none⟩) r.l.length (r.l.length + 4)
def Row1.ent (r : Row1) : Value := .slice (some ⟨r.b, 0, none⟩) (r.l.length + 4) r.cap
def Row1.at_ (r : Row1) : Value := .int .i64 (r.l.length : Int)
/-- It lies there, apart from the row that is being made. -/
structure Row1.Ok (S : Lab) (w : World) (base : Nat) (av : Option Nat) (r : Row1) : Prop where
  ge : base ≤ r.b
  lt : r.b < w.heap.size
  lab : S r.b = 0
  ne : some r.b ≠ av
  cells : ∀ j u, (laidInts r.l 4)[j]? = some u → w.cell? ⟨r.b, j, none⟩ = some u
theorem Row1.Ok.agree {S S' : Lab} {w w' : World} {base : Nat} {av : Option Nat} {r : Row1} (h : r.Ok S w base av) (ha : Agree S S' w w') : r.Ok S' w' base av :=
  ⟨h.ge, Nat.lt_of_lt_of_le h.lt ha.size, (ha.lab _ h.lt).trans h.lab, h.ne, fun j u hj => (ha.cell (a := ⟨r.b, j, none⟩) h.lt h.lab).trans (h.cells j u hj)⟩
theorem Row1.Ok.grown {S : Lab} {w w' : World} {base : Nat} {av av' : Option Nat} {r : Row1} (h : r.Ok S w base av) (hg : w.grownBy w' av) (hn : av' = av ∨ ∃ g, av' = some g ∧ w.heap.size ≤ g) : r.Ok S w' base av' := by
  refine ⟨h.ge, Nat.lt_of_lt_of_le h.lt hg.size, h.lab, ?_, fun j u hj => (World.cell?_of_block (a := ⟨r.b, j, none⟩) (hg.block r.b h.lt h.ne)).trans (h.cells j u hj)⟩
  rcases hn with rfl | ⟨g, rfl, hgg⟩
  · exact h.ne
  · intro he
    injection he with he
    have := h.lt
    omega
/-- A mark of a list of lists. -/
structure MarkOk (S : Lab) (w : World) (av : Option Nat) (m : Nat) (y : Int) : Prop where
  lt : m < w.heap.size
  lab : S m = 0
  ne : some m ≠ av
  cell : w.cell? ⟨m, 0, none⟩ = some (.int .i64 y)
theorem MarkOk.agree {S S' : Lab} {w w' : World} {av : Option Nat} {m : Nat} {y : Int} (h : MarkOk S w av m y) (ha : Agree S S' w w') : MarkOk S' w' av m y :=
  ⟨Nat.lt_of_lt_of_le h.lt ha.size, (ha.lab _ h.lt).trans h.lab, h.ne, (ha.cell (a := ⟨m, 0, none⟩) h.lt h.lab).trans h.cell⟩
theorem MarkOk.grown {S : Lab} {w w' : World} {av av' : Option Nat} {m : Nat} {y : Int} (h : MarkOk S w av m y) (hg : w.grownBy w' av) (hn : av' = av ∨ ∃ g, av' = some g ∧ w.heap.size ≤ g) : MarkOk S w' av' m y := by
  refine ⟨Nat.lt_of_lt_of_le h.lt hg.size, h.lab, ?_, (World.cell?_of_block (a := ⟨m, 0, none⟩) (hg.block m h.lt h.ne)).trans h.cell⟩
  rcases hn with rfl | ⟨g, rfl, hgg⟩
  · exact h.ne
  · intro he
    injection he with he
    have := h.lt
    omega
def markVal (m : Nat) : Value := .slice (some ⟨m, 0, none⟩) 1 1

/-- Where the first loop of layLists stands. -/
structure LL1 (base R : Nat) (S0 : Lab) (F0 : Nat → List Value) (w : World) (l : List (List Int)) (k : Nat) (fv : Value) (S : Lab) (F : Nat → List Value) (D : List Row1) (wr : World) : Prop where
  room : RoomAt ety base R S F wr
  agree : Agree S0 S w wr
  own : wr.ownsRow w.heap.size 33 1 fv D.length (D.map Row1.val)
  lab : ∀ g, fv.ownBlock = some g → S g = 0
  rows : D.map Row1.l = l.take k
  ok : ∀ r ∈ D, r.Ok S wr w.heap.size fv.ownBlock
  f0 : F 0 = F0 0 ++ D.map Row1.ent
  f1 : F 1 = F0 1 ++ D.map Row1.at_
  f : ∀ j, j ≠ 0 → j ≠ 1 → F j = F0 j
  high : ∀ k, k < w.heap.size → 150 ≤ S0 k → wr.heap[k]? = w.heap[k]?

theorem LL1.len {base R : Nat} {S0 : Lab} {F0 : Nat → List Value} {w : World} {l : List (List Int)} {k : Nat} {fv : Value} {S : Lab} {F : Nat → List Value} {D : List Row1} {wr : World} (h : LL1 base R S0 F0 w l k fv S F D wr) (hk : k ≤ l.length) : D.length = k := by
  have := congrArg List.length h.rows
  simp at this
  omega

/-- One list more. -/
theorem LL1.next {base R : Nat} {S0 : Lab} {F0 : Nat → List Value} {w : World} {l : List (List Int)} {k : Nat} {fv fv' : Value} {S S1 : Lab} {F F1 : Nat → List Value} {D : List Row1} {wr w1 w2 : World} (h : LL1 base R S0 F0 w l k fv S F D wr) (hk : k < l.length)
    {b cap : Nat} (hb : wr.heap.size ≤ b) (hb1 : b < w1.heap.size) (hS1 : S1 b = 0) (hR1 : RoomAt ety base R S1 F1 w1) (h0 : F1 0 = F 0 ++ [.slice (some ⟨b, 0, none⟩) ((l[k]).length + 4) cap]) (h1 : F1 1 = F 1 ++ [.int .i64 ((l[k]).length : Int)]) (hF : ∀ j, j ≠ 0 → j ≠ 1 → F1 j = F j)
    (hA : Agree S S1 wr w1) (hc : ∀ j u, (laidInts l[k] 4)[j]? = some u → w1.cell? ⟨b, j, none⟩ = some u) (hh : ∀ k, k < wr.heap.size → 150 ≤ S k → w1.heap[k]? = wr.heap[k]?)
    {W1 : World} (hW : Below w1.heap.size w1 W1) (ho : w2.ownsRow w.heap.size 33 1 fv' (D.length + 1) (D.map Row1.val ++ [.slice (some ⟨b, 0, none⟩) (l[k]).length ((l[k]).length + 4)])) (hg : W1.grownBy w2 fv.ownBlock) (hn : fv'.ownBlock = fv.ownBlock ∨ ∃ g, fv'.ownBlock = some g ∧ w1.heap.size ≤ g) :
    LL1 base R S0 F0 w l (k + 1) fv' S1 F1 (D ++ [⟨b, cap, l[k]⟩]) w2 := by
  have hg1 := grownBy_of_below hW hg
  have hlt : ∀ g, fv.ownBlock = some g → w.heap.size ≤ g ∧ g < wr.heap.size := h.own.lt
  have hl1 : ∀ g, fv.ownBlock = some g → S1 g = 0 := fun g hg' => (hA.lab g (hlt g hg').2).trans (h.lab g hg')
  refine ⟨hR1.grown hg1 hl1, (h.agree.trans hA).grown hg1 (fun g hg' => (hlt g hg').1), ?_, ?_, ?_, ?_, ?_, ?_, fun j hj0 hj1 => (hF j hj0 hj1).trans (h.f j hj0 hj1), fun q hq hS => ?_⟩
  · simpa [Row1.val] using ho
  · intro g hg'
    rcases hn with e | ⟨g', e, hge⟩
    · exact hl1 g (e ▸ hg')
    · rw [e] at hg'
      injection hg' with hg'
      subst hg'
      exact hR1.top g' hge
  · rw [List.map_append, h.rows, List.take_succ_eq_append_getElem hk]; rfl
  · intro r hr
    rcases List.mem_append.1 hr with hr | hr
    · exact ((h.ok r hr).agree hA).grown hg1 hn
    · rw [List.mem_singleton.1 hr]
      have hne : some b ≠ fv.ownBlock := fun he => by have := (hlt b he.symm).2; omega
      exact Row1.Ok.grown (av := fv.ownBlock) ⟨Nat.le_trans h.agree.size hb, hb1, hS1, hne, hc⟩ hg1 hn
  · rw [h0, h.f0]; simp [Row1.ent]
  · rw [h1, h.f1]; simp [Row1.at_]
  · have hq1 : q < wr.heap.size := Nat.lt_of_lt_of_le hq h.agree.size
    exact (hg1.block q (Nat.lt_of_lt_of_le hq1 hA.size) (fun he => by have := (hlt q he.symm).1; omega)).trans ((hh q hq1 (by rw [h.agree.lab q hq]; exact hS)).trans (h.high q hq hS))

/-- Where the second loop of layLists stands. -/
structure LL2 (base R : Nat) (S0 : Lab) (F0 : Nat → List Value) (w : World) (l : List (List Int)) (k : Nat) (fv : Value) (S : Lab) (F : Nat → List Value) (D : List Row1) (M : List Nat) (wr : World) : Prop where
  room : RoomAt ety base R S F wr
  agree : Agree S0 S w wr
  own : wr.ownsRow w.heap.size 33 1 fv (l.length + k) (D.map Row1.val ++ M.map markVal)
  lab : ∀ g, fv.ownBlock = some g → S g = 0
  rows : D.map Row1.l = l
  ok : ∀ r ∈ D, r.Ok S wr w.heap.size fv.ownBlock
  len : M.length = k
  marks : ∀ i (h : i < M.length), MarkOk S wr fv.ownBlock M[i] (lotI i)
  f0 : F 0 = F0 0 ++ D.map Row1.ent
  f1 : F 1 = F0 1 ++ D.map Row1.at_
  f : ∀ j, j ≠ 0 → j ≠ 1 → F j = F0 j
  high : ∀ k, k < w.heap.size → 150 ≤ S0 k → wr.heap[k]? = w.heap[k]?

theorem LL1.done {base R : Nat} {S0 : Lab} {F0 : Nat → List Value} {w : World} {l : List (List Int)} {k : Nat} {fv : Value} {S : Lab} {F : Nat → List Value} {D : List Row1} {wr : World} (h : LL1 base R S0 F0 w l k fv S F D wr) (hk : k = l.length) : LL2 base R S0 F0 w l 0 fv S F D [] wr := by
  have hl := h.len (Nat.le_of_eq hk)
  refine ⟨h.room, h.agree, ?_, h.lab, ?_, h.ok, rfl, fun i h => by simp at h, h.f0, h.f1, h.f, h.high⟩
  · have := h.own
    rw [hl, hk] at this
    simpa using this
  · rw [h.rows, hk, List.take_length]

/-- One mark more. -/
theorem LL2.next {base R : Nat} {S0 : Lab} {F0 : Nat → List Value} {w : World} {l : List (List Int)} {k : Nat} {fv fv' : Value} {S : Lab} {F : Nat → List Value} {D : List Row1} {M : List Nat} {wr W1 w2 : World} (h : LL2 base R S0 F0 w l k fv S F D M wr)
    (hW : Below wr.heap.size wr W1) (hm : wr.heap.size < W1.heap.size) (hc : W1.cell? ⟨wr.heap.size, 0, none⟩ = some (.int .i64 (lotI k))) (ho : w2.ownsRow w.heap.size 33 1 fv' (l.length + k + 1) (D.map Row1.val ++ M.map markVal ++ [.slice (some ⟨wr.heap.size, 0, none⟩) 1 1])) (hg : W1.grownBy w2 fv.ownBlock) (hn : fv'.ownBlock = fv.ownBlock ∨ ∃ g, fv'.ownBlock = some g ∧ W1.heap.size ≤ g) :
    LL2 base R S0 F0 w l (k + 1) fv' S F D (M ++ [wr.heap.size]) w2 := by
  have hg1 := grownBy_of_below hW hg
  have hlt : ∀ g, fv.ownBlock = some g → w.heap.size ≤ g ∧ g < wr.heap.size := h.own.lt
  have hn1 : fv'.ownBlock = fv.ownBlock ∨ ∃ g, fv'.ownBlock = some g ∧ wr.heap.size ≤ g := hn.imp id (fun ⟨g, e, hge⟩ => ⟨g, e, by omega⟩)
  refine ⟨h.room.grown hg1 h.lab, h.agree.grown hg1 (fun g hg' => (hlt g hg').1), ?_, ?_, h.rows, fun r hr => (h.ok r hr).grown hg1 hn1, by simp [h.len], ?_, h.f0, h.f1, h.f, fun q hq hS => (hg1.block q (Nat.lt_of_lt_of_le hq h.agree.size) (fun he => by have := (hlt q he.symm).1; omega)).trans (h.high q hq hS)⟩
  · simpa [markVal, Nat.add_assoc] using ho
  · intro g hg'
    rcases hn1 with e | ⟨g', e, hge⟩
    · exact h.lab g (e ▸ hg')
    · rw [e] at hg'
      injection hg' with hg'
      subst hg'
      exact h.room.top g' hge
  · intro i hi
    by_cases hiM : i < M.length
    · rw [List.getElem_append_left hiM]
      exact (h.marks i hiM).grown hg1 hn1
    · have hik : i = M.length := by simp at hi; omega
      subst hik
      rw [List.getElem_append_right (Nat.le_refl _)]
      simp only [Nat.sub_self, List.getElem_cons_zero]
      have hne : some wr.heap.size ≠ fv.ownBlock := fun he => by have := (hlt _ he.symm).2; omega
      refine ⟨Nat.lt_of_lt_of_le hm hg.size, h.room.top _ (Nat.le_refl _), ?_, ?_⟩
      · rcases hn with e | ⟨g', e, hge⟩
        · rw [e]; exact hne
        · rw [e]; intro he; injection he with he; omega
      · rw [h.len]
        exact (World.cell?_of_block (a := ⟨wr.heap.size, 0, none⟩) (hg.block _ hm hne)).trans hc
end Go.Proofs.YtjanpglnahagdaaGreatDoor

namespace Go.Proofs.YtjanpglnahagdaaGreatDoor
open Go.RowKit

theorem und38 : Tryz.prog.underlying 41 = some (.slice 32) := by kernel_rfl
theorem info30 : (Tryz.prog.info? 32).map (fun i => (i.zero, i.size, i.bytes)) = some (some (.slice none 0 0), 1, 24) := by kernel_rfl

/-- What layLists leaves. -/
structure LaidL (base R : Nat) (S : Lab) (F : Nat → List Value) (w : World) (l : List (List Int)) (room : Nat) (e : Ending) (w' : World) : Prop where
  out : ∃ (b cap : Nat) (S' : Lab) (F' : Nat → List Value) (D : List Row1) (M : List Nat), e = .returned (.slice (some ⟨b, 0, none⟩) l.length (l.length + room)) ∧ RoomAt ety base R S' F' w' ∧ Agree S S' w w' ∧ w.heap.size ≤ b ∧ b < w'.heap.size ∧ S' b = 0 ∧
    D.map Row1.l = l ∧ (∀ r ∈ D, r.Ok S' w' w.heap.size none) ∧ M.length = room ∧ (∀ i (h : i < M.length), MarkOk S' w' none M[i] (lotI i)) ∧
    (∀ j u, (D.map Row1.val ++ M.map markVal)[j]? = some u → w'.cell? ⟨b, j, none⟩ = some u) ∧
    F' 0 = F 0 ++ D.map Row1.ent ∧ F' 1 = F 1 ++ D.map Row1.at_ ∧ F' 16 = F 16 ++ [.slice (some ⟨b, 0, none⟩) (l.length + room) cap] ∧ F' 17 = F 17 ++ [.int .i64 (l.length : Int)] ∧ (∀ j, j ≠ 0 → j ≠ 1 → j ≠ 16 → j ≠ 17 → F' j = F j) ∧ ∀ k, k < w.heap.size → 150 ≤ S k → w'.heap[k]? = w.heap[k]?

set_option maxRecDepth 10000 in
set_option maxHeartbeats 4000000 in
theorem layLists_any (base R : Nat) (S : Lab) (F : Nat → List Value) (v : Value) (l : List (List Int)) (room : Nat) (w : World) (hR : RoomAt ety base R S F w) (hv : ∀ wr S', Agree S S' w wr → RowsAt wr v l) (hl : l.length ≤ 100000) (hlr : ∀ r ∈ l, r.length ≤ 100000) (hr0 : 0 < room) (hr : room ≤ 40)
    (hF0 : (F 0).length + l.length ≤ 900000) (hF1 : (F 1).length + l.length ≤ 900000) (hF16 : (F 16).length ≤ 900000) (hF17 : (F 17).length ≤ 900000) :
    Calls Tryz.prog 118 #[.pointer (some ⟨R, 0, none⟩), v, .int .i64 (room : Int)] w (LaidL base R S F w l room) := by
  have HV : Hid (∀ wr S', Agree S S' w wr → RowsAt wr v l) := hv
  obtain ⟨a, cap, rfl, hm⟩ := (hv w S (Agree.refl _ _)).form
  have hb0 : Below w.heap.size w (w.alloc (.cells #[] 33)) := (Below.refl _ _).alloc (Nat.le_refl _) _
  have H1 : Hid (LL1 base R S F w l 0 (.slice (some ⟨w.heap.size, 0, none⟩) 0 0) S F [] (w.alloc (.cells #[] 33))) :=
    ⟨hR.kept hb0, Agree.of_below S hb0, World.ownsRow_made w #[] 0 (Nat.le_refl _) (by unfold maxLen; omega) rfl, fun g hg => by simp [Value.ownBlock] at hg; subst hg; exact hR.top _ (Nat.le_refl _), by simp, fun r hr => by simp at hr, by simp, by simp, fun _ _ _ => rfl, fun q hq _ => hb0.block q hq⟩
  have HF : Hid ((F 0).length + l.length ≤ 900000 ∧ (F 1).length + l.length ≤ 900000 ∧ (F 16).length ≤ 900000 ∧ (F 17).length ≤ 900000 ∧ ∀ r ∈ l, r.length ≤ 100000) := ⟨hF0, hF1, hF16, hF17, hlr⟩
  clear hR hv hb0 hF0 hF1 hF16 hF17 hlr
  go_enter Tryz.func118, Tryz.ntmps118
  go_wp2_with fail
  go_loopw [7, 8] (fun fv iv wr => ∃ (k : Nat) (S1 : Lab) (F1 : Nat → List Value) (D : List Row1), iv = .int .i64 (k : Int) ∧ k ≤ l.length ∧ Hid (LL1 base R S F w l k fv S1 F1 D wr)) (fun _ iv _ => l.length - (intOf iv).toNat)
  case atStart => exact ⟨0, S, F, [], rfl, Nat.zero_le _, H1⟩
  case round =>
    obtain ⟨k, S1, F1, D, rfl, hk, hH⟩ := hrel
    clear H1
    by_cases hlt : k < l.length
    · have hkI : (k : Int) < (l.length : Int) := by omega
      have hDl := hH.out.len hk
      obtain ⟨ra, rc, hre, _, hro⟩ := HV.out _ S1 hH.out.agree
      injection hre with e1 e2 e3
      subst e1 e3
      obtain ⟨b0, o0, ha, hb0, hcs⟩ := hro (by omega)
      subst ha
      obtain ⟨u, hcell, hu⟩ := hcs k hlt
      have HL : Hid (Calls Tryz.prog 117 #[.pointer (some ⟨R, 0, none⟩), u, .int .i64 4] _ (LaidI base R S1 F1 _ l[k] 4)) :=
        layInts_any base R S1 F1 u l[k] 4 _ hH.out.room hu (HF.out.2.2.2.2 _ (List.getElem_mem hlt)) (by decide) (by decide)
          (by rw [hH.out.f0]; simp; have := HF.out.1; omega) (by rw [hH.out.f1]; simp; have := HF.out.2.1; omega)
      obtain ⟨ua, uc, rfl, _⟩ := hu.form
      obtain ⟨fa, fc, hfv⟩ := own_form hH.out.own
      subst hfv
      have hDI : D.length ≤ 100000 := by omega
      clear hro hcs hu e2 hDl
      go_wp2_with (first
        | (go_at_call 117; refine calls_at HL.out (by with_reducible rfl) (by with_reducible rfl) ?_; rintro e w1 ⟨⟨b, cp, S2, F2, he, hb, hb1, hS2, hR2, h0, h1, hF2, hA2, hc2, hh2⟩⟩; subst he;
           have ho1 : w1.ownsRow w.heap.size 33 1 (.slice fa D.length fc) D.length (D.map Row1.val) := ownsRow_same hH.out.own (fun g hg => hA2.block g (hH.out.own.lt g hg).2 (hH.out.lab g hg));
           have HO1 : Hid (w1.ownsRow w.heap.size 33 1 (.slice fa D.length fc) D.length (D.map Row1.val)) := ho1;
           have HN : Hid (∀ fv' W1 w2, Below w1.heap.size w1 W1 → w2.ownsRow w.heap.size 33 1 fv' (D.length + 1) (D.map Row1.val ++ [.slice (some ⟨b, 0, none⟩) (l[k]).length ((l[k]).length + 4)]) → W1.grownBy w2 (Value.ownBlock (.slice fa D.length fc)) → (fv'.ownBlock = Value.ownBlock (.slice fa D.length fc) ∨ ∃ g, fv'.ownBlock = some g ∧ w1.heap.size ≤ g) → LL1 base R S F w l (k + 1) fv' S2 F2 (D ++ [⟨b, cp, l[k]⟩]) w2) := fun fv' W1 w2 q1 q2 q3 q4 => hH.out.next hlt hb hb1 hS2 hR2 h0 h1 hF2 hA2 hc2 hh2 q1 q2 q3 q4;
           have HBS : Hid (w.heap.size ≤ w1.heap.size) := Nat.le_trans hH.out.agree.size hA2.size;
           clear ho1 hb hb1 hS2 hR2 h0 h1 hF2 hA2 hc2 hh2)
        | (at_builtin; refine append_one w1 (.slice (some ⟨b, 0, none⟩) (l[k]).length ((l[k]).length + 4)) rfl (.tmp 17) (.tmp 24) 32 33 (.slice none 0 0) 24 rfl und30 info27 rfl w.heap.size _ _ _ (by rfl) HO1.out rfl _ rfl (by rfl) (by unfold maxLen; omega) (by omega) HBS.out ?_; intro v2 w2 ho2 hg2 hn2))
      have HX : Hid (LL1 base R S F w l (k + 1) v2 S2 F2 (D ++ [⟨b, cp, l[k]⟩]) w2) := HN.out v2 _ w2 ((Below.refl _ _).alloc (Nat.le_refl _) _) ho2 hg2 (hn2.imp id (fun h => ⟨_, h, Nat.le_succ _⟩))
      clear ho2 hg2 hn2 HN
      go_wp2_with fail
      go_roundw
      case rel => exact ⟨k + 1, S2, F2, _, by go_num, by omega, HX⟩
      case measure => simp [intOf]; omega
    · have hkI : ¬ (k : Int) < (l.length : Int) := by omega
      have H2 : Hid (LL2 base R S F w l 0 _ S1 F1 D [] _) := hH.out.done (by omega)
      clear hH
      go_wp2_with fail
      go_loopw [7, 9] (fun fv iv wr => ∃ (k : Nat) (M : List Nat), iv = .int .i64 (k : Int) ∧ k ≤ room ∧ Hid (LL2 base R S F w l k fv S1 F1 D M wr)) (fun _ iv _ => room - (intOf iv).toNat)
      case atStart => exact ⟨0, [], rfl, Nat.zero_le _, H2⟩
      case round =>
        obtain ⟨k2, M, rfl, hk2, hH⟩ := hrel
        clear H2
        by_cases hlt2 : k2 < room
        · have hkI2 : (k2 : Int) < (room : Int) := by omega
          obtain ⟨fa, fc, hfv⟩ := own_form hH.out.own
          subst hfv
          have HOA : Hid ((World.alloc _ (.cells #[.int .i64 (lotI k2)] 3)).ownsRow w.heap.size 33 1 (.slice fa (l.length + k2) fc) (l.length + k2) (D.map Row1.val ++ M.map markVal)) := hH.out.own.alloc _
          rename World => wq
          go_wp2_with (first
            | (go_at_call 60; refine (lot_any k2 _).mono ?_; rintro e w' ⟨rfl, hww⟩; rw [hww]; clear hww)
            | (at_builtin; refine append_one (wq.alloc (.cells #[.int .i64 (lotI k2)] 3)) (.slice (some ⟨wq.heap.size, 0, none⟩) 1 1) rfl (.tmp 31) (.tmp 35) 32 33 (.slice none 0 0) 24 rfl und30 info27 rfl w.heap.size _ _ _ (by rfl) HOA.out rfl _ rfl (by simp; rfl) (by unfold maxLen; omega) (by omega) (by have := hH.out.agree.size; simp; omega) ?_; intro v2 w2 ho2 hg2 hn2))
          have HX : Hid (LL2 base R S F w l (k2 + 1) v2 S1 F1 D (M ++ [wq.heap.size]) w2) :=
            hH.out.next (W1 := (wq.alloc (.cells #[.int .i64 (lotI k2)] 3)).alloc (.cells #[.slice (some ⟨wq.heap.size, 0, none⟩) 1 1] 33)) (((Below.refl _ _).alloc (Nat.le_refl _) _).alloc (by simp) _) (by simp; omega) (by simp) ho2 hg2 (hn2.imp id (fun h => ⟨_, h, by simp⟩))
          clear ho2 hg2 hn2
          go_roundw
          case rel => exact ⟨k2 + 1, _, by go_num, by omega, HX⟩
          case measure => simp [intOf]; omega
        · have hkI2 : ¬ (k2 : Int) < (room : Int) := by omega
          obtain rfl : k2 = room := by omega
          rename World => wq
          have hRw := hH.out.room
          obtain ⟨v0, hv0, ho0, hl0⟩ := hRw.field 16 (by decide)
          obtain ⟨b, cp, cur, hfv, hbb, hbg, hbc, hbm, hbs, hbt⟩ : ∃ b cp cur, _ = Value.slice (some ⟨b, 0, none⟩) (l.length + k2) cp ∧ w.heap.size ≤ b ∧ wq.heap[b]? = some (.cells cur 33 (0, 0)) ∧ l.length + k2 ≤ cp ∧ cp ≤ maxLen ∧ cur.size = cp * 1 ∧ cur.toList.take ((l.length + k2) * 1) = D.map Row1.val ++ M.map markVal := by
            rcases hH.out.own.2 with ⟨_, hn⟩ | h
            · omega
            · exact h
          subst hfv
          have hSb : S1 b = 0 := hH.out.lab b rfl
          have hbw : b < wq.heap.size := (Array.getElem?_eq_some_iff.1 hbg).1
          have HCB : Hid (∀ j u, (D.map Row1.val ++ M.map markVal)[j]? = some u → wq.cell? ⟨b, j, none⟩ = some u) := fun j u hj => by
            have := hH.out.own.cells (g := b) rfl j u hj
            rwa [addr_none, Nat.zero_add] at this
          have HRW : Hid (RoomAt ety base R S1 F1 wq) := hRw
          have HO0 : Hid (wq.ownsRow base (ety 16) 1 v0 (F1 16).length (F1 16)) := ho0
          have HFL : Hid ((F1 16).length ≤ 900000 ∧ (F1 17).length ≤ 900000) := by
            rw [hH.out.f 16 (by decide) (by decide), hH.out.f 17 (by decide) (by decide)]
            exact ⟨HF.out.2.2.1, HF.out.2.2.2.1⟩
          have hcpI : (l.length : Int) + (k2 : Int) ≤ (cp : Int) := by omega
          unfold maxLen at hbm
          clear ho0 hl0 hRw hbg hbs hbt
          go_wp2_with (first
            | (at_builtin; refine append_one wq (.slice (some ⟨b, 0, none⟩) (l.length + k2) cp) rfl (.tmp 41) (.tmp 43) 41 32 (.slice none 0 0) 24 rfl und38 info30 rfl base v0 _ _ (by rfl) HO0.out rfl _ rfl (by rfl) (by have := HFL.out.1; unfold maxLen; omega) (by have := HFL.out.1; omega) HRW.out.bas ?_; intro v1 w1 ho1 hg1 hn1;
               obtain ⟨a1, c1, hf1⟩ := own_form ho1;
               subst hf1;
               have hW1 : Below wq.heap.size wq (wq.alloc (.cells #[.slice (some ⟨b, 0, none⟩) (l.length + k2) cp] 32)) := (Below.refl _ _).alloc (Nat.le_refl _) _;
               obtain ⟨hcR, hfR⟩ := HRW.out.after (f := 16) (by decide) hW1 hv0 hg1;
               obtain ⟨S2, hR2, hA2, hz2⟩ := HRW.out.push (f := 16) (by decide) hW1 hv0 ho1 hg1 (by simpa using hn1);
               have hh2 := HRW.out.push_high (v' := .slice a1 ((F1 16).length + 1) c1) (f := 16) (by decide) hW1 hv0 hg1;
               have q0 := (hcR 16).trans hv0;
               have q1 := hfR 16;
               obtain ⟨w2, hw2⟩ : ∃ w2, w1.setCell ⟨R, 16, none⟩ (.slice a1 ((F1 16).length + 1) c1) = w2 := ⟨_, rfl⟩;
               rw [hw2] at hR2 hA2 hh2;
               have HH2 : Hid (∀ k, k < wq.heap.size → 150 ≤ S1 k → w2.heap[k]? = wq.heap[k]?) := hh2;
               have HR2 : Hid (RoomAt ety base R S2 (fun j => if j = 16 then F1 16 ++ [.slice (some ⟨b, 0, none⟩) (l.length + k2) cp] else F1 j) w2) := hR2;
               have HA2 : Hid (Agree S1 S2 wq w2) := hA2;
               clear ho1 hg1 hn1 hW1 hcR hfR hA2 hz2 hh2;
               obtain ⟨vA, hvA, hoA, hlA⟩ := hR2.field 17 (by decide);
               have HOA : Hid (w2.ownsRow base 3 1 vA (F1 17).length (F1 17)) := hoA;
               clear hR2 hoA hlA)
            | (at_builtin; refine append_one w2 (.int .i64 (l.length : Int)) rfl (.tmp 51) (.tmp 54) 33 3 (.int .i64 0) 8 rfl und27 info3 rfl base vA _ _ (by rfl) HOA.out rfl _ rfl (by rfl) (by have := HFL.out.2; unfold maxLen; omega) (by have := HFL.out.2; omega) HR2.out.bas ?_; intro v3 w3 ho3 hg3 hn3;
               obtain ⟨a3, c3, hf3⟩ := own_form ho3;
               subst hf3;
               have hW3 : Below w2.heap.size w2 (w2.alloc (.cells #[.int .i64 (l.length : Int)] 3)) := (Below.refl _ _).alloc (Nat.le_refl _) _;
               obtain ⟨hcR3, hfR3⟩ := HR2.out.after (f := 17) (by decide) hW3 hvA hg3;
               obtain ⟨S3, hR3, hA3, hz3⟩ := HR2.out.push (f := 17) (by decide) hW3 hvA ho3 hg3 (by simpa using hn3);
               have hh3 := HR2.out.push_high (v' := .slice a3 ((F1 17).length + 1) c3) (f := 17) (by decide) hW3 hvA hg3;
               have q3 := (hcR3 17).trans hvA;
               have q4 := hfR3 17;
               obtain ⟨w4, hw4⟩ : ∃ w4, w3.setCell ⟨R, 17, none⟩ (.slice a3 ((F1 17).length + 1) c3) = w4 := ⟨_, rfl⟩;
               rw [hw4] at hR3 hA3 hh3;
               have HH3 : Hid (∀ k, k < w2.heap.size → 150 ≤ S2 k → w4.heap[k]? = w2.heap[k]?) := hh3;
               have HR3 : Hid (RoomAt ety base R S3 (fun j => if j = 17 then F1 17 ++ [.int .i64 (l.length : Int)] else if j = 16 then F1 16 ++ [.slice (some ⟨b, 0, none⟩) (l.length + k2) cp] else F1 j) w4) := hR3;
               have HA3 : Hid (Agree S2 S3 w2 w4) := hA3;
               clear ho3 hg3 hn3 hW3 hcR3 hfR3 hR3 hA3 hz3 hh3))
          go_ret
          have hA := HA2.out.trans HA3.out
          refine ⟨⟨b, cp, S3, _, D, M, rfl, HR3.out, hH.out.agree.trans hA, hbb, Nat.lt_of_lt_of_le hbw hA.size, (hA.lab b hbw).trans hSb, hH.out.rows, ?_, hH.out.len, ?_, ?_, ?_, ?_, ?_, ?_, ?_, ?_⟩⟩
          · intro r hr
            have h := (hH.out.ok r hr).agree hA
            exact ⟨h.ge, h.lt, h.lab, by simp, h.cells⟩
          · intro i hi
            have h := (hH.out.marks i hi).agree hA
            exact ⟨h.lt, h.lab, by simp, h.cell⟩
          · exact fun j u hj => (hA.cell (a := ⟨b, j, none⟩) hbw hSb).trans (HCB.out j u hj)
          · exact hH.out.f0
          · exact hH.out.f1
          · show F1 16 ++ _ = _
            rw [hH.out.f 16 (by decide) (by decide)]
          · show F1 17 ++ _ = _
            rw [hH.out.f 17 (by decide) (by decide)]
          · intro j h0 h1 h16 h17
            simp only [h16, h17, if_false]
            exact hH.out.f j h0 h1
          · intro q hq hS
            have hq1 : q < wq.heap.size := Nat.lt_of_lt_of_le hq hH.out.agree.size
            have hS1 : 150 ≤ S1 q := by rw [hH.out.agree.lab q hq]; exact hS
            exact (HH3.out q (Nat.lt_of_lt_of_le hq1 HA2.out.size) (by rw [HA2.out.lab q hq1]; exact hS1)).trans ((HH2.out q hq1 hS1).trans (hH.out.high q hq hS))
end Go.Proofs.YtjanpglnahagdaaGreatDoor
