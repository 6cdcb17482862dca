/-
  Put together: MdOff, BiIts, DrAt, DtOps, MdCopyM.
-/
import Derived.Test.YtchpapppkmnfnaaGreatDoorMdSrc
import Derived.Test.YtchpapppkmnfnaaGreatDoorJ20
import Derived.Test.YtchpapppkmnfnaaGreatDoorJ06
import Derived.BigQuiet
namespace Go.Proofs.YtchpapppkmnfnaaGreatDoor
open Go.RowKit

/-- All blocks but those of S are as they were. -/
structure Off (S : Nat → Prop) (w w' : World) : Prop where
  size : w.heap.size ≤ w'.heap.size
  block : ∀ k, k < w.heap.size → ¬ S k → w'.heap[k]? = w.heap[k]?
theorem Off.refl (S : Nat → Prop) (w : World) : Off S w w := ⟨Nat.le_refl _, fun _ _ _ => rfl⟩
theorem Off.trans {S : Nat → Prop} {a b c : World} (h : Off S a b) (k : Off S b c) : Off S a c :=
  ⟨Nat.le_trans h.size k.size, fun i hi hs => (k.block i (Nat.lt_of_lt_of_le hi h.size) hs).trans (h.block i hi hs)⟩
theorem Off.of_below {S : Nat → Prop} {w w' : World} (h : Below w.heap.size w w') : Off S w w' := ⟨h.size, fun k hk _ => h.block k hk⟩
theorem Off.set {S : Nat → Prop} {w : World} {g i : Nat} (v : Value) (h : S g) : Off S w (w.setCell ⟨g, i, none⟩ v) :=
  ⟨by simp, fun k _ hs => heap_setCell_other w ⟨g, i, none⟩ k v (fun e => hs (e ▸ h))⟩
theorem Off.less {S T : Nat → Prop} {w w' : World} (h : Off S w w') (hs : ∀ k, S k → T k) : Off T w w' := ⟨h.size, fun k hk ht => h.block k hk fun e => ht (hs k e)⟩
theorem Off.grown {S : Nat → Prop} {w w' : World} {row : Option Nat} (h : w.grownBy w' row) (hr : ∀ k, row = some k → S k) : Off S w w' :=
  ⟨h.size, fun k hk hs => h.block k hk fun e => hs (hr k e.symm)⟩

/-- So it stays, whatever is written to the rows of S. -/
def Kept (S : Nat → Prop) (w : World) (p : World → Prop) : Prop := ∀ w', Off S w w' → p w'
theorem Kept.now {S : Nat → Prop} {w : World} {p : World → Prop} (h : Kept S w p) : p w := h w (Off.refl _ _)
theorem Kept.next {S : Nat → Prop} {w w' : World} {p : World → Prop} (h : Kept S w p) (ho : Off S w w') : Kept S w' p := fun w2 h2 => h w2 (ho.trans h2)
/-- What an elder world says stays, where the rows of S are younger. -/
theorem off_below {S : Nat → Prop} {w0 w w' : World} (h0 : Below w0.heap.size w0 w) (hS : ∀ k, S k → w0.heap.size ≤ k) (h : Off S w w') : w0.heap.size ≤ w'.heap.size ∧ ∀ b o, b < w0.heap.size → w'.cell? ⟨b, o, none⟩ = w0.cell? ⟨b, o, none⟩ :=
  ⟨Nat.le_trans h0.size h.size, fun b o hb => World.cell?_of_block (a := ⟨b, o, none⟩) ((h.block b (Nat.lt_of_lt_of_le hb h0.size) fun e => by have := hS b e; omega).trans (h0.block b hb))⟩
theorem kept_ints {S : Nat → Prop} {w0 w : World} {v : Value} {l : List Int} (h : IntsAt w0 v l) (h0 : Below w0.heap.size w0 w) (hS : ∀ k, S k → w0.heap.size ≤ k) : Kept S w (fun w' => IntsAt w' v l) := fun w' ho => by
  obtain ⟨h1, h2⟩ := off_below h0 hS ho
  exact h.mono h1 h2
/-- Rows of the call's own. -/
theorem own_cells {w : World} {B : Nat} {e : TypeId} {size : Nat} {v : Value} {n : Nat} {xs : List Value} (h : w.ownsRow B e size v n xs) : (v = .slice none 0 0 ∧ n = 0) ∨ ∃ g cap, v = .slice (some ⟨g, 0, none⟩) n cap ∧ B ≤ g ∧ g < w.heap.size ∧ n ≤ cap ∧ ∀ j u, xs[j]? = some u → w.cell? ⟨g, j, none⟩ = some u := by
  rcases h.2 with h1 | ⟨g, cap, cur, hv, hg, hc, hm, _, _, ht⟩
  · exact .inl h1
  · refine .inr ⟨g, cap, hv, hg, (Array.getElem?_eq_some_iff.1 hc).1, hm, fun j u hj => ?_⟩
    have hjl : j < n * size := by rw [← h.1]; exact (List.getElem?_eq_some_iff.1 hj).1
    rw [← ht, List.getElem?_take, if_pos hjl] at hj
    have hj3 : cur[j]? = some u := by simpa using hj
    simp [World.cell?, hc, hj3]
theorem own_off {S : Nat → Prop} {w w' : World} {B : Nat} {e : TypeId} {size : Nat} {v : Value} {n : Nat} {xs : List Value} (h : w.ownsRow B e size v n xs) (hS : ∀ g, v.ownBlock = some g → ¬ S g) (ho : Off S w w') : w'.ownsRow B e size v n xs := by
  refine ⟨h.1, ?_⟩
  rcases h.2 with h1 | ⟨g, cap, cur, hv, hg, hc, h2⟩
  · exact .inl h1
  · refine .inr ⟨g, cap, cur, hv, hg, ?_, h2⟩
    rw [ho.block g (Array.getElem?_eq_some_iff.1 hc).1 (hS g (by rw [hv]; rfl))]
    exact hc
theorem own_ints' {w : World} {B : Nat} {e : TypeId} {v : Value} {l : List Int} (h : w.ownsRow B e 1 v l.length (l.map (.int .i64))) (hm : l.length ≤ maxLen) : IntsAt w v l := by
  rcases own_cells h with ⟨rfl, hn⟩ | ⟨g, cap, rfl, _, hg, _, hc⟩
  · exact ⟨none, 0, by rw [hn], hm, fun h0 => by omega⟩
  · exact ⟨_, cap, rfl, hm, fun _ => ⟨g, 0, rfl, hg, fun j hj => by rw [Nat.zero_add]; exact hc j _ (by simp [hj])⟩⟩
theorem own_terms {w : World} {B : Nat} {e : TypeId} {v : Value} {l : List (Int × Int)} (h : w.ownsRow B e 2 v l.length (termCells l)) (hm : l.length ≤ maxLen) : TermsAt w v l := by
  rcases own_cells h with ⟨rfl, hn⟩ | ⟨g, cap, rfl, _, hg, _, hc⟩
  · exact ⟨none, 0, by rw [hn], hm, fun h0 => by omega⟩
  · exact ⟨_, cap, rfl, hm, fun _ => ⟨g, 0, rfl, hg, fun j hj => by rw [Nat.zero_add]; exact ⟨hc _ _ (termCells_get l j hj).1, hc _ _ (termCells_get l j hj).2⟩⟩⟩
theorem own_vars {w : World} {B : Nat} {e : TypeId} {v : Value} {l : List Md.Vr} (h : w.ownsRow B e 3 v l.length (varCells l)) (hm : l.length ≤ maxLen) (hn : ∀ x ∈ l, x.name.size ≤ maxLen) : VarsAt w v l := by
  rcases own_cells h with ⟨rfl, h0⟩ | ⟨g, cap, rfl, _, hg, _, hc⟩
  · exact ⟨none, 0, by rw [h0], hm, hn, fun h1 => by omega⟩
  · exact ⟨_, cap, rfl, hm, hn, fun _ => ⟨g, 0, rfl, hg, fun j hj => by rw [Nat.zero_add]; exact ⟨hc _ _ (varCells_get l j hj).1, hc _ _ (varCells_get l j hj).2.1, hc _ _ (varCells_get l j hj).2.2⟩⟩⟩
theorem keptown_ints {S : Nat → Prop} {w : World} {B : Nat} {e : TypeId} {v : Value} {l : List Int} (h : w.ownsRow B e 1 v l.length (l.map (.int .i64))) (hS : ∀ g, B ≤ g → ¬ S g) (hm : l.length ≤ maxLen) : Kept S w (fun w' => IntsAt w' v l) := fun _ ho => own_ints' (own_off h (fun g hg => hS g (h.lt g hg).1) ho) hm
theorem keptown_terms {S : Nat → Prop} {w : World} {B : Nat} {e : TypeId} {v : Value} {l : List (Int × Int)} (h : w.ownsRow B e 2 v l.length (termCells l)) (hS : ∀ g, B ≤ g → ¬ S g) (hm : l.length ≤ maxLen) : Kept S w (fun w' => TermsAt w' v l) := fun _ ho => own_terms (own_off h (fun g hg => hS g (h.lt g hg).1) ho) hm
theorem keptown_vars {S : Nat → Prop} {w : World} {B : Nat} {e : TypeId} {v : Value} {l : List Md.Vr} (h : w.ownsRow B e 3 v l.length (varCells l)) (hS : ∀ g, B ≤ g → ¬ S g) (hm : l.length ≤ maxLen) (hn : ∀ x ∈ l, x.name.size ≤ maxLen) : Kept S w (fun w' => VarsAt w' v l) := fun _ ho => own_vars (own_off h (fun g hg => hS g (h.lt g hg).1) ho) hm hn
end Go.Proofs.YtchpapppkmnfnaaGreatDoor

namespace Go.Proofs.YtchpapppkmnfnaaGreatDoor
open Go.RowKit

/-- A row: its value, its type, its cells. -/
abbrev Rw := Value × TypeId × List Value
def Rw.blk (x : Rw) : Option Nat := x.1.ownBlock
structure Its (w : World) (L : List Rw) : Prop where
  row : ∀ x ∈ L, w.ownsRow 0 x.2.1 1 x.1 x.2.2.length x.2.2
  nd : (L.filterMap Rw.blk).Nodup
theorem its_keep {w w' : World} {B : Nat} {e : TypeId} {size : Nat} {v : Value} {n : Nat} {xs : List Value} (h : w.ownsRow B e size v n xs) (hk : ∀ g, v.ownBlock = some g → w'.heap[g]? = w.heap[g]?) : w'.ownsRow B e size v n xs := by
  refine ⟨h.1, ?_⟩
  rcases h.2 with h1 | ⟨g, cap, cur, hv, hg, hc, h2⟩
  · exact .inl h1
  · exact .inr ⟨g, cap, cur, hv, hg, (hk g (by rw [hv]; rfl)).trans hc, h2⟩
theorem Its.lt {w : World} {L : List Rw} (h : Its w L) {x : Rw} (hx : x ∈ L) {g : Nat} (hg : x.1.ownBlock = some g) : g < w.heap.size := ((h.row x hx).lt g hg).2
theorem Its.below {w w' : World} {L : List Rw} (h : Its w L) (hb : Below w.heap.size w w') : Its w' L :=
  ⟨fun x hx => its_keep (h.row x hx) fun g hg => hb.block g (h.lt hx hg), h.nd⟩
theorem Its.keep {w w' : World} {L : List Rw} (h : Its w L) (hk : ∀ x ∈ L, ∀ g, x.1.ownBlock = some g → w'.heap[g]? = w.heap[g]?) : Its w' L :=
  ⟨fun x hx => its_keep (h.row x hx) (hk x hx), h.nd⟩
theorem Its.sub {w : World} {L M : List Rw} (h : Its w L) (hs : M.Sublist L) : Its w M := ⟨fun x hx => h.row x (hs.subset hx), (hs.filterMap _).nodup h.nd⟩
theorem Its.perm {w : World} {L M : List Rw} (h : Its w L) (hp : L.Perm M) : Its w M := ⟨fun x hx => h.row x (hp.mem_iff.2 hx), ((hp.filterMap _).nodup_iff).1 h.nd⟩
/-- Another row's block is another one. -/
theorem Its.ne {w : World} {A C : List Rw} {x y : Rw} (h : Its w (A ++ x :: C)) (hy : y ∈ A ++ C) {g : Nat} (hg : x.1.ownBlock = some g) : y.1.ownBlock ≠ some g := fun e => by
  have hn := h.nd
  rw [List.filterMap_append, List.filterMap_cons] at hn
  have hx : Rw.blk x = some g := hg
  rw [hx] at hn
  simp only at hn
  rw [List.nodup_append] at hn
  obtain ⟨h1, h2, h3⟩ := hn
  rcases List.mem_append.1 hy with a | a
  · exact h3 g (List.mem_filterMap.2 ⟨y, a, e⟩) g (by simp) rfl
  · exact (List.nodup_cons.1 h2).1 (List.mem_filterMap.2 ⟨y, a, e⟩)
/-- A row changes: the block is the same, or a new one. -/
theorem Its.turn {w w' : World} {A C : List Rw} {x x' : Rw} (h : Its w (A ++ x :: C)) (hr : w'.ownsRow 0 x'.2.1 1 x'.1 x'.2.2.length x'.2.2) (hk : ∀ g, g < w.heap.size → x.1.ownBlock ≠ some g → w'.heap[g]? = w.heap[g]?) (hb : x'.1.ownBlock = x.1.ownBlock ∨ ∀ g, x'.1.ownBlock = some g → w.heap.size ≤ g) : Its w' (A ++ x' :: C) := by
  have hin : ∀ y ∈ A ++ C, y ∈ A ++ x :: C := fun y hy => by
    rcases List.mem_append.1 hy with a | a
    · exact List.mem_append_left _ a
    · exact List.mem_append_right _ (List.mem_cons_of_mem _ a)
  have oth : ∀ y ∈ A ++ C, w'.ownsRow 0 y.2.1 1 y.1 y.2.2.length y.2.2 := fun y hy => its_keep (h.row y (hin y hy)) fun g hg => hk g (h.lt (hin y hy) hg) fun e => h.ne hy e hg
  refine ⟨fun y hy => ?_, ?_⟩
  · rcases List.mem_append.1 hy with a | a
    · exact oth y (List.mem_append_left _ a)
    · rcases List.mem_cons.1 a with a | a
      · rw [a]; exact hr
      · exact oth y (List.mem_append_right _ a)
  · have hn := h.nd
    rw [List.filterMap_append, List.filterMap_cons] at hn ⊢
    have e1 : Rw.blk x' = x'.1.ownBlock := rfl
    have e2 : Rw.blk x = x.1.ownBlock := rfl
    rcases hb with e | e
    · rw [e1, e, ← e2]; exact hn
    · have hn2 : (A.filterMap Rw.blk ++ C.filterMap Rw.blk).Nodup := by
        cases hx : Rw.blk x with
        | none => rw [hx] at hn; exact hn
        | some g =>
          rw [hx] at hn
          exact ((List.Sublist.append_left (List.sublist_cons_self _ _) _).nodup hn)
      cases hx : Rw.blk x' with
      | none => exact hn2
      | some g =>
        have hg := e g hx
        have hnot : ∀ y ∈ A ++ C, Rw.blk y ≠ some g := fun y hy e3 => by
          have := h.lt (hin y hy) e3
          omega
        simp only
        rw [List.nodup_append] at hn2 ⊢
        refine ⟨hn2.1, List.nodup_cons.2 ⟨fun hm => ?_, hn2.2.1⟩, fun a ha b hb2 => ?_⟩
        · obtain ⟨y, hy, e3⟩ := List.mem_filterMap.1 hm
          exact hnot y (List.mem_append_right _ hy) e3
        · rcases List.mem_cons.1 hb2 with e3 | e3
          · intro e4
            rw [e4, e3] at ha
            obtain ⟨y, hy, e5⟩ := List.mem_filterMap.1 ha
            exact hnot y (List.mem_append_left _ hy) e5
          · exact hn2.2.2 a ha b e3
/-- A row that is new. -/
theorem Its.add {w : World} {L : List Rw} {x : Rw} (h : Its w L) (hr : w.ownsRow 0 x.2.1 1 x.1 x.2.2.length x.2.2) (hb : ∀ g, x.1.ownBlock = some g → ∀ y ∈ L, y.1.ownBlock ≠ some g) : Its w (x :: L) := by
  refine ⟨fun y hy => ?_, ?_⟩
  · rcases List.mem_cons.1 hy with a | a
    · rw [a]; exact hr
    · exact h.row y a
  · rw [List.filterMap_cons]
    cases hx : Rw.blk x with
    | none => exact h.nd
    | some g =>
      simp only
      refine List.nodup_cons.2 ⟨fun hm => ?_, h.nd⟩
      obtain ⟨y, hy, e⟩ := List.mem_filterMap.1 hm
      exact hb g hx y hy e
/-- An append, of one thing that was laid into a block of its own. -/
theorem Its.app {w w' : World} {A C : List Rw} {v v' u : Value} {t : TypeId} {xs : List Value} (h : Its w (A ++ (v, t, xs) :: C)) (ho : w'.ownsRow 0 t 1 v' (xs.length + 1) (xs ++ [u])) (hg : (w.alloc (.cells #[u] t)).grownBy w' v.ownBlock) (hn : v'.ownBlock = v.ownBlock ∨ v'.ownBlock = some (w.heap.size + 1)) : Its w' (A ++ (v', t, xs ++ [u]) :: C) := by
  refine h.turn (by rw [List.length_append]; exact ho) (fun g hl hne => ?_) ?_
  · rw [hg.block g (by simp; omega) (fun e => hne e.symm), heap_alloc_old w _ hl]
  · rcases hn with e | e
    · exact .inl e
    · refine .inr fun g hg' => ?_
      rw [e] at hg'
      injection hg' with hg'
      omega
end Go.Proofs.YtchpapppkmnfnaaGreatDoor

namespace Go.Proofs.YtchpapppkmnfnaaGreatDoor
open Go.RowKit

theorem un53 : Tryz.prog.underlying 42 = some (.slice 3) := by kernel_rfl
theorem un63 : Tryz.prog.underlying 41 = some (.slice 42) := by kernel_rfl
theorem un64 : Tryz.prog.underlying 50 = some (.slice 41) := by kernel_rfl
theorem inf3 : (Tryz.prog.info? 3).map (fun i => (i.zero, i.size, i.bytes)) = some (some (.int .i64 0), 1, 8) := by kernel_rfl
theorem inf53 : (Tryz.prog.info? 42).map (fun i => (i.zero, i.size, i.bytes)) = some (some (.slice none 0 0), 1, 24) := by kernel_rfl
theorem inf63 : (Tryz.prog.info? 41).map (fun i => (i.zero, i.size, i.bytes)) = some (some (.slice none 0 0), 1, 24) := by kernel_rfl

/-- A list of ints in blocks of S. -/
def LsR (S : Nat → Prop) (w : World) (v : Value) (L : List Int) : Prop := w.ownsRow 0 3 1 v L.length (L.map (.int .i64)) ∧ ∀ g, v.ownBlock = some g → S g
def LssR (S : Nat → Prop) (w : World) (v : Value) (LL : List (List Int)) : Prop := ∃ cs, w.ownsRow 0 42 1 v LL.length cs ∧ (∀ g, v.ownBlock = some g → S g) ∧ ∀ i (h : i < LL.length), ∃ u, cs[i]? = some u ∧ LsR S w u LL[i]
def MksR (S : Nat → Prop) (w : World) (v dv : Value) (MM : List (List (List Int))) : Prop := ∃ cs, w.ownsRow 0 41 1 v MM.length cs ∧ (∀ g, v.ownBlock = some g → S g) ∧ ∀ i (h : i < MM.length), ∃ u, cs[i]? = some u ∧ LssR S w u MM[i] ∧ ∀ g, dv.ownBlock = some g → u.ownBlock ≠ some g
/-- Short lists. -/
structure Few (LL : List (List Int)) : Prop where
  n : LL.length ≤ 32
  ls : ∀ L ∈ LL, L.length ≤ 64
structure RsAt (B : Nat) (S : Nat → Prop) (w : World) (r : Nat) (LL : List (List Int)) (MM : List (List (List Int))) : Prop where
  ex : ∃ dv mv, w.heap[r]? = some (.cells #[dv, mv] 92 (0, 0)) ∧ LssR S w dv LL ∧ MksR S w mv dv MM
  sr : S r
  lo : ∀ k, S k → B ≤ k
  lt : ∀ k, S k → k < w.heap.size
  few : Few LL
  fews : ∀ M ∈ MM, Few M
  ms : MM.length ≤ 10000

theorem own_keep {w w' : World} {B : Nat} {e : TypeId} {size : Nat} {v : Value} {n : Nat} {xs : List Value} (h : w.ownsRow B e size v n xs) (hk : ∀ g, v.ownBlock = some g → w'.heap[g]? = w.heap[g]?) : w'.ownsRow B e size v n xs := by
  refine ⟨h.1, ?_⟩
  rcases h.2 with h1 | ⟨g, cap, cur, hv, hg, hc, h2⟩
  · exact .inl h1
  · exact .inr ⟨g, cap, cur, hv, hg, (hk g (by rw [hv]; rfl)).trans hc, h2⟩
theorem own_lessR {w : World} {B C : Nat} {e : TypeId} {size : Nat} {v : Value} {n : Nat} {xs : List Value} (h : w.ownsRow B e size v n xs) (hb : C ≤ B) : w.ownsRow C e size v n xs := by
  refine ⟨h.1, ?_⟩
  rcases h.2 with h1 | ⟨g, cap, cur, hv, hg, h2⟩
  · exact .inl h1
  · exact .inr ⟨g, cap, cur, hv, Nat.le_trans hb hg, h2⟩
/-- A row's block has its type. -/
theorem own_type {w : World} {B : Nat} {e : TypeId} {size : Nat} {v : Value} {n : Nat} {xs : List Value} (h : w.ownsRow B e size v n xs) {g : Nat} (hg : v.ownBlock = some g) : ∃ cur, w.heap[g]? = some (.cells cur e (0, 0)) := by
  rcases h.2 with ⟨h1, _⟩ | ⟨g', cap, cur, hv, _, hc, _⟩
  · rw [h1] at hg; cases hg
  · rw [hv] at hg
    injection hg with hg
    exact ⟨cur, by rw [← hg]; exact hc⟩
section
variable {B : Nat} {S T : Nat → Prop} {w w' : World}
theorem LsR.keep {v : Value} {L : List Int} (h : LsR S w v L) (hk : ∀ k, S k → w'.heap[k]? = w.heap[k]?) : LsR S w' v L := ⟨own_keep h.1 fun g hg => hk g (h.2 g hg), h.2⟩
theorem LssR.keep {v : Value} {LL : List (List Int)} (h : LssR S w v LL) (hk : ∀ k, S k → w'.heap[k]? = w.heap[k]?) : LssR S w' v LL := by
  obtain ⟨cs, h1, h2, h3⟩ := h
  refine ⟨cs, own_keep h1 fun g hg => hk g (h2 g hg), h2, fun i hi => ?_⟩
  obtain ⟨u, hu, hl⟩ := h3 i hi
  exact ⟨u, hu, hl.keep hk⟩
theorem MksR.keep {v dv : Value} {MM : List (List (List Int))} (h : MksR S w v dv MM) (hk : ∀ k, S k → w'.heap[k]? = w.heap[k]?) : MksR S w' v dv MM := by
  obtain ⟨cs, h1, h2, h3⟩ := h
  refine ⟨cs, own_keep h1 fun g hg => hk g (h2 g hg), h2, fun i hi => ?_⟩
  obtain ⟨u, hu, hl, ha⟩ := h3 i hi
  exact ⟨u, hu, hl.keep hk, ha⟩
theorem LsR.more {v : Value} {L : List Int} (h : LsR S w v L) (hs : ∀ k, S k → T k) : LsR T w v L := ⟨h.1, fun g hg => hs g (h.2 g hg)⟩
theorem LssR.more {v : Value} {LL : List (List Int)} (h : LssR S w v LL) (hs : ∀ k, S k → T k) : LssR T w v LL := by
  obtain ⟨cs, h1, h2, h3⟩ := h
  refine ⟨cs, h1, fun g hg => hs g (h2 g hg), fun i hi => ?_⟩
  obtain ⟨u, hu, hl⟩ := h3 i hi
  exact ⟨u, hu, hl.more hs⟩
theorem MksR.more {v dv : Value} {MM : List (List (List Int))} (h : MksR S w v dv MM) (hs : ∀ k, S k → T k) : MksR T w v dv MM := by
  obtain ⟨cs, h1, h2, h3⟩ := h
  refine ⟨cs, h1, fun g hg => hs g (h2 g hg), fun i hi => ?_⟩
  obtain ⟨u, hu, hl, ha⟩ := h3 i hi
  exact ⟨u, hu, hl.more hs, ha⟩
variable {r : Nat} {LL : List (List Int)} {MM : List (List (List Int))}
theorem RsAt.keep (h : RsAt B S w r LL MM) (hz : w.heap.size ≤ w'.heap.size) (hk : ∀ k, S k → w'.heap[k]? = w.heap[k]?) : RsAt B S w' r LL MM := by
  obtain ⟨dv, mv, h1, h2, h3⟩ := h.ex
  exact { h with
    ex := ⟨dv, mv, (hk r h.sr).trans h1, h2.keep hk, h3.keep hk⟩
    lt := fun k hS => Nat.lt_of_lt_of_le (h.lt k hS) hz }
theorem RsAt.below (h : RsAt B S w r LL MM) (hb : Below w.heap.size w w') : RsAt B S w' r LL MM := h.keep hb.size fun k hk => hb.block k (h.lt k hk)
end
/-- What is changed: the store's own blocks alone. -/
structure SStp (B : Nat) (S : Nat → Prop) (w w' : World) : Prop where
  below : Below B w w'
  off : Off S w w'
theorem SStp.refl (B : Nat) (S : Nat → Prop) (w : World) : SStp B S w w := ⟨Below.refl _ _, Off.refl _ _⟩
theorem SStp.of_below {B : Nat} {S : Nat → Prop} {w w' : World} (h : Below w.heap.size w w') (hB : B ≤ w.heap.size) : SStp B S w w' := ⟨h.mono hB, Off.of_below h⟩
/-- Blocks that came besides are new. -/
def Grown (S : Nat → Prop) (w w' : World) (S' : Nat → Prop) : Prop := ∀ k, S' k → S k ∨ (w.heap.size ≤ k ∧ k < w'.heap.size)
theorem Grown.refl (S : Nat → Prop) (w w' : World) : Grown S w w' S := fun _ h => .inl h

/-- The lists as they are read. -/
theorem LsR.form {S : Nat → Prop} {w : World} {v : Value} {L : List Int} (h : LsR S w v L) : ∃ a cap, v = .slice a L.length cap ∧ ∀ j (hj : j < L.length), ∃ g, a = some ⟨g, 0, none⟩ ∧ S g ∧ w.cell? ⟨g, j, none⟩ = some (.int .i64 L[j]) := by
  rcases own_cells h.1 with ⟨hv, hn⟩ | ⟨g, cap, hv, _, hg, _, hc⟩
  · exact ⟨none, 0, by rw [hv, hn], fun j hj => absurd hj (by omega)⟩
  · exact ⟨_, cap, hv, fun j hj => ⟨g, rfl, h.2 g (by rw [hv]; rfl), hc j _ (by simp [hj])⟩⟩
theorem LssR.form {S : Nat → Prop} {w : World} {v : Value} {LL : List (List Int)} (h : LssR S w v LL) : ∃ a cap, v = .slice a LL.length cap ∧ ∀ j (hj : j < LL.length), ∃ g u, a = some ⟨g, 0, none⟩ ∧ S g ∧ w.cell? ⟨g, j, none⟩ = some u ∧ LsR S w u LL[j] ∧ ∀ i, w.frozen? ⟨g, i, none⟩ = false := by
  obtain ⟨cs, h1, h2, h3⟩ := h
  rcases own_cells h1 with ⟨hv, hn⟩ | ⟨g, cap, hv, _, hg, _, hc⟩
  · exact ⟨none, 0, by rw [hv, hn], fun j hj => absurd hj (by omega)⟩
  · refine ⟨_, cap, hv, fun j hj => ?_⟩
    obtain ⟨u, hu, hl⟩ := h3 j hj
    obtain ⟨cur, hcur⟩ := own_type h1 (g := g) (by rw [hv]; rfl)
    exact ⟨g, u, rfl, h2 g (by rw [hv]; rfl), hc j u hu, hl, frozen_of hcur⟩
/-- A list is put in another's place. -/
theorem LssR.put {S : Nat → Prop} {w : World} {g cap : Nat} {LL : List (List Int)} {q : Nat} {u : Value} {L : List Int} (h : LssR S w (.slice (some ⟨g, 0, none⟩) LL.length cap) LL) (hq : q < LL.length) (hu : LsR S w u L) : LssR S (w.setCell ⟨g, q, none⟩ u) (.slice (some ⟨g, 0, none⟩) LL.length cap) (LL.set q L) := by
  obtain ⟨cs, h1, h2, h3⟩ := h
  obtain ⟨cur, hcur⟩ := own_type h1 (g := g) rfl
  have hl : cs.length = LL.length := by have := h1.1; omega
  have inner : ∀ {v : Value} {M : List Int}, LsR S w v M → LsR S (w.setCell ⟨g, q, none⟩ u) v M := fun {v M} hv => by
    refine ⟨own_keep hv.1 fun g' hg' => heap_setCell_other _ _ _ _ fun e => ?_, hv.2⟩
    obtain ⟨cur', hcur'⟩ := own_type hv.1 hg'
    rw [e, hcur] at hcur'
    injection hcur' with hcur'
    injection hcur' with _ e2 _
    cases e2
  refine ⟨cs.set q u, ?_, h2, fun i hi => ?_⟩
  · rw [List.length_set]
    exact (h1.stored q u).1
  · rw [List.length_set] at hi
    by_cases e : i = q
    · subst e
      exact ⟨u, by rw [List.getElem?_set_self (by omega)], by rw [List.getElem_set_self]; exact inner hu⟩
    · obtain ⟨u', hu', hl'⟩ := h3 i hi
      exact ⟨u', by rw [List.getElem?_set_ne (by omega)]; exact hu', by rw [List.getElem_set_ne (by omega)]; exact inner hl'⟩
/-- Marks stay, where a list is put into the store's own row. -/
theorem MksR.set {S : Nat → Prop} {w : World} {g q : Nat} {v dv u : Value} {MM : List (List (List Int))} {cur : Array Value} (h : MksR S w v dv MM) (hd : dv.ownBlock = some g) (hcur : w.heap[g]? = some (.cells cur 42 (0, 0))) : MksR S (w.setCell ⟨g, q, none⟩ u) v dv MM := by
  have far : ∀ {B : Nat} {e : TypeId} {size : Nat} {v : Value} {n : Nat} {xs : List Value}, w.ownsRow B e size v n xs → e ≠ 42 → (w.setCell ⟨g, q, none⟩ u).ownsRow B e size v n xs := fun {B e size v n xs} h1 he =>
    own_keep h1 fun g' hg' => heap_setCell_other _ _ _ _ fun e1 => by
      obtain ⟨cur', hcur'⟩ := own_type h1 hg'
      rw [e1, hcur] at hcur'
      injection hcur' with hcur'
      injection hcur' with _ e2 _
      exact he e2.symm
  obtain ⟨cs, h1, h2, h3⟩ := h
  refine ⟨cs, far h1 (by decide), h2, fun i hi => ?_⟩
  obtain ⟨x, hx, ⟨ds, k1, k2, k3⟩, ha⟩ := h3 i hi
  refine ⟨x, hx, ⟨ds, own_keep k1 fun g' hg' => heap_setCell_other _ _ _ _ fun e => ?_, k2, fun j hj => ?_⟩, ha⟩
  · subst e
    exact ha _ hd hg'
  · obtain ⟨y, hy, hl⟩ := k3 j hj
    exact ⟨y, hy, far hl.1 (by decide), hl.2⟩
theorem rs_put {B : Nat} {S : Nat → Prop} {w w' : World} {r : Nat} {LL : List (List Int)} {MM : List (List (List Int))} {g cap q : Nat} {mv u : Value} {L : List Int} (h : RsAt B S w r LL MM) (ho : w.heap[r]? = some (.cells #[.slice (some ⟨g, 0, none⟩) LL.length cap, mv] 92 (0, 0))) (hd : LssR S w (.slice (some ⟨g, 0, none⟩) LL.length cap) LL) (hm : MksR S w mv (.slice (some ⟨g, 0, none⟩) LL.length cap) MM) (hq : q < LL.length)
    (hb : Below w.heap.size w w') (hu : w'.ownsRow w.heap.size 3 1 u L.length (L.map (.int .i64))) (hl : L.length ≤ 64) :
    ∃ S', RsAt B S' (w'.setCell ⟨g, q, none⟩ u) r (LL.set q L) MM ∧ SStp B S w (w'.setCell ⟨g, q, none⟩ u) ∧ Grown S w (w'.setCell ⟨g, q, none⟩ u) S' := by
  have hk : ∀ k, S k → w'.heap[k]? = w.heap[k]? := fun k hS => hb.block k (h.lt k hS)
  obtain ⟨cur, hcur⟩ : ∃ cur, w.heap[g]? = some (.cells cur 42 (0, 0)) := by
    obtain ⟨cs, h1, _⟩ := hd
    exact own_type h1 (g := g) rfl
  have hSg : S g := by
    obtain ⟨cs, _, h2, _⟩ := hd
    exact h2 g rfl
  have hrg : r ≠ g := fun e => by
    rw [e, hcur] at ho
    injection ho with ho
    injection ho with _ e2 _
    cases e2
  have hcur' := (hk g hSg).trans hcur
  have hBw : B ≤ w.heap.size := Nat.le_of_lt (Nat.lt_of_le_of_lt (h.lo r h.sr) (h.lt r h.sr))
  have hsz : (w'.setCell ⟨g, q, none⟩ u).heap.size = w'.heap.size := by simp
  have hul : ∀ k, u.ownBlock = some k → w.heap.size ≤ k ∧ k < w'.heap.size := fun k hk => hu.lt k hk
  refine ⟨fun k => S k ∨ u.ownBlock = some k, ⟨⟨.slice (some ⟨g, 0, none⟩) LL.length cap, mv, ?_, ?_, ?_⟩, .inl h.sr, ?_, ?_, ⟨by rw [List.length_set]; exact h.few.n, ?_⟩, h.fews, h.ms⟩, ⟨?_, ?_⟩, ?_⟩
  · exact (heap_setCell_other _ _ _ _ hrg).trans ((hk r h.sr).trans ho)
  · exact ((hd.keep hk).more (T := fun k => S k ∨ u.ownBlock = some k) (fun k e => .inl e)).put hq ⟨own_lessR hu (Nat.zero_le _), fun g hg => .inr hg⟩
  · exact ((hm.keep hk).more (T := fun k => S k ∨ u.ownBlock = some k) (fun k e => .inl e)).set rfl hcur'
  · rintro k (e | e)
    · exact h.lo k e
    · exact Nat.le_trans hBw (hul k e).1
  · rintro k (e | e)
    · rw [hsz]; exact Nat.lt_of_lt_of_le (h.lt k e) hb.size
    · rw [hsz]; exact (hul k e).2
  · intro M hM
    rcases List.mem_or_eq_of_mem_set hM with hM | rfl
    · exact h.few.ls M hM
    · exact hl
  · exact (hb.mono hBw).setCell (h.lo g hSg) _
  · exact (Off.of_below hb).trans (Off.set _ hSg)
  · rintro k (e | e)
    · exact .inl e
    · exact .inr (by rw [hsz]; exact hul k e)
end Go.Proofs.YtchpapppkmnfnaaGreatDoor

namespace Go.Proofs.YtchpapppkmnfnaaGreatDoor
open Go.RowKit

structure Cl where
  kind : Int
  ck : Int
  cx : Int
  cv : Int
  n : Int
/-- A script in memory. -/
def OpsAt (w : World) (v : Value) (L : List Cl) : Prop :=
  ∃ a cap, v = .slice a L.length cap ∧ L.length ≤ maxLen ∧ ∀ j (h : j < L.length), ∃ b off, a = some ⟨b, off, none⟩ ∧ b < w.heap.size ∧ w.cell? ⟨b, off + j * 5, none⟩ = some (.int .i64 L[j].kind) ∧ w.cell? ⟨b, off + j * 5 + 1, none⟩ = some (.int .i64 L[j].ck) ∧ w.cell? ⟨b, off + j * 5 + 2, none⟩ = some (.int .i64 L[j].cx) ∧ w.cell? ⟨b, off + j * 5 + 3, none⟩ = some (.int .i64 L[j].cv) ∧ w.cell? ⟨b, off + j * 5 + 4, none⟩ = some (.int .i64 L[j].n)
end Go.Proofs.YtchpapppkmnfnaaGreatDoor

namespace Go.Proofs.YtchpapppkmnfnaaGreatDoor
open Go.RowKit

/-- So it stays for another set: what is new may be written. -/
theorem Kept.young {S T : Nat → Prop} {w w1 : World} {p : World → Prop} (h : Kept S w p) (ho : Off S w w1) (hT : ∀ b, T b → S b ∨ w.heap.size ≤ b) : Kept T w1 p := fun w2 h2 =>
  h w2 ⟨Nat.le_trans ho.size h2.size, fun k hk hs => (h2.block k (Nat.lt_of_lt_of_le hk ho.size) fun ht => (hT k ht).elim hs (fun h => by omega)).trans (ho.block k hk hs)⟩
theorem list_val {P : Nat → Value → Prop} {n : Nat} (h : ∀ j, j < n → ∃ u, P j u) : ∃ us : List Value, us.length = n ∧ ∀ j (hj : j < us.length), P j us[j] := by
  induction n with
  | zero => exact ⟨[], rfl, fun j hj => absurd hj (Nat.not_lt_zero _)⟩
  | succ n ih =>
    obtain ⟨us, hl, hp⟩ := ih fun j hj => h j (by omega)
    obtain ⟨u, hu⟩ := h n (by omega)
    refine ⟨us ++ [u], by simp [hl], fun j hj => ?_⟩
    rcases Nat.lt_or_ge j us.length with h1 | h1
    · rw [List.getElem_append_left h1]; exact hp j h1
    · have : j = n := by simp at hj; omega
      subst this
      rw [List.getElem_append_right h1]
      simp [hl]
      exact hu

/-- A list of lists. -/
structure KRows (S : Nat → Prop) (w : World) (v : Value) (l : List (List Int)) (us : List Value) : Prop where
  len : us.length = l.length
  form : ∃ a cap, v = .slice a l.length cap ∧ l.length ≤ maxLen ∧ (0 < l.length → ∃ b off, a = some ⟨b, off, none⟩ ∧ b < w.heap.size ∧ ¬ S b ∧ ∀ j (h : j < us.length), w.cell? ⟨b, off + j, none⟩ = some us[j])
  each : ∀ j (h : j < us.length) (h2 : j < l.length), Kept S w (fun w' => IntsAt w' us[j] l[j])
theorem KRows.next {S : Nat → Prop} {w w' : World} {v : Value} {l : List (List Int)} {us : List Value} (h : KRows S w v l us) (ho : Off S w w') : KRows S w' v l us := by
  refine ⟨h.len, ?_, fun j hj h2 => (h.each j hj h2).next ho⟩
  obtain ⟨a, cap, hv, hm, hc⟩ := h.form
  refine ⟨a, cap, hv, hm, fun h0 => ?_⟩
  obtain ⟨b, off, ha, hb, hS, hj⟩ := hc h0
  exact ⟨b, off, ha, Nat.lt_of_lt_of_le hb ho.size, hS, fun j h => (World.cell?_of_block (a := ⟨b, off + j, none⟩) (ho.block b hb hS)).trans (hj j h)⟩
theorem KRows.rows {S : Nat → Prop} {w : World} {v : Value} {l : List (List Int)} {us : List Value} (h : KRows S w v l us) : RowsAt w v l := by
  obtain ⟨a, cap, hv, hm, hc⟩ := h.form
  refine ⟨a, cap, hv, hm, fun h0 => ?_⟩
  obtain ⟨b, off, ha, hb, _, hj⟩ := hc h0
  exact ⟨b, off, ha, hb, fun j h1 => ⟨us[j]'(by rw [h.len]; exact h1), hj j _, (h.each j (by rw [h.len]; exact h1) h1).now⟩⟩
theorem KRows.old {S : Nat → Prop} {w0 w : World} {v : Value} {l : List (List Int)} (h : RowsAt w0 v l) (h0 : Below w0.heap.size w0 w) (hS : ∀ k, S k → w0.heap.size ≤ k) : ∃ us, KRows S w v l us := by
  obtain ⟨a, cap, hv, hm, hc⟩ := h
  rcases Nat.eq_zero_or_pos l.length with hz | hz
  · exact ⟨[], by rw [hz]; rfl, ⟨a, cap, hv, hm, fun h => by omega⟩, fun j hj => absurd hj (Nat.not_lt_zero _)⟩
  · obtain ⟨b, off, ha, hb, hj⟩ := hc hz
    obtain ⟨us, hl, hp⟩ := list_val (n := l.length) (P := fun j u => w0.cell? ⟨b, off + j, none⟩ = some u ∧ ∀ (h : j < l.length), IntsAt w0 u l[j]) (fun j h1 => by
      obtain ⟨u, h2, h3⟩ := hj j h1
      exact ⟨u, h2, fun _ => h3⟩)
    refine ⟨us, hl, ⟨a, cap, hv, hm, fun _ => ⟨b, off, ha, Nat.lt_of_lt_of_le hb h0.size, fun e => by have := hS b e; omega, fun j h1 => ?_⟩⟩, fun j h1 h2 => kept_ints ((hp j h1).2 h2) h0 hS⟩
    exact (h0.cell (p := ⟨b, off + j, none⟩) hb).trans (hp j h1).1
/-- A constraint's lists. -/
structure KCn (S : Nat → Prop) (w : World) (c : Md.Cn) (vt vx vb vr : Value) : Prop where
  t : Kept S w (fun w' => TermsAt w' vt c.terms)
  x : Kept S w (fun w' => IntsAt w' vx c.xs)
  xcap : ∀ a n cp, vx = .slice a n cp → n ≤ cp
  b : Kept S w (fun w' => IntsAt w' vb c.table)
  r : ∃ us, KRows S w vr c.rows us
theorem KCn.at {S : Nat → Prop} {w : World} {c : Md.Cn} {vt vx vb vr : Value} (h : KCn S w c vt vx vb vr) : CnAt w c vt vx vb vr := by
  obtain ⟨us, hr⟩ := h.r
  exact ⟨h.t.now, h.x.now, h.xcap, h.b.now, hr.rows⟩
theorem KCn.next {S : Nat → Prop} {w w' : World} {c : Md.Cn} {vt vx vb vr : Value} (h : KCn S w c vt vx vb vr) (ho : Off S w w') : KCn S w' c vt vx vb vr := by
  obtain ⟨us, hr⟩ := h.r
  exact ⟨h.t.next ho, h.x.next ho, h.xcap, h.b.next ho, us, hr.next ho⟩
/-- A constraint's cells. -/
def cnCells (c : Md.Cn) (vt vx vb vr : Value) : List Value := [.int .i64 c.kind, .int .i64 c.op, vt, .int .i64 c.k, .int .i64 c.v, .int .i64 c.x, .int .i64 c.y, vx, vb, vr]
end Go.Proofs.YtchpapppkmnfnaaGreatDoor
