/-
  Package proof: the tables may be picked from; ends.
-/
import Derived.Test.YtibbnijicdijnaaGreatDoorJ34
namespace Go.Proofs.YtibbnijicdijnaaGreatDoor
open Go.RowKit

def allP (s : Ls) : SL × Ls := ({ SL.zero with high := allY s, ids := [(allR s).1] }, (allR s).2)
/-- Conclusions, by their readers. -/
def rdC (f : FuncId) (s : Ls) : SL × Ls := if f = 153 then unsatP s else if f = 155 then boundsP s else if f = 157 then allP s else (SL.zero, s)
theorem claims_ok : TabOk claimsL rdC where
  leaf := by
    intro f hf
    simp only [claimsL, List.mem_cons, List.not_mem_nil, or_false] at hf
    rcases hf with rfl | rfl | rfl | rfl | rfl
    · exact leaf_nothing
    · exact leaf_unsat
    · exact leaf_nothing
    · exact leaf_bounds
    · exact leaf_all
  len := by
    have h : (claimsL.all fun f => decide (f.2.1.length ≤ 1000)) = true := by kernel_rfl
    exact fun f hf => of_decide_eq_true (List.all_eq_true.1 h f hf)
  asc := by
    have h : (claimsL.all fun f => (rstT f).all fun c => decide (c.toNat < 128)) = true := by kernel_rfl
    exact fun f hf c hc => of_decide_eq_true (List.all_eq_true.1 (List.all_eq_true.1 h f hf) c hc)
  rl := by
    have h : (claimsL.all fun f => decide ((rstT f).length ≤ 1000)) = true := by kernel_rfl
    exact fun f hf => of_decide_eq_true (List.all_eq_true.1 h f hf)
  rst := by
    have h : (claimsL.all fun f => (Lib.fields (rstT f)).all fun x => decide (x.length ≤ 1000)) = true := by kernel_rfl
    exact fun f hf c hc => of_decide_eq_true (List.all_eq_true.1 (List.all_eq_true.1 h f hf) c hc)
  fl := by
    have h : (claimsL.all fun f => decide ((Lib.fields (rstT f)).length ≤ 100)) = true := by kernel_rfl
    exact fun f hf => of_decide_eq_true (List.all_eq_true.1 h f hf)
  few := by decide
  ent := by
    intro f hf
    simp only [claimsL, List.mem_cons, List.not_mem_nil, or_false] at hf
    rcases hf with rfl | rfl | rfl | rfl | rfl
    · exact Go.Proofs.enters_of Tryz.func81 (by kernel_rfl) rfl
    · exact Go.Proofs.enters_of Tryz.func153 (by kernel_rfl) rfl
    · exact Go.Proofs.enters_of Tryz.func81 (by kernel_rfl) rfl
    · exact Go.Proofs.enters_of Tryz.func155 (by kernel_rfl) rfl
    · exact Go.Proofs.enters_of Tryz.func157 (by kernel_rfl) rfl
def endsP (s : Ls) : SL × Ls := ({ (pickP claimsL rdC s).2.1 with ends := (pickP claimsL rdC s).1 }, (pickP claimsL rdC s).2.2)

/-- A cell of the box is written: the rows stay. -/
theorem SlOwn.set {B0 q : Nat} {w : World} {d : SL} {vo vp vl vi : Value} (h : SlOwn B0 w d vo vp vl vi) (hq : q < B0) (i : Nat) (v : Value) : SlOwn B0 (w.setCell ⟨q, i, none⟩ v) d vo vp vl vi := by
  have k : ∀ {t : TypeId} {m n : Nat} {u : Value} {xs : List Value}, w.ownsRow B0 t m u n xs → (w.setCell ⟨q, i, none⟩ v).ownsRow B0 t m u n xs := fun ho => own_keep ho fun g hg => heap_setCell_other _ _ _ _ (by have := (ho.lt g hg).1; show g ≠ q; omega)
  exact ⟨k h.o, k h.p, k h.l, k h.i⟩
theorem SlOwn.less {B0 C : Nat} {w : World} {d : SL} {vo vp vl vi : Value} (h : SlOwn B0 w d vo vp vl vi) (hc : C ≤ B0) : SlOwn C w d vo vp vl vi := ⟨own_less h.o hc, own_less h.p hc, own_less h.l hc, own_less h.i hc⟩

set_option maxRecDepth 10000 in
set_option maxHeartbeats 2000000 in
theorem leaf_ends : Leaf 96 endsP := by
  intro B b q s w h hst hB hBq hbq hg hB12
  unfold endsP
  obtain ⟨X, hX⟩ : ∃ X, w.alloc (.cells (fmsC claimsL).toArray 154) = X := ⟨_, rfl⟩
  have hbX : Below w.heap.size w X := by rw [← hX]; exact (Below.refl _ _).alloc (Nat.le_refl _) _
  have gX : X.heap[w.heap.size]? = some (.cells (fmsC claimsL).toArray 154 (0, 0)) := by rw [← hX]; exact heap_alloc_new w _
  have hbl := h.lt
  have hql := hst.lt
  have HX : Hid (Below w.heap.size w X) := hbX
  obtain ⟨R, hR⟩ : ∃ R, pickP claimsL rdC s = R := ⟨_, rfl⟩
  have HC : Hid (Calls Tryz.prog 130 #[] w fun e w' => e = .returned (.slice (some ⟨w.heap.size, 0, none⟩) 5 5) ∧ w' = X) := by
    have := claims_any w
    rw [hX] at this
    exact this
  have HP : Hid (Calls Tryz.prog 71 #[.pointer (some ⟨b, 0, none⟩), .slice (some ⟨w.heap.size, 0, none⟩) 5 5, .pointer (some ⟨q, 0, none⟩)] X (PkO B b q R X)) := by
    have := pick_any (B := B) (b := b) (q := q) (t := w.heap.size) (s := s) claims_ok X (h.below hbX) (hst.same (hbX.block q hql)) gX (hg.next hbX) hB hBq hbq (by omega) hB12
    rw [hR] at this
    exact this
  rw [hR]
  clear h hst hg hbX gX hX hR
  go_enter Tryz.func96, Tryz.ntmps96
  go_wp2_with fail
  refine calls_at HC.out (by with_reducible rfl) (by with_reducible rfl) ?_
  rintro e w1 ⟨rfl, rfl⟩
  go_wp2_with fail
  refine calls_at HP.out (by with_reducible rfl) (by with_reducible rfl) ?_
  rintro e w2 ⟨rfl, cs', a1, ⟨vo, vp, vl, vi, rfl, a3⟩, a4, a5⟩
  have hsz := HX.out.size
  have c7 : w2.cell? ⟨q, 7, none⟩ = some (.int .i64 R.2.1.ends) := cell_of a1.o 7
  have z7 := frozen_of a1.o 7
  have HE : Hid (RdO B b q ({ R.2.1 with ends := R.1 }, R.2.2) w (.returned (.tuple #[])) (w2.setCell ⟨q, 7, none⟩ (.int .i64 R.1))) := by
    obtain ⟨r1, r2, r3⟩ := rd_put (B := B) (w := w) a1 a4 ((SStp.of_below HX.out (by omega)).trans a5) hBq hbq 7 (.int .i64 R.1)
    have r4 := (a3.set (Nat.lt_of_lt_of_le hql hsz) 7 (.int .i64 R.1)).less hsz
    exact ⟨rfl, _, r1, ⟨vo, vp, vl, vi, rfl, r4.o, r4.p, r4.l, r4.i⟩, r2, r3⟩
  clear a1 a3 a4 a5
  go_wp2_with fail
  go_end0
  exact HE.out
end Go.Proofs.YtibbnijicdijnaaGreatDoor
