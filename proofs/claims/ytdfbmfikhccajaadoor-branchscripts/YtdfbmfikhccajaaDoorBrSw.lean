/-
  BranchScripts: four scripts side by side; two copies.
-/
import Derived.Test.YtdfbmfikhccajaaDoorBrRef
import Derived.Test.YtdfbmfikhccajaaDoorBrKnown
namespace Go.Proofs.YtdfbmfikhccajaaDoor
open Go.RowKit

/-- The program's two scripts and the document's, each with blocks of its own. -/
structure Fo (B : Nat) (w : World) (pa pb pr ps : Nat) (LA LB H G : List Int) (k l : Nat) : Prop where
  ex : ∃ Oa Ob Or Os, ScAt B Oa w pa LA ∧ ScAt B Ob w pb LB ∧ RcAt B Or w pr H k ∧ RcAt B Os w ps G l ∧ (¬ Ob pa ∧ ¬ Or pa ∧ ¬ Os pa) ∧ (¬ Oa pb ∧ ¬ Or pb ∧ ¬ Os pb) ∧ (¬ Oa pr ∧ ¬ Ob pr ∧ ¬ Os pr) ∧ (¬ Oa ps ∧ ¬ Ob ps ∧ ¬ Or ps)
section
variable {B : Nat} {w w' : World} {pa pb pr ps : Nat} {LA LB H G : List Int} {k l : Nat}
theorem Fo.below (h : Fo B w pa pb pr ps LA LB H G k l) (hb : Below w.heap.size w w') : Fo B w' pa pb pr ps LA LB H G k l := by
  obtain ⟨Oa, Ob, Or, Os, h1, h2, h3, h4, h5⟩ := h.ex
  exact ⟨Oa, Ob, Or, Os, h1.below hb, h2.below hb, h3.below hb, h4.below hb, h5⟩
/-- A call of each. -/
theorem Fo.nextA (h : Fo B w pa pb pr ps LA LB H G k l) : Calls Tryd.prog 7 #[.pointer (some ⟨pa, 0, none⟩)] w fun e w' => e = .returned (.int .i64 (LA.headD 0)) ∧ Fo B w' pa pb pr ps LA.tail LB H G k l ∧ Below B w w' := by
  obtain ⟨Oa, Ob, Or, Os, h1, h2, h3, h4, ⟨x1, x2, x3⟩, h6, h7, h8⟩ := h.ex
  refine (scNext_any B Oa pa LA w h1).mono fun e w' ⟨q1, q2, q3, q4⟩ => ⟨q1, ⟨Oa, Ob, Or, Os, q2, h2.keep q3.size (fun j hj => q3.block j (h2.lt j hj) fun e => x1 (e ▸ hj)), h3.keep q3.size (fun j hj => q3.block j (h3.lt j hj) fun e => x2 (e ▸ hj)), h4.keep q3.size (fun j hj => q3.block j (h4.lt j hj) fun e => x3 (e ▸ hj)), ⟨x1, x2, x3⟩, h6, h7, h8⟩, q4 B (h1.lo pa h1.op)⟩
theorem Fo.nextB (h : Fo B w pa pb pr ps LA LB H G k l) : Calls Tryd.prog 7 #[.pointer (some ⟨pb, 0, none⟩)] w fun e w' => e = .returned (.int .i64 (LB.headD 0)) ∧ Fo B w' pa pb pr ps LA LB.tail H G k l ∧ Below B w w' := by
  obtain ⟨Oa, Ob, Or, Os, h1, h2, h3, h4, h5, ⟨x1, x2, x3⟩, h7, h8⟩ := h.ex
  refine (scNext_any B Ob pb LB w h2).mono fun e w' ⟨q1, q2, q3, q4⟩ => ⟨q1, ⟨Oa, Ob, Or, Os, h1.keep q3.size (fun j hj => q3.block j (h1.lt j hj) fun e => x1 (e ▸ hj)), q2, h3.keep q3.size (fun j hj => q3.block j (h3.lt j hj) fun e => x2 (e ▸ hj)), h4.keep q3.size (fun j hj => q3.block j (h4.lt j hj) fun e => x3 (e ▸ hj)), h5, ⟨x1, x2, x3⟩, h7, h8⟩, q4 B (h2.lo pb h2.op)⟩
theorem Fo.nextR (h : Fo B w pa pb pr ps LA LB H G k l) : Calls Tryd.prog 8 #[.pointer (some ⟨pr, 0, none⟩)] w fun e w' => e = .returned (.int .i64 (H.getD k 0)) ∧ Fo B w' pa pb pr ps LA LB H G (nxt H k) l ∧ Below B w w' := by
  obtain ⟨Oa, Ob, Or, Os, h1, h2, h3, h4, h5, h6, ⟨x1, x2, x3⟩, h8⟩ := h.ex
  refine (rcNext_any B Or pr H k w h3).mono fun e w' ⟨q1, q2, q3, q4⟩ => ⟨q1, ⟨Oa, Ob, Or, Os, h1.keep q3.size (fun j hj => q3.block j (h1.lt j hj) fun e => x1 (e ▸ hj)), h2.keep q3.size (fun j hj => q3.block j (h2.lt j hj) fun e => x2 (e ▸ hj)), q2, h4.keep q3.size (fun j hj => q3.block j (h4.lt j hj) fun e => x3 (e ▸ hj)), h5, h6, ⟨x1, x2, x3⟩, h8⟩, q4 B (h3.lo pr h3.op)⟩
theorem Fo.nextS (h : Fo B w pa pb pr ps LA LB H G k l) : Calls Tryd.prog 8 #[.pointer (some ⟨ps, 0, none⟩)] w fun e w' => e = .returned (.int .i64 (G.getD l 0)) ∧ Fo B w' pa pb pr ps LA LB H G k (nxt G l) ∧ Below B w w' := by
  obtain ⟨Oa, Ob, Or, Os, h1, h2, h3, h4, h5, h6, h7, ⟨x1, x2, x3⟩⟩ := h.ex
  refine (rcNext_any B Os ps G l w h4).mono fun e w' ⟨q1, q2, q3, q4⟩ => ⟨q1, ⟨Oa, Ob, Or, Os, h1.keep q3.size (fun j hj => q3.block j (h1.lt j hj) fun e => x1 (e ▸ hj)), h2.keep q3.size (fun j hj => q3.block j (h2.lt j hj) fun e => x2 (e ▸ hj)), h3.keep q3.size (fun j hj => q3.block j (h3.lt j hj) fun e => x3 (e ▸ hj)), q2, h5, h6, h7, ⟨x1, x2, x3⟩⟩, q4 B (h4.lo ps h4.op)⟩
/-- Two copies, in blocks of their own but for the document's list. -/
structure Cd (n : Nat) (w : World) (pc pd : Nat) (L H : List Int) (k : Nat) : Prop where
  ex : ∃ B Oc Od, ScAt B Oc w pc L ∧ RcAt B Od w pd H k ∧ ¬ Od pc ∧ ¬ Oc pd ∧ n ≤ pc ∧ n ≤ pd
theorem Cd.nextC {n pc pd : Nat} {L : List Int} (h : Cd n w pc pd L H k) : Calls Tryd.prog 7 #[.pointer (some ⟨pc, 0, none⟩)] w fun e w' => e = .returned (.int .i64 (L.headD 0)) ∧ Cd n w' pc pd L.tail H k ∧ Below n w w' := by
  obtain ⟨B, Oc, Od, h1, h2, x1, x2, x3, x4⟩ := h.ex
  exact (scNext_any B Oc pc L w h1).mono fun e w' ⟨q1, q2, q3, q4⟩ => ⟨q1, ⟨B, Oc, Od, q2, h2.keep q3.size (fun j hj => q3.block j (h2.lt j hj) fun e => x1 (e ▸ hj)), x1, x2, x3, x4⟩, q4 n x3⟩
theorem Cd.nextD {n pc pd : Nat} {L : List Int} (h : Cd n w pc pd L H k) : Calls Tryd.prog 8 #[.pointer (some ⟨pd, 0, none⟩)] w fun e w' => e = .returned (.int .i64 (H.getD k 0)) ∧ Cd n w' pc pd L H (nxt H k) ∧ Below n w w' := by
  obtain ⟨B, Oc, Od, h1, h2, x1, x2, x3, x4⟩ := h.ex
  exact (rcNext_any B Od pd H k w h2).mono fun e w' ⟨q1, q2, q3, q4⟩ => ⟨q1, ⟨B, Oc, Od, h1.keep q3.size (fun j hj => q3.block j (h1.lt j hj) fun e => x2 (e ▸ hj)), q2, x1, x2, x3, x4⟩, q4 n x4⟩
theorem Fo.copyA (h : Fo B w pa pb pr ps LA LB H G k l) : Calls Tryd.prog 9 #[.pointer (some ⟨pa, 0, none⟩)] w (ScOut LA w) := by
  obtain ⟨Oa, Ob, Or, Os, h1, _⟩ := h.ex
  exact scCopy_any B Oa pa LA w h1
/-- The document's copy, behind the program's. -/
theorem Fo.copyR {w1 : World} {pc : Nat} {Oc : Nat → Prop} {L : List Int} (h : Fo B w pa pb pr ps LA LB H G k l) (hc : ScAt w.heap.size Oc w1 pc L) (hb : Below w.heap.size w w1) : Calls Tryd.prog 10 #[.pointer (some ⟨pr, 0, none⟩)] w1 fun e w2 => ∃ pd, e = .returned (.pointer (some ⟨pd, 0, none⟩)) ∧ Cd w.heap.size w2 pc pd L H k ∧ Below w1.heap.size w1 w2 := by
  obtain ⟨Oa, Ob, Or, Os, h1, h2, h3, h4, _⟩ := h.ex
  refine (rcCopy_any B Or pr H k w1 (h3.below hb)).mono fun e w2 ⟨pd, q1, q2, q3, q4⟩ => ⟨pd, q1, ⟨B, Oc, _, ?_, q3, ?_, fun hp => ?_, hc.lo pc hc.op, Nat.le_trans hb.size q2⟩, q4⟩
  · have := hc.below q4
    exact { this with lo := fun j hj => Nat.le_of_lt (Nat.lt_of_lt_of_le (Nat.lt_of_le_of_lt (h1.lo pa h1.op) (h1.lt pa h1.op)) (this.lo j hj)) }
  · rintro (e | e)
    · have := h3.lt pc e
      have := hc.lo pc hc.op
      omega
    · have := hc.lt pc hc.op
      omega
  · have := hc.lt pd hp
    omega
end
end Go.Proofs.YtdfbmfikhccajaaDoor
