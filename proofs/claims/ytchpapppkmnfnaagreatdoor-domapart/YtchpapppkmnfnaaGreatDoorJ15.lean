/-
  Put together: DcRefA, MdRefA, MdConMath.
-/
import Derived.Test.YtchpapppkmnfnaaGreatDoorJ06
import Derived.WalkSmall
import Derived.Test.YtchpapppkmnfnaaGreatDoorJ09
import Derived.Deep.RegionHeld3
namespace Go.Proofs.YtchpapppkmnfnaaGreatDoor.Doc
open Go.RowKit

/-- What terms answers. -/
def termsE (l : List (Int × Int)) (n : Int) : Int := if (l.all fun t => Md.plB n t.2) = true then (if Md.coefsB l = true then 0 else 45) else 44

end Go.Proofs.YtchpapppkmnfnaaGreatDoor.Doc

namespace Go.Proofs.YtchpapppkmnfnaaGreatDoor
open Go.RowKit

/-- What terms answers. -/
def termsE (l : List (Int × Int)) (n : Int) : Int := if (l.all fun t => Md.plB n t.2) = true then (if Md.coefsB l = true then 0 else 45) else 44

end Go.Proofs.YtchpapppkmnfnaaGreatDoor

namespace Go.Proofs.YtchpapppkmnfnaaGreatDoor
open Go.RowKit

theorem fault43' {c : Md.Cn} {n : Int} (h : Md.fOp c.kind = true) (h2 : c.op < 1 ∨ 3 < c.op) : Md.fault c n = 43 := by
  have : Md.kindBad c.kind c.op = true := by simp [Md.kindBad, h, h2]
  simp [Md.fault, this]
theorem kind_ok' {c : Md.Cn} (hk : 1 ≤ c.kind ∧ c.kind ≤ 9) (h : ¬ (Md.fOp c.kind = true ∧ (c.op < 1 ∨ 3 < c.op))) : Md.kindBad c.kind c.op = false := by
  rw [← Bool.not_eq_true]
  simp only [Md.kindBad, Bool.or_eq_true, Bool.and_eq_true, decide_eq_true_eq]
  rintro (h1 | h1)
  · omega
  · exact h h1
theorem fault48' {c : Md.Cn} {n : Int} (h1 : Md.kindBad c.kind c.op = false) (h2 : (Md.plainBad c || Md.listBad c) = true) : Md.fault c n = 48 := by unfold Md.fault; rw [h1, h2]; rfl
theorem fault47' {c : Md.Cn} {n : Int} (h1 : Md.kindBad c.kind c.op = false) (h2 : (Md.plainBad c || Md.listBad c) = false) (h3 : Md.manyBad c = true) : Md.fault c n = 47 := by unfold Md.fault; rw [h1, h2, h3]; rfl
theorem fault44' {c : Md.Cn} {n : Int} (h1 : Md.kindBad c.kind c.op = false) (h2 : (Md.plainBad c || Md.listBad c) = false) (h3 : Md.manyBad c = false) (h4 : Md.placesB c n = false) : Md.fault c n = 44 := by unfold Md.fault; rw [h1, h2, h3, h4]; rfl
theorem fault45' {c : Md.Cn} {n : Int} (h1 : Md.kindBad c.kind c.op = false) (h2 : (Md.plainBad c || Md.listBad c) = false) (h3 : Md.manyBad c = false) (h4 : Md.placesB c n = true) (h5 : Md.coefsB c.terms = false) : Md.fault c n = 45 := by unfold Md.fault; rw [h1, h2, h3, h4, h5]; rfl
theorem fault46' {c : Md.Cn} {n : Int} (h1 : Md.kindBad c.kind c.op = false) (h2 : (Md.plainBad c || Md.listBad c) = false) (h3 : Md.manyBad c = false) (h4 : Md.placesB c n = true) (h5 : Md.coefsB c.terms = true) (h6 : Md.numsB c = false) : Md.fault c n = 46 := by unfold Md.fault; rw [h1, h2, h3, h4, h5, h6]; rfl
theorem fault0' {c : Md.Cn} {n : Int} (h1 : Md.kindBad c.kind c.op = false) (h2 : (Md.plainBad c || Md.listBad c) = false) (h3 : Md.manyBad c = false) (h4 : Md.placesB c n = true) (h5 : Md.coefsB c.terms = true) (h6 : Md.numsB c = true) : Md.fault c n = 0 := by unfold Md.fault; rw [h1, h2, h3, h4, h5, h6]; rfl
theorem rows_nil {c : Md.Cn} {k : Int} (hk : c.kind = k) (h8 : Md.fRows k = false) (h : (Md.plainBad c || Md.listBad c) = false) : c.rows.all (fun r => r.length == c.xs.length) = true := by
  rw [Bool.or_eq_false_iff] at h
  have h2 := h.2
  unfold Md.listBad at h2
  rw [hk, h8] at h2
  simp only [Bool.or_eq_false_iff] at h2
  have h3 := h2.2
  simp at h3
  rw [h3]; rfl
theorem many8_eq {c : Md.Cn} (hk : c.kind = 8) : Md.manyBad c = (Md.fewB c.xs.length 8 || Md.fewB c.rows.length 64 || !(c.rows.all fun r => r.length == c.xs.length)) := by
  unfold Md.manyBad; rw [hk]
  simp only [Md.fTerms, Md.fXs, Md.fTable, Md.fRows, Md.mostXs]
  simp
theorem many8 {c : Md.Cn} (hk : c.kind = 8) (h : Md.fewB c.xs.length 64 = true ∨ (decide (8 < c.xs.length) || Md.fewB c.rows.length 64 || !(c.rows.all fun r => r.length == c.xs.length)) = true) : Md.manyBad c = true := by
  rw [many8_eq hk]
  have h5 : Md.fewB c.xs.length 64 = true ∨ 8 < c.xs.length → Md.fewB c.xs.length 8 = true := fun h => by
    unfold Md.fewB at *
    simp only [decide_eq_true_eq] at *
    omega
  rcases h with h | h
  · rw [h5 (.inl h)]; rfl
  · rw [Bool.or_eq_true, Bool.or_eq_true, decide_eq_true_eq] at h
    rcases h with (h | h) | h
    · rw [h5 (.inr h)]; rfl
    · rw [h]; simp
    · rw [h]; simp
theorem many8f {c : Md.Cn} (hk : c.kind = 8) (h1 : Md.fewB c.xs.length 64 = false) (h : (decide (8 < c.xs.length) || Md.fewB c.rows.length 64 || !(c.rows.all fun r => r.length == c.xs.length)) = false) : Md.manyBad c = false := by
  rw [many8_eq hk]
  rw [Bool.or_eq_false_iff, Bool.or_eq_false_iff] at h
  obtain ⟨⟨h2, h3⟩, h4⟩ := h
  have h5 : Md.fewB c.xs.length 8 = false := by
    unfold Md.fewB at *
    simp only [decide_eq_false_iff_not] at *
    omega
  rw [h3, h4, h5]; rfl
theorem pl1 {c : Md.Cn} {n : Int} (h : (Md.plB n c.x && Md.plB n c.y && c.xs.all (Md.plB n)) = false) : Md.placesB c n = false := by
  unfold Md.placesB
  cases hx : Md.plB n c.x <;> cases hy : Md.plB n c.y <;> cases hxs : c.xs.all (Md.plB n) <;> simp_all
theorem pl2 {c : Md.Cn} {n : Int} (h : (c.terms.all fun t => Md.plB n t.2) = false) : Md.placesB c n = false := by
  unfold Md.placesB
  rw [h]; simp
theorem pl3 {c : Md.Cn} {n : Int} (h : (Md.plB n c.x && Md.plB n c.y && c.xs.all (Md.plB n)) = true) (h2 : (c.terms.all fun t => Md.plB n t.2) = true) : Md.placesB c n = true := by
  unfold Md.placesB
  rw [Bool.and_eq_true, Bool.and_eq_true] at h
  rw [h.1.1, h.1.2, h.2, h2]; rfl
theorem termsE_is (l : List (Int × Int)) (n : Int) : (termsE l n = 44 ∧ (l.all fun t => Md.plB n t.2) = false) ∨ (termsE l n = 45 ∧ (l.all fun t => Md.plB n t.2) = true ∧ Md.coefsB l = false) ∨ (termsE l n = 0 ∧ (l.all fun t => Md.plB n t.2) = true ∧ Md.coefsB l = true) := by
  unfold termsE
  cases (l.all fun t => Md.plB n t.2)
  · exact .inl ⟨rfl, rfl⟩
  · cases Md.coefsB l
    · exact .inr (.inl ⟨rfl, rfl, rfl⟩)
    · exact .inr (.inr ⟨rfl, rfl, rfl⟩)
theorem nums_row {c : Md.Cn} (h : c.rows.all (fun r => r.all Md.numB) = false) : Md.numsB c = false := by unfold Md.numsB; rw [h]; simp
theorem nums_tab {c : Md.Cn} (h : c.table.all Md.numB = false) : Md.numsB c = false := by unfold Md.numsB; rw [h]; simp
end Go.Proofs.YtchpapppkmnfnaaGreatDoor
