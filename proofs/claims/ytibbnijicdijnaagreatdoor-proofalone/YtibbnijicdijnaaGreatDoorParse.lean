/-
  Package big: Parse.
-/
import Derived.Test.YtibbnijicdijnaaGreatDoorSettled
import Derived.Test.YtibbnijicdijnaaGreatDoorRead
import Derived.Test.YtibbnijicdijnaaGreatDoorShelf
namespace Go.Proofs.YtibbnijicdijnaaGreatDoor
open Go.RowKit
open Bn (limbs)

/-- A sign ahead? -/
def minus (l : List UInt8) : Bool := Lib.hasPrefix l [45]
/-- The text without its sign. -/
def digitsOf (l : List UInt8) : List UInt8 := Lib.trimPrefix l [45]
/-- What a text writes, if it is a number. -/
def parseZ (l : List UInt8) : Option Int := if l = [48] ∨ sizeB (digitsOf l) = true then some (sg (minus l) (dval (digitsOf l))) else none

/-- Its error. -/
def errOf (o : Option Int) : Int := if o.isSome then 0 else 10

theorem digitsOf_le (l : List UInt8) : (digitsOf l).length ≤ l.length := by
  unfold digitsOf Lib.trimPrefix; split
  · rw [List.length_drop]; omega
  · exact Nat.le_refl _
theorem size_mk (l : List UInt8) : (⟨l.toArray⟩ : ByteArray).size = l.length := by show l.toArray.size = _; simp
theorem sizeB_all {l : List UInt8} (h : sizeB l = true) : l.all isDig = true := by
  unfold sizeB at h; simp at h; rw [List.all_eq_true]; exact h.2

set_option maxHeartbeats 400000 in
set_option maxRecDepth 100000 in
theorem parse_any (s : ByteArray) (w : World) (hs : s.size ≤ 1000000) :
    Calls Tryz.prog 171 #[.string s] w fun e w' => ∃ v, e = .returned (.tuple #[v, .int .i64 (errOf (parseZ s.data.toList))]) ∧ BigAt w' v ((parseZ s.data.toList).getD 0) ∧ Below w.heap.size w w' := by
  have hb0 : Below w.heap.size w (w.alloc (.cells #[.int .i64 0, .pointer none] 232)) := (Below.refl _ _).alloc (Nat.le_refl _) _
  obtain ⟨l, hl⟩ : ∃ l, l = s.data.toList := ⟨_, rfl⟩
  have hll : l.length = s.size := by rw [hl]; simp
  have hC := Tryz.strings_CutPrefix s ⟨#[45]⟩
  rw [← hl] at hC ⊢
  have hC' : ∀ w, Calls Tryz.prog 151 #[.string s, .string ⟨#[45]⟩] w fun e w' => e = .returned (.tuple #[.string ⟨(digitsOf l).toArray⟩, .bool (minus l)]) ∧ w' = w := hC
  clear hC
  obtain ⟨d, hd⟩ : ∃ d : ByteArray, d = ⟨(digitsOf l).toArray⟩ := ⟨_, rfl⟩
  have hdl : d.data.toList = digitsOf l := by rw [hd]
  have hds : d.size ≤ 1000000 := by rw [hd, size_mk]; have := digitsOf_le l; omega
  rw [← hd] at hC'
  obtain ⟨m, hm⟩ : ∃ m, m = minus l := ⟨_, rfl⟩
  rw [← hm] at hC'
  have HC : Hid (∀ w, Calls Tryz.prog 151 #[.string s, .string ⟨#[45]⟩] w fun e w' => e = .returned (.tuple #[.string d, .bool m]) ∧ w' = w) := hC'
  by_cases h48 : l = [48]
  · have hz : (s.toList == [48]) = true := by rw [ByteArray.toList_eq, ← hl, h48]; rfl
    have HP : Hid (parseZ l = some (sg m (dval d.data.toList))) := by show _ = _; unfold parseZ; rw [if_pos (.inl h48), hdl, hm]
    have hda : d.data.toList.all isDig = true := by rw [hdl, h48]; rfl
    clear h48 hm hdl hd hl hll hC'
    go_enter Tryz.func171, Tryz.ntmps171
    go_wp2_with fail
    refine (HC.out _).mono ?_
    rintro e w1 ⟨rfl, rfl⟩
    go_wp2_with fail
    refine (readLimbs_any d _ hds hda).mono ?_
    rintro e w1 ⟨v, rfl, hU, hb1⟩
    obtain ⟨a1, cp1, hv, _⟩ := hU.form
    subst hv
    go_wp2_with fail
    refine (settled_any m _ _ _ hU).mono ?_
    rintro e w2 ⟨r, rfl, hB, hb2⟩
    have hb3 : Below (w.alloc (.cells #[.int .i64 0, .pointer none] 232)).heap.size (w.alloc (.cells #[.int .i64 0, .pointer none] 232)) w2 := hb1.trans (hb2.mono hb1.size)
    obtain ⟨hc, hfz⟩ := bcell hb3
    have HB : Hid (BigAt w2 r (sg m (dval d.data.toList))) := hB
    have hfin := hb0.trans (hb3.mono (by simp))
    have HN : Hid _ := box_at hb3
    obtain ⟨y, q, hr⟩ := hB.shape
    subst hr
    clear hB hb1 hb2 hb3 hU
    go_wp2
    exact bodyPost_ret (v := .tuple #[.agg #[.int .i64 y, .pointer q], .int .i64 0]) (by simp [results, Tryz.results171, go_sem, hc]) rfl ⟨_, by rw [HP.out]; rfl, by rw [HP.out]; exact HB.out.setBox HN.out _ _, (hfin.setCell (by simp) _).setCell (by simp) _⟩
  · have hz : (s.toList == [48]) = false := by rw [ByteArray.toList_eq, ← hl]; simpa using h48
    cases hB : sizeB d.data.toList with
    | false =>
      have HP : Hid (parseZ l = none) := by
        show _ = _; unfold parseZ; rw [if_neg]; rintro (h | h)
        · exact h48 h
        · rw [← hdl, hB] at h; cases h
      have HS : Hid (∀ w, Calls Tryz.prog 185 #[.string d] w fun e w' => e = .returned (.bool false) ∧ w' = w) := fun w => by rw [← hB]; exact isSize_any d w (by unfold maxLen; omega)
      clear h48 hm hdl hd hl hll hC' hB
      go_enter Tryz.func171, Tryz.ntmps171
      go_wp2_with fail
      refine (HC.out _).mono ?_
      rintro e w1 ⟨rfl, rfl⟩
      go_wp2_with fail
      refine (HS.out _).mono ?_
      rintro e w1 ⟨rfl, rfl⟩
      go_wp2
      exact bodyPost_ret (v := .tuple #[.agg #[.int .i64 0, .pointer none], .int .i64 10]) (by simp [results, Tryz.results171, go_sem]) rfl ⟨_, by rw [HP.out]; rfl, by rw [HP.out]; exact .inl ⟨by unfold Fits; decide, rfl⟩, hb0⟩
    | true =>
      have HP : Hid (parseZ l = some (sg m (dval d.data.toList))) := by show _ = _; unfold parseZ; rw [if_pos (.inr (by rw [← hdl]; exact hB)), hdl, hm]
      have hda : d.data.toList.all isDig = true := sizeB_all hB
      have HS : Hid (∀ w, Calls Tryz.prog 185 #[.string d] w fun e w' => e = .returned (.bool true) ∧ w' = w) := fun w => by rw [← hB]; exact isSize_any d w (by unfold maxLen; omega)
      clear h48 hm hdl hd hl hll hC' hB
      go_enter Tryz.func171, Tryz.ntmps171
      go_wp2_with fail
      refine (HC.out _).mono ?_
      rintro e w1 ⟨rfl, rfl⟩
      go_wp2_with fail
      refine (HS.out _).mono ?_
      rintro e w1 ⟨rfl, rfl⟩
      go_wp2_with fail
      refine (readLimbs_any d _ hds hda).mono ?_
      rintro e w1 ⟨v, rfl, hU, hb1⟩
      obtain ⟨a1, cp1, hv, _⟩ := hU.form
      subst hv
      go_wp2_with fail
      refine (settled_any m _ _ _ hU).mono ?_
      rintro e w2 ⟨r, rfl, hB, hb2⟩
      have hb3 : Below (w.alloc (.cells #[.int .i64 0, .pointer none] 232)).heap.size (w.alloc (.cells #[.int .i64 0, .pointer none] 232)) w2 := hb1.trans (hb2.mono hb1.size)
      obtain ⟨hc, hfz⟩ := bcell hb3
      have HB : Hid (BigAt w2 r (sg m (dval d.data.toList))) := hB
      have hfin := hb0.trans (hb3.mono (by simp))
      have HN : Hid _ := box_at hb3
      obtain ⟨y, q, hr⟩ := hB.shape
      subst hr
      clear hB hb1 hb2 hb3 hU
      go_wp2
      exact bodyPost_ret (v := .tuple #[.agg #[.int .i64 y, .pointer q], .int .i64 0]) (by simp [results, Tryz.results171, go_sem, hc]) rfl ⟨_, by rw [HP.out]; rfl, by rw [HP.out]; exact HB.out.setBox HN.out _ _, (hfin.setCell (by simp) _).setCell (by simp) _⟩

end Go.Proofs.YtibbnijicdijnaaGreatDoor
