/-
  BigParses: the walk.
-/
import Derived.Test.YtangepgiamhenaaDoorIsBig
import Derived.Test.YtangepgiamhenaaDoorRefParse
namespace Go.Proofs.YtangepgiamhenaaDoor
open Go.RowKit
open Bn (limbs)

theorem minus_iff (s : ByteArray) : minus s.data.toList = true ↔ ∃ h : 0 < s.size, s[0].toNat = 45 := by
  unfold minus Lib.hasPrefix
  cases hl : s.data.toList with
  | nil =>
    have : s.size = 0 := by have := congrArg List.length hl; rw [Array.length_toList] at this; exact this
    constructor
    · intro h; cases h
    · rintro ⟨h, _⟩; omega
  | cons c t =>
    have h0 : 0 < s.size := by have := congrArg List.length hl; rw [Array.length_toList] at this; show 0 < s.data.size; rw [this]; simp
    have hc : s[0] = c := by
      have h1 := refParse_at0 h0
      rw [hl] at h1; simp at h1; exact h1.symm
    constructor
    · intro h
      simp [List.isPrefixOf] at h
      refine ⟨h0, ?_⟩
      rw [hc, ← h]; rfl
    · rintro ⟨_, h⟩
      rw [hc] at h
      have : c = 45 := UInt8.toNat_inj.1 (by rw [h]; rfl)
      subst this; simp [List.isPrefixOf]

/-- The document's Parse. -/
theorem refParse_any (s : ByteArray) (w : World) (hs : s.size ≤ 1000000) :
    Calls Tryd.prog 10 #[.string s] w fun e w' => ∃ v, e = .returned (.tuple #[v, .bool (parseZ s.data.toList).isSome]) ∧ RefAt w' v ((parseZ s.data.toList).getD 0) ∧ Below w.heap.size w w' := by
  cases hm : minus s.data.toList with
  | true =>
    obtain ⟨h0, h45⟩ := (minus_iff s).1 hm
    refine refParse_neg s (s.extract 1 s.size) s.data.toList w hs h0 h45 rfl ?_ hm
    rw [extract_list]
    unfold digitsOf Lib.trimPrefix
    unfold minus at hm
    rw [hm, List.take_of_length_le (by simp)]
    rfl
  | false =>
    have hd : s.data.toList = digitsOf s.data.toList := by
      unfold digitsOf Lib.trimPrefix; unfold minus at hm; rw [hm]; rfl
    by_cases h0 : 0 < s.size
    · refine refParse_pos s s.data.toList w hs h0 (fun h => ?_) hd hm
      have := (minus_iff s).2 ⟨h0, h⟩
      rw [hm] at this; cases this
    · have e : s = ⟨#[]⟩ := by
        cases s with
        | mk d => congr 1; exact Array.eq_empty_of_size_eq_zero (by show d.size = 0; have : (ByteArray.mk d).size = d.size := rfl; omega)
      subst e
      have hb0 : Below w.heap.size w (w.alloc (.cells #[.bool false, .slice none 0 0] 30)) := (Below.refl _ _).alloc (Nat.le_refl _) _
      have hP : parseZ (ByteArray.mk #[]).data.toList = none := by rfl
      rw [hP]
      clear hd hm h0 hs hP
      go_enter Tryd.func10, Tryd.ntmps10
      go_wp2
      exact bodyPost_ret (v := .tuple #[.agg #[.bool false, .slice none 0 0], .bool false]) (by simp [results, Tryd.results10, go_sem]) rfl ⟨_, rfl, refAt_zero _, hb0⟩

/-- A text's number has no more limbs than the text has bytes. -/
theorem parse_len (l : List UInt8) : (limbs ((parseZ l).getD 0).natAbs).length ≤ l.length := by
  unfold parseZ
  split
  · rename_i h
    simp only [Option.getD_some]
    rw [sg_abs, Bn.limbs_length_le]
    have hd : (digitsOf l).all isDig = true := by
      rcases h with h | h
      · subst h; rfl
      · exact sizeB_all h
    have h1 := dval_lt _ hd
    have h2 := digitsOf_le l
    have h3 : 10 ^ (digitsOf l).length ≤ 10 ^ l.length := Nat.pow_le_pow_right (by decide) h2
    have h4 : 10 ^ l.length ≤ 1000000000 ^ l.length := Nat.pow_le_pow_left (by decide) _
    omega
  · simp [Bn.limbs_zero]

set_option maxHeartbeats 400000 in
set_option maxRecDepth 100000 in
theorem bigParses_walk (s : ByteArray) (w : World) (hs : s.size ≤ maxLen) (ht : Tab w) :
    Calls Tryd.prog 3 #[.string s] w fun e w' => e = .returned (.bool true) ∧ Below w.heap.size w w' := by
  unfold maxLen at hs
  by_cases hbig : 20000 < s.size
  · have hbI : (20000 : Int) < (s.size : Int) := by omega
    go_enter Tryd.func3, Tryd.ntmps3
    go_wp2
    go_ret
    exact ⟨rfl, Below.refl _ _⟩
  · have hbI : ¬ (20000 : Int) < (s.size : Int) := by omega
    have HP : Hid (∀ w, Calls Tryd.prog 9 #[.string s] w fun e w' => ∃ v, e = .returned (.tuple #[v, .int .i64 (errOf (parseZ s.data.toList))]) ∧ BigAt w' v ((parseZ s.data.toList).getD 0) ∧ Below w.heap.size w w') := fun w => parse_any s w (by omega)
    have HR : Hid (∀ w, Calls Tryd.prog 10 #[.string s] w fun e w' => ∃ v, e = .returned (.tuple #[v, .bool (parseZ s.data.toList).isSome]) ∧ RefAt w' v ((parseZ s.data.toList).getD 0) ∧ Below w.heap.size w w') := fun w => refParse_any s w (by omega)
    have hlen : (limbs ((parseZ s.data.toList).getD 0).natAbs).length ≤ 1000000 := by
      have h1 := parse_len s.data.toList
      have h2 : s.data.toList.length = s.size := by simp
      omega
    have herr : errOf (parseZ s.data.toList) = if (parseZ s.data.toList).isSome = true then 0 else 10 := rfl
    generalize (parseZ s.data.toList).getD 0 = z at *
    cases ho : (parseZ s.data.toList).isSome with
    | true =>
      have he : errOf (parseZ s.data.toList) = 0 := by rw [herr, ho]; rfl
      rw [ho] at HR
      rw [he] at HP
      clear he ho herr
      go_enter Tryd.func3, Tryd.ntmps3
      go_wp2_with fail
      refine (HP.out _).mono ?_
      rintro e w1 ⟨a, rfl, hA, hb1⟩
      obtain ⟨y, q, rfl⟩ := hA.shape
      have hbA : Below w1.heap.size w1 (w1.alloc (.cells #[.int .i64 y, .pointer q] 24)) := (Below.refl _ _).alloc (Nat.le_refl _) _
      go_wp2_with fail
      refine (HR.out _).mono ?_
      rintro e w2 ⟨r, rfl, hR, hb2⟩
      have hR' := hR
      obtain ⟨sr, rfl, hRi⟩ := hR'
      obtain ⟨pb, cb, rfl, _⟩ := hRi.form
      have hbB : Below w2.heap.size w2 (w2.alloc (.cells #[.bool (decide (z < 0)), .slice pb (limbs z.natAbs).length cb] 30)) := (Below.refl _ _).alloc (Nat.le_refl _) _
      have hsz : w1.heap.size + 1 ≤ w2.heap.size := by have := hb2.size; simpa using this
      have c0 : ∀ o, w2.cell? ⟨w1.heap.size, o, none⟩ = (w1.alloc (.cells #[.int .i64 y, .pointer q] 24)).cell? ⟨w1.heap.size, o, none⟩ := fun o => hb2.cell (p := ⟨w1.heap.size, o, none⟩) (by simp)
      have k0 : ∀ o, (w2.alloc o).cell? ⟨w1.heap.size, 0, none⟩ = some (.int .i64 y) := fun o => (World.cell?_alloc_past _ _ _ (by omega)).trans ((c0 0).trans (by simp))
      have k1 : ∀ o, (w2.alloc o).cell? ⟨w1.heap.size, 1, none⟩ = some (.pointer q) := fun o => (World.cell?_alloc_past _ _ _ (by omega)).trans ((c0 1).trans (by simp))
      have hbw2 : Below w1.heap.size w1 w2 := hbA.trans (hb2.mono (by simp))
      have HA3 : Hid (BigAt (w2.alloc (.cells #[.bool (decide (z < 0)), .slice pb (limbs z.natAbs).length cb] 30)) (.agg #[.int .i64 y, .pointer q]) z) := (hA.below hbw2).below hbB
      have HR3 : Hid (RefAt (w2.alloc (.cells #[.bool (decide (z < 0)), .slice pb (limbs z.natAbs).length cb] 30)) (.agg #[.bool (decide (z < 0)), .slice pb (limbs z.natAbs).length cb]) z) := hR.below hbB
      have hbw3 : Below w.heap.size w (w2.alloc (.cells #[.bool (decide (z < 0)), .slice pb (limbs z.natAbs).length cb] 30)) := (hb1.trans (hbw2.mono hb1.size)).trans (hbB.mono (Nat.le_trans hb1.size hbw2.size))
      have HB3 : Hid (Below w.heap.size w (w2.alloc (.cells #[.bool (decide (z < 0)), .slice pb (limbs z.natAbs).length cb] 30))) := hbw3
      have HT3 : Hid (Tab (w2.alloc (.cells #[.bool (decide (z < 0)), .slice pb (limbs z.natAbs).length cb] 30))) := ht.below hbw3 ht.2
      clear hA hR hRi hbA hbB hbw2 hbw3 hb1 hb2 c0 HP HR ht
      generalize decide (z < 0) = d at *
      go_wp2_with (first | (go_at_call 11; go_in) | (go_at_call 12; refine (is_big z _ _ _ HA3.out HR3.out HT3.out hlen).mono ?_; rintro e w4 ⟨rfl, hb4⟩))
      go_ret
      exact ⟨rfl, HB3.out.trans (hb4.mono HB3.out.size)⟩
    | false =>
      have he : errOf (parseZ s.data.toList) = 10 := by rw [herr, ho]; rfl
      rw [ho] at HR
      rw [he] at HP
      clear he ho herr
      go_enter Tryd.func3, Tryd.ntmps3
      go_wp2_with fail
      refine (HP.out _).mono ?_
      rintro e w1 ⟨a, rfl, hA, hb1⟩
      obtain ⟨y, q, rfl⟩ := hA.shape
      have hbA : Below w1.heap.size w1 (w1.alloc (.cells #[.int .i64 y, .pointer q] 24)) := (Below.refl _ _).alloc (Nat.le_refl _) _
      go_wp2_with fail
      refine (HR.out _).mono ?_
      rintro e w2 ⟨r, rfl, hR, hb2⟩
      have hR' := hR
      obtain ⟨sr, rfl, hRi⟩ := hR'
      obtain ⟨pb, cb, rfl, _⟩ := hRi.form
      have hbB : Below w2.heap.size w2 (w2.alloc (.cells #[.bool (decide (z < 0)), .slice pb (limbs z.natAbs).length cb] 30)) := (Below.refl _ _).alloc (Nat.le_refl _) _
      have hsz : w1.heap.size + 1 ≤ w2.heap.size := by have := hb2.size; simpa using this
      have c0 : ∀ o, w2.cell? ⟨w1.heap.size, o, none⟩ = (w1.alloc (.cells #[.int .i64 y, .pointer q] 24)).cell? ⟨w1.heap.size, o, none⟩ := fun o => hb2.cell (p := ⟨w1.heap.size, o, none⟩) (by simp)
      have k0 : ∀ o, (w2.alloc o).cell? ⟨w1.heap.size, 0, none⟩ = some (.int .i64 y) := fun o => (World.cell?_alloc_past _ _ _ (by omega)).trans ((c0 0).trans (by simp))
      have k1 : ∀ o, (w2.alloc o).cell? ⟨w1.heap.size, 1, none⟩ = some (.pointer q) := fun o => (World.cell?_alloc_past _ _ _ (by omega)).trans ((c0 1).trans (by simp))
      have hbw2 : Below w1.heap.size w1 w2 := hbA.trans (hb2.mono (by simp))
      have HA3 : Hid (BigAt (w2.alloc (.cells #[.bool (decide (z < 0)), .slice pb (limbs z.natAbs).length cb] 30)) (.agg #[.int .i64 y, .pointer q]) z) := (hA.below hbw2).below hbB
      have HR3 : Hid (RefAt (w2.alloc (.cells #[.bool (decide (z < 0)), .slice pb (limbs z.natAbs).length cb] 30)) (.agg #[.bool (decide (z < 0)), .slice pb (limbs z.natAbs).length cb]) z) := hR.below hbB
      have hbw3 : Below w.heap.size w (w2.alloc (.cells #[.bool (decide (z < 0)), .slice pb (limbs z.natAbs).length cb] 30)) := (hb1.trans (hbw2.mono hb1.size)).trans (hbB.mono (Nat.le_trans hb1.size hbw2.size))
      have HB3 : Hid (Below w.heap.size w (w2.alloc (.cells #[.bool (decide (z < 0)), .slice pb (limbs z.natAbs).length cb] 30))) := hbw3
      have HT3 : Hid (Tab (w2.alloc (.cells #[.bool (decide (z < 0)), .slice pb (limbs z.natAbs).length cb] 30))) := ht.below hbw3 ht.2
      clear hA hR hRi hbA hbB hbw2 hbw3 hb1 hb2 c0 HP HR ht
      generalize decide (z < 0) = d at *
      go_wp2_with (first | (go_at_call 11; go_in) | (go_at_call 12; refine (is_big z _ _ _ HA3.out HR3.out HT3.out hlen).mono ?_; rintro e w4 ⟨rfl, hb4⟩))
      go_ret
      exact ⟨rfl, HB3.out.trans (hb4.mono HB3.out.size)⟩

end Go.Proofs.YtangepgiamhenaaDoor
