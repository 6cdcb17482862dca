/-
  Package big: divLimbs.
-/
import Derived.Test.YtangepgiamhenaaDoorDivLong
namespace Go.Proofs.YtangepgiamhenaaDoor
open Go.RowKit
open Bn (limbs)

set_option maxHeartbeats 1000000 in
set_option maxRecDepth 100000 in
/-- divLimbs. -/
theorem divLimbs_any (x y : Nat) (va vb : Value) (w : World) (ha : U32At w va (limbs x)) (hb : U32At w vb (limbs y)) (hx : (limbs x).length ≤ 5000000) (hy : 0 < y) :
    Calls Tryd.prog 61 #[va, vb] w fun e w' => ∃ r, e = .returned (.tuple #[r, .bool (decide (x % y = 0))]) ∧ U32At w' r (limbs (x / y)) ∧ Below w.heap.size w w' := by
  have HA : Hid (U32At w va (limbs x)) := ha
  have HB : Hid (U32At w vb (limbs y)) := hb
  have HC : Hid (Calls Tryd.prog 48 #[va, vb] w fun e w' => e = .returned (.int .i64 (cmpI (x : Int) (y : Int))) ∧ Below w.heap.size w w') := compareLimbs_any x y va vb w ha hb hx
  obtain ⟨pa, ca, hva, _⟩ := ha.form
  obtain ⟨n, hn⟩ : ∃ n, n = (limbs x).length := ⟨_, rfl⟩
  rw [← hn] at hva
  subst hva
  by_cases hlt : x < y
  · have hc : cmpI (x : Int) (y : Int) = -1 := cmpI_lt (by omega)
    rw [hc] at HC
    obtain ⟨pb, cb, rfl, _⟩ := hb.form
    have HE : Hid (((n : Int) == 0) = decide (x % y = 0)) := by
      show _ = _
      rw [Nat.mod_eq_of_lt hlt, Bool.eq_iff_iff, beq_iff_eq, decide_eq_true_iff]
      constructor
      · intro h; exact Bn.limbs_eq_nil.1 (List.eq_nil_of_length_eq_zero (by omega))
      · intro h; rw [hn, h]; rfl
    have HZ : Hid (limbs (x / y) = []) := by show _ = _; rw [Nat.div_eq_of_lt hlt]; rfl
    clear ha hb hn hc
    go_enter Tryd.func61, Tryd.ntmps61
    go_wp2_with fail
    refine HC.out.mono ?_
    rintro e w1 ⟨rfl, hb1⟩
    go_wp2
    go_ret2
    refine ⟨.slice none 0 0, ?_, .inl ⟨rfl, HZ.out⟩, hb1⟩
    show Ending.returned (.tuple #[.slice none 0 0, .bool ((n : Int) == 0)]) = _
    rw [HE.out]
  · have hc : 0 ≤ cmpI (x : Int) (y : Int) := by
      rcases Nat.lt_or_ge y x with h | h
      · rw [cmpI_gt (by omega)]; decide
      · rw [cmpI_eq (by omega) (by omega)]; decide
    generalize cmpI (x : Int) (y : Int) = cc at *
    have hly : 0 < (limbs y).length := by
      rcases Nat.eq_zero_or_pos (limbs y).length with e | e
      · have := Bn.limbs_eq_nil.1 (List.eq_nil_of_length_eq_zero e); omega
      · exact e
    obtain ⟨bb, ob, cb, hvb, hbs, hl1, hm1, hcb⟩ := hb.pos hly
    obtain ⟨l, hl⟩ : ∃ l, l = (limbs y).length := ⟨_, rfl⟩
    rw [← hl] at hvb
    subst hvb
    by_cases h1 : l = 1
    · subst h1
      have hs : (limbs y)[0] = y := by
        have := Bn.val_limbs' y
        have hh : limbs y = [(limbs y)[0]] := by
          apply List.ext_getElem
          · simp; omega
          · intro i h2 h3; simp at h3; subst h3; rfl
        rw [hh] at this
        simpa [Bn.val] using this
      have hyb : y < 1000000000 := by rw [← hs]; exact Bn.limbs_get_lt _
      have hc0 := hcb 0 hly
      rw [hs] at hc0
      have HS : Hid (∀ w1, Below w.heap.size w w1 → Calls Tryd.prog 81 #[.slice pa n ca, .int .u64 (y : Int)] w1 fun e w' => ∃ v, e = .returned (.tuple #[v, .bool (decide (x % y = 0))]) ∧ U32At w' v (limbs (x / y)) ∧ Below w1.heap.size w1 w') :=
        fun w1 h => divShort_any x y _ w1 (HA.out.below h) hx hy hyb
      have HC0 : Hid (∀ w1, Below w.heap.size w w1 → w1.cell? ⟨bb, ob, none⟩ = some (.int .u32 (y : Int))) := fun w1 h => (h.cell (p := ⟨bb, ob, none⟩) hbs).trans hc0
      generalize decide (x % y = 0) = dd at *
      clear ha hb hn hs hc0 hcb hl
      go_enter Tryd.func61, Tryd.ntmps61
      go_wp2_with fail
      refine HC.out.mono ?_
      rintro e w1 ⟨rfl, hb1⟩
      have hc1 := HC0.out w1 hb1
      go_wp2_with fail
      refine (HS.out w1 hb1).mono ?_
      rintro e w2 ⟨v, rfl, hU, hb2⟩
      go_wp2
      go_ret2
      exact ⟨_, rfl, hU, hb1.trans (hb2.mono hb1.size)⟩
    · obtain ⟨m, rfl⟩ : ∃ m, l = m + 2 := ⟨l - 2, by omega⟩
      have hlm : m + 2 ≤ n := by
        rw [hl, hn]
        rw [Bn.limbs_length_le]
        exact Nat.lt_of_le_of_lt (by omega) ((Bn.limbs_length_le x _).1 (Nat.le_refl _))
      have HL : Hid (∀ w1, Below w.heap.size w w1 → Calls Tryd.prog 82 #[.slice pa n ca, .slice (some ⟨bb, ob, none⟩) (m + 2) cb] w1 fun e w' => ∃ r, e = .returned (.tuple #[r, .bool (decide (x % y = 0))]) ∧ U32At w' r (limbs (x / y)) ∧ Below w1.heap.size w1 w') :=
        fun w1 h => divLong_any x y n m _ _ _ _ w1 (HA.out.below h) (HB.out.below h) hn.symm hl.symm hlm (by omega) rfl rfl
      have hlI : (((m : Int) + 2) == 1) = false := by rw [beq_eq_false_iff_ne]; omega
      generalize decide (x % y = 0) = dd at *
      clear ha hb hn hcb hl h1
      go_enter Tryd.func61, Tryd.ntmps61
      go_wp2_with fail
      refine HC.out.mono ?_
      rintro e w1 ⟨rfl, hb1⟩
      go_wp2_with fail
      refine (HL.out w1 hb1).mono ?_
      rintro e w2 ⟨v, rfl, hU, hb2⟩
      go_wp2
      go_ret2
      exact ⟨_, rfl, hU, hb1.trans (hb2.mono hb1.size)⟩
end Go.Proofs.YtangepgiamhenaaDoor
