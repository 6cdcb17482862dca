/-
  Put together: RqN, RqL, RqM, RqX.
-/
import Derived.Test.YtgckmkdmlaocmaaGreatDoorRefParse
import Derived.Test.YtgckmkdmlaocmaaGreatDoorRqSm
import Derived.Test.YtgckmkdmlaocmaaGreatDoorJ17
import Derived.Test.YtgckmkdmlaocmaaGreatDoorPfNum
namespace Go.Proofs.YtgckmkdmlaocmaaGreatDoor
open Go.RowKit
open Bn (limbs)

theorem minus_iff (s : ByteArray) : minus s.data.toList = true ↔ ∃ h : 0 < s.size, s[0].toNat = 45 := by
  unfold minus Lib.hasPrefix
  cases hl : s.data.toList with
  | nil =>
    have : s.size = 0 := by have := congrArg List.length hl; rw [Array.length_toList] at this; exact this
    constructor
    · intro h; cases h
    · rintro ⟨h, _⟩; omega
  | cons c t =>
    have h0 : 0 < s.size := by have := congrArg List.length hl; rw [Array.length_toList] at this; show 0 < s.data.size; rw [this]; simp
    have hc : s[0] = c := by
      have h1 := refParse_at0 h0
      rw [hl] at h1; simp at h1; exact h1.symm
    constructor
    · intro h
      simp [List.isPrefixOf] at h
      refine ⟨h0, ?_⟩
      rw [hc, ← h]; rfl
    · rintro ⟨_, h⟩
      rw [hc] at h
      have : c = 45 := UInt8.toNat_inj.1 (by rw [h]; rfl)
      subst this; simp [List.isPrefixOf]

/-- The document's Parse. -/
theorem refParse_any (s : ByteArray) (w : World) (hs : s.size ≤ 9000000) :
    Calls Tryz.prog 45 #[.string s] w fun e w' => ∃ v, e = .returned (.tuple #[v, .bool (parseZ s.data.toList).isSome]) ∧ RefAt w' v ((parseZ s.data.toList).getD 0) ∧ Below w.heap.size w w' := by
  cases hm : minus s.data.toList with
  | true =>
    obtain ⟨h0, h45⟩ := (minus_iff s).1 hm
    refine refParse_neg s (s.extract 1 s.size) s.data.toList w hs h0 h45 rfl ?_ hm
    rw [extract_list]
    unfold digitsOf Lib.trimPrefix
    unfold minus at hm
    rw [hm, List.take_of_length_le (by simp)]
    rfl
  | false =>
    have hd : s.data.toList = digitsOf s.data.toList := by
      unfold digitsOf Lib.trimPrefix; unfold minus at hm; rw [hm]; rfl
    by_cases h0 : 0 < s.size
    · refine refParse_pos s s.data.toList w hs h0 (fun h => ?_) hd hm
      have := (minus_iff s).2 ⟨h0, h⟩
      rw [hm] at this; cases this
    · have e : s = ⟨#[]⟩ := by
        cases s with
        | mk d => congr 1; exact Array.eq_empty_of_size_eq_zero (by show d.size = 0; have : (ByteArray.mk d).size = d.size := rfl; omega)
      subst e
      have hb0 : Below w.heap.size w (w.alloc (.cells #[.bool false, .slice none 0 0] 105)) := (Below.refl _ _).alloc (Nat.le_refl _) _
      have hP : parseZ (ByteArray.mk #[]).data.toList = none := by rfl
      rw [hP]
      clear hd hm h0 hs hP
      go_enter Tryz.func45, Tryz.ntmps45
      go_wp2
      exact bodyPost_ret (v := .tuple #[.agg #[.bool false, .slice none 0 0], .bool false]) (by simp [results, Tryz.results45, go_sem]) rfl ⟨_, rfl, refAt_zero _, hb0⟩


theorem rparse_txt (x : List UInt8) (w : World) (hx : x.length ≤ 9000000) : Calls Tryz.prog 45 #[.string (txtOf x)] w fun e w' => ∃ v, e = .returned (.tuple #[v, .bool (parseZ x).isSome]) ∧ RefAt w' v ((parseZ x).getD 0) ∧ Below w.heap.size w w' := by
  have := refParse_any (txtOf x) w (by rw [txt_size]; exact hx)
  rwa [txt_list] at this
theorem sign_ge (z g : Int) (hg : g = 0 ∨ g = 1) : decide (0 ≤ cmpI z g) = !decide (z.sign < g) := by
  have h1 : z.sign < g ↔ z < g := by
    rcases hg with rfl | rfl
    · exact Int.sign_neg_iff
    · constructor
      · intro h
        by_cases h0 : 0 < z
        · rw [Int.sign_eq_one_of_pos h0] at h; omega
        · omega
      · intro h
        by_cases h0 : z = 0
        · subst h0; decide
        · rw [Int.sign_eq_neg_one_of_neg (by omega)]; omega
  by_cases h : z < g
  · rw [decide_eq_true (h1.2 h), cmpI_lt h]; rfl
  · rw [decide_eq_false (fun e => h (h1.1 e))]
    rcases Int.lt_or_eq_of_le (show g ≤ z by omega) with h' | h'
    · rw [cmpI_gt h']; rfl
    · rw [cmpI_eq (by omega) (by omega)]; rfl
set_option maxRecDepth 10000 in
set_option maxHeartbeats 1000000 in
theorem risnum_any (x : List UInt8) (g : Int) (w : World) (hx : x.length ≤ 9000000) (hg : g = -1 ∨ g = 0 ∨ g = 1) : Calls Tryz.prog 43 #[.string (txtOf x), .int .i64 g] w fun e w' => e = .returned (.bool (!badN x g)) ∧ Below w.heap.size w w' := by
  have HP : Hid (Calls Tryz.prog 45 #[.string (txtOf x)] w fun e w' => ∃ v, e = .returned (.tuple #[v, .bool (parseZ x).isSome]) ∧ RefAt w' v ((parseZ x).getD 0) ∧ Below w.heap.size w w') := rparse_txt x w hx
  unfold badN
  obtain ⟨o, ho⟩ : ∃ o, parseZ x = o := ⟨_, rfl⟩
  rw [ho] at HP ⊢
  clear ho hx
  cases o with
  | none =>
    simp only [Option.isSome_none, Option.isNone_none, Bool.true_or, Bool.not_true] at HP ⊢
    clear hg
    go_enter Tryz.func43, Tryz.ntmps43
    go_wp2_with fail
    refine calls_at HP.out (by with_reducible rfl) (by with_reducible rfl) ?_
    rintro e w1 ⟨v, rfl, hv, hb1⟩
    obtain ⟨s, rfl, hs⟩ := hv
    obtain ⟨a, c, rfl, _⟩ := hs.form
    have HB : Hid (Below w.heap.size w w1) := hb1
    clear hs hb1
    go_wp2_with fail
    go_quiet (fail)
    go_wp2_with fail
    go_ret
    exact ⟨rfl, below_drewN ((Below.alloc HB.out HB.out.size _)) _⟩
  | some z =>
    simp only [Option.isSome_some, Option.isNone_some, Bool.false_or, Option.getD_some] at HP ⊢
    by_cases h1 : g = -1
    · subst h1
      have e0 : (!decide (z.sign < -1)) = true := by
        have : ¬ z.sign < -1 := by
          rcases Int.lt_trichotomy z 0 with h | h | h
          · rw [Int.sign_eq_neg_one_of_neg h]; decide
          · subst h; decide
          · rw [Int.sign_eq_one_of_pos h]; decide
        simp [this]
      rw [e0]
      clear e0 hg
      go_enter Tryz.func43, Tryz.ntmps43
      go_wp2_with fail
      refine calls_at HP.out (by with_reducible rfl) (by with_reducible rfl) ?_
      rintro e w1 ⟨v, rfl, hv, hb1⟩
      obtain ⟨s, rfl, hs⟩ := hv
      obtain ⟨a, c, rfl, _⟩ := hs.form
      have HB : Hid (Below w.heap.size w w1) := hb1
      clear hs hb1
      go_wp2_with fail
      go_quiet (fail)
      go_wp2_with fail
      go_ret
      exact ⟨rfl, below_drewN ((Below.alloc HB.out HB.out.size _)) _⟩
    · have hg2 : g = 0 ∨ g = 1 := by omega
      have hg0 : decide (g < 0) = false := by rcases hg2 with rfl | rfl <;> rfl
      have hlo : -9223372036854775808 ≤ g := by omega
      have hhi : g ≤ 9223372036854775807 := by omega
      have E0 : Hid (decide (0 ≤ cmpI z g) = !decide (z.sign < g)) := sign_ge z g hg2
      clear hg hg2 h1
      go_enter Tryz.func43, Tryz.ntmps43
      go_wp2_with fail
      refine calls_at HP.out (by with_reducible rfl) (by with_reducible rfl) ?_
      rintro e w1 ⟨v, rfl, hv, hb1⟩
      obtain ⟨s, rfl, hs⟩ := hv
      obtain ⟨a, c, rfl, _⟩ := hs.form
      obtain ⟨N, hN⟩ : ∃ N, (limbs z.natAbs).length = N := ⟨_, rfl⟩
      obtain ⟨d, hd⟩ : ∃ d, decide (z < 0) = d := ⟨_, rfl⟩
      obtain ⟨W, hW⟩ : ∃ W, w1.alloc (.cells #[.bool d, .slice a N c] 105) = W := ⟨_, rfl⟩
      have hbW : Below w1.heap.size w1 W := by rw [← hW]; exact (Below.refl _ _).alloc (Nat.le_refl _) _
      have gW : W.heap[w1.heap.size]? = some (.cells #[.bool d, .slice a N c] 105 (0, 0)) := by rw [← hW]; exact heap_alloc_new w1 _
      have HR : Hid (RefAt W (.agg #[.bool d, .slice a N c]) z) := by
        show RefAt W _ z
        rw [← hN, ← hd]; exact ⟨_, rfl, hs.below hbW⟩
      rw [hN, hd]
      have HB : Hid (Below w.heap.size w W) := bl_next hb1 hbW
      have HG : Hid (∀ w', Below W.heap.size W w' → w'.cell? ⟨w1.heap.size, 0, none⟩ = some (.bool d) ∧ w'.cell? ⟨w1.heap.size, 1, none⟩ = some (.slice a N c)) := fun w' hb => by
        have hl := (Array.getElem?_eq_some_iff.1 gW).1
        have := (hb.block _ hl).trans gW
        exact ⟨cell_of this 0, cell_of this 1⟩
      clear hs hb1 hN hd gW hbW
      go_wp2_with fail
      try rw [hW]
      have HW : Hid (w1.alloc (.cells #[.bool d, .slice a N c] 105) = W) := hW
      clear hW
      obtain ⟨c0, c1⟩ := HG.out W.drew (Below.refl _ _).drew
      go_region_with (first
        | (go_at_call 85; refine (refOf_any g W.drew hlo hhi).mono ?_; rintro e w2 ⟨v2, rfl, hr, hb2⟩; obtain ⟨d0, d1⟩ := HG.out w2 ((Below.refl _ _).drew.trans (hb2.mono (Nat.le_refl _))))
        | (go_at_call 84; refine (refCmp_any z g _ _ w2 (HR.out.below ((Below.refl _ _).drew.trans (hb2.mono (Nat.le_refl _)))) hr).mono ?_; rintro e w3 ⟨rfl, hb3⟩))
      all_goals
        have HE : Hid (Below w.heap.size w w3) := bl_next HB.out (((Below.refl _ _).drew.trans (hb2.mono (Nat.le_refl _))).trans (hb3.mono hb2.size))
        go_wp2_with fail
        go_ret
        have E1 : Ending.returned (.bool (decide (0 ≤ cmpI z g))) = .returned (.bool (!decide (z.sign < g))) := by rw [E0.out]
        exact ⟨E1, HE.out⟩
end Go.Proofs.YtgckmkdmlaocmaaGreatDoor

namespace Go.Proofs.YtgckmkdmlaocmaaGreatDoor
open Go.RowKit
open Bn (limbs)

def litR (x : List UInt8) : Int := (litP x).1
theorem rislit_any (v : Int) (w : World) : Calls Tryz.prog 87 #[.int .i64 v] w fun e w' => e = .returned (.bool (decide ((1 ≤ v ∧ v ≤ 1073741824) ∨ (v ≤ -1 ∧ -1073741824 ≤ v)))) ∧ w' = w := by
  by_cases h1 : 1 ≤ v
  · by_cases h2 : v ≤ 1073741824
    · rw [decide_eq_true (.inl ⟨h1, h2⟩)]
      go_enter Tryz.func87, Tryz.ntmps87
      go_wp2_with fail
      go_ret
      exact ⟨by simp, rfl⟩
    · have h3 : ¬ v ≤ -1 := by omega
      rw [decide_eq_false (by omega)]
      go_enter Tryz.func87, Tryz.ntmps87
      go_wp2_with fail
      go_ret
      exact ⟨by simp, rfl⟩
  · by_cases h3 : v ≤ -1
    · by_cases h4 : -1073741824 ≤ v
      · rw [decide_eq_true (.inr ⟨h3, h4⟩)]
        go_enter Tryz.func87, Tryz.ntmps87
        go_wp2_with fail
        go_ret
        exact ⟨by simp, rfl⟩
      · rw [decide_eq_false (by omega)]
        go_enter Tryz.func87, Tryz.ntmps87
        go_wp2_with fail
        go_ret
        exact ⟨by simp, rfl⟩
    · rw [decide_eq_false (by omega)]
      go_enter Tryz.func87, Tryz.ntmps87
      go_wp2_with fail
      go_ret
      exact ⟨rfl, rfl⟩
theorem pre_one (k c : UInt8) (t : List UInt8) : Lib.hasPrefix (c :: t) [k] = decide (c = k) := by
  unfold Lib.hasPrefix
  by_cases h : c = k
  · subst h; simp
  · rw [decide_eq_false h]
    have : (k == c) = false := by simpa using fun e : k = c => h e.symm
    simp only [List.isPrefixOf, this, Bool.false_and]
theorem trim_one (k c : UInt8) (t : List UInt8) : Lib.trimPrefix (c :: t) [k] = if c = k then t else c :: t := by
  unfold Lib.trimPrefix
  rw [pre_one]
  by_cases h : c = k
  · rw [decide_eq_true h, if_pos h]; rfl
  · rw [decide_eq_false h, if_neg h]; rfl
theorem lit_tail (c : UInt8) (t : List UInt8) : Lib.trimPrefix (c :: t) [126] = if c = 126 then t else c :: t := trim_one 126 c t
theorem lit_mid (c : UInt8) (t : List UInt8) : Lib.trimPrefix (c :: t) [120] = (if c = 120 then t else c :: t) ∧ Lib.hasPrefix (c :: t) [120] = decide (c = 120) ∧ Lib.hasPrefix (c :: t) [126] = decide (c = 126) := ⟨trim_one 120 c t, pre_one 120 c t, pre_one 126 c t⟩
def litY (y : List UInt8) : Int := if Lib.hasPrefix y [120] = true then (if 1 ≤ smallV ((parseZ (Lib.trimPrefix y [120])).getD 0) ∧ smallV ((parseZ (Lib.trimPrefix y [120])).getD 0) ≤ 1073741824 then smallV ((parseZ (Lib.trimPrefix y [120])).getD 0) else 0) else 0
theorem litR_not (t : List UInt8) : litR (126 :: t) = -litY t := by
  unfold litR litP litY
  rw [lit_tail, if_pos rfl, (lit_mid 126 t).2.2, decide_eq_true rfl]
  split
  · split <;> simp
  · simp
theorem litR_yes (c : UInt8) (t : List UInt8) (h : c ≠ 126) : litR (c :: t) = litY (c :: t) := by
  unfold litR litP litY
  rw [lit_tail, if_neg h, (lit_mid c t).2.2, decide_eq_false h]
  split
  · split <;> simp
  · simp
theorem litR_nil : litR [] = 0 := by unfold litR litP; simp [Lib.trimPrefix, Lib.hasPrefix]
theorem litY_nil : litY [] = 0 := by unfold litY; simp [Lib.hasPrefix]
theorem litY_no (c : UInt8) (t : List UInt8) (h : c ≠ 120) : litY (c :: t) = 0 := by unfold litY; rw [(lit_mid c t).2.1, decide_eq_false h]; rfl
theorem litY_one : litY [120] = 0 := by kernel_rfl
theorem smallV_le {z : Int} (h : z ≤ 0) : smallV z ≤ 0 := by
  unfold smallV
  split
  · exact h
  · exact Int.le_refl _
theorem parse_minus (t : List UInt8) : smallV ((parseZ (45 :: t)).getD 0) ≤ 0 := by
  apply smallV_le
  unfold parseZ
  have hm : minus (45 :: t) = true := by unfold minus; rw [pre_one, decide_eq_true rfl]
  split
  · rw [hm]; simp [sg]
  · decide
theorem litY_minus (t : List UInt8) : litY (120 :: 45 :: t) = 0 := by
  unfold litY
  rw [(lit_mid 120 (45 :: t)).2.1, (lit_mid 120 (45 :: t)).1, if_pos rfl, decide_eq_true rfl, if_pos rfl, if_neg]
  have := parse_minus t
  omega
theorem parse_plus (b : UInt8) (r : List UInt8) (hb : b ≠ 45) : 0 ≤ (parseZ (b :: r)).getD 0 := by
  unfold parseZ
  have hm : minus (b :: r) = false := by
    unfold minus
    rw [pre_one, decide_eq_false hb]
  split
  · rw [hm]; simp [sg]
  · decide
theorem litY_is (b : UInt8) (r : List UInt8) : litY (120 :: b :: r) = if 1 ≤ smallV ((parseZ (b :: r)).getD 0) ∧ smallV ((parseZ (b :: r)).getD 0) ≤ 1073741824 then smallV ((parseZ (b :: r)).getD 0) else 0 := by
  unfold litY
  rw [(lit_mid 120 (b :: r)).2.1, (lit_mid 120 (b :: r)).1, if_pos rfl, decide_eq_true rfl, if_pos rfl]
theorem u8_ne {c : UInt8} {k : UInt8} (h : c ≠ k) : ((c.toNat : Int) == (k.toNat : Int)) = false := by
  have : c.toNat ≠ k.toNat := fun e => h (UInt8.toNat_inj.1 e)
  simpa using fun e : (c.toNat : Int) = (k.toNat : Int) => this (by exact_mod_cast e)
theorem txt_at0 (c : UInt8) (t : List UInt8) (h : 0 < (txtOf (c :: t)).size) : (txtOf (c :: t))[0] = c := rfl
theorem txt_at1 (c d : UInt8) (t : List UInt8) (h : 1 < (txtOf (c :: d :: t)).size) : (txtOf (c :: d :: t))[1] = d := rfl
theorem txt_rest (c : UInt8) (t : List UInt8) : (txtOf (c :: t)).extract 1 (txtOf (c :: t)).size = txtOf t := by
  rw [ext_txt, txt_size]; simp


set_option maxRecDepth 10000 in
set_option maxHeartbeats 1000000 in
theorem rlit_any (x : List UInt8) (w : World) (hx : x.length ≤ 9000000) : Calls Tryz.prog 44 #[.string (txtOf x)] w fun e w' => e = .returned (.int .i64 (litR x)) ∧ Below w.heap.size w w' := by
  obtain ⟨X, hX⟩ : ∃ X, txtOf x = X := ⟨_, rfl⟩
  rw [hX]
  obtain ⟨nt, y, hy, hn, hs, hi0, hR, hz⟩ : ∃ (nt : Bool) (y : List UInt8), y.length ≤ x.length ∧ (nt = true → 0 < X.size ∧ X.extract 1 X.size = txtOf y) ∧ (nt = false → X = txtOf y) ∧ (0 < X.size → ∀ h : 0 < X.size, ((X[0].toNat : Int) == 126) = nt) ∧ litR x = (if nt = true then -litY y else litY y) ∧ (¬ 0 < X.size → nt = false) := by
    cases x with
    | nil => exact ⟨false, [], Nat.le_refl _, (fun h => by cases h), (fun _ => hX.symm), (fun h => absurd h (by rw [← hX]; decide)), (by rw [litR_nil, litY_nil]; rfl), (fun _ => rfl)⟩
    | cons c t =>
      by_cases h : c = 126
      · subst h
        exact ⟨true, t, (by simp), (fun _ => ⟨(by rw [← hX, txt_size]; simp), (by rw [← hX]; exact txt_rest 126 t)⟩), (fun h => by cases h), (fun _ h => by simp only [← hX]; rfl), litR_not t, (fun h => absurd (by rw [← hX, txt_size]; simp) h)⟩
      · exact ⟨false, c :: t, Nat.le_refl _, (fun h => by cases h), (fun _ => hX.symm), (fun _ h' => by simp only [← hX]; exact u8_ne h), litR_yes c t h, (fun _ => rfl)⟩
  rw [hR]
  have hyl : y.length ≤ 9000000 := Nat.le_trans hy hx
  obtain ⟨T, hT⟩ : ∃ T, txtOf y = T := ⟨_, rfl⟩
  obtain ⟨R, hRR⟩ : ∃ R, (if nt = true then -litY y else litY y) = R := ⟨_, rfl⟩
  rw [hRR]
  rw [hT] at hn hs
  have HN : Hid (nt = true → 0 < X.size ∧ X.extract 1 X.size = T) := hn
  have HS0 : Hid (nt = false → X = T) := hs
  have HI0 : Hid (0 < X.size → ∀ h : 0 < X.size, ((X[0].toNat : Int) == 126) = nt) := hi0
  have HZ : Hid (¬ 0 < X.size → nt = false) := hz
  have HRR : Hid ((if nt = true then -litY y else litY y) = R) := hRR
  have HT : Hid (txtOf y = T) := hT
  clear hR hX hn hs hi0 hz hy hx hT hRR
  by_cases h0 : 0 < X.size
  · have hx0 := HI0.out h0 h0
    have h0' : (0 : Int) < (X.size : Int) := by omega
    go_enter Tryz.func44, Tryz.ntmps44
    go_upto_if 16 with fail
    go_cut [0] from 17 to 18 (fun s0 wx => s0 = .string T ∧ w = wx)
    case first =>
      cases nt with
      | true =>
        have hx2 := (HN.out rfl).2
        go_wp2_with fail
        go_meet
        exact ⟨rfl, rfl⟩
      | false =>
        have HXT : Hid (X = T) := HS0.out rfl
        go_wp2_with fail
        go_meet
        exact ⟨by rw [HXT.out], rfl⟩
    case rest =>
    obtain ⟨rfl, rfl⟩ := hcut
    cases y with
    | nil =>
      have hR0 : R = 0 := by rw [← HRR.out, litY_nil]; cases nt <;> rfl
      have hlt : (T.size : Int) < 2 := by rw [← HT.out]; decide
      have HR0 : Hid (R = 0) := hR0
      clear hR0
      go_wp2_with fail
      go_ret
      exact ⟨(congrArg (fun r => Ending.returned (.int .i64 r)) HR0.out).symm, Below.refl _ _⟩
    | cons a y =>
      have ht0 : 0 < T.size := by rw [← HT.out, txt_size]; simp
      have hta : T[0].toNat = a.toNat := by simp only [← HT.out]; rfl
      have hts : T.size = y.length + 1 := by rw [← HT.out, txt_size]; rfl
      cases y with
      | nil =>
        have hR0 : R = 0 := by
          have : litY [a] = 0 := by
            by_cases h : a = 120
            · rw [h]; exact litY_one
            · exact litY_no a [] h
          rw [← HRR.out, this]; cases nt <;> rfl
        have hlt : (T.size : Int) < 2 := by rw [hts]; decide
        have HR0 : Hid (R = 0) := hR0
        clear hR0 hta hts
        go_wp2_with fail
        go_ret
        exact ⟨(congrArg (fun r => Ending.returned (.int .i64 r)) HR0.out).symm, Below.refl _ _⟩
      | cons b y =>
        have hlt : ¬ (T.size : Int) < 2 := by rw [hts]; simp only [List.length_cons]; omega
        have ht1 : 1 < T.size := by rw [hts]; simp
        by_cases h120 : a = 120
        · subst h120
          have hta2 : T[0].toNat = 120 := hta
          have htb : T[1].toNat = b.toNat := by simp only [← HT.out]; rfl
          have hte : T.extract 1 T.size = txtOf (b :: y) := by rw [← HT.out]; exact txt_rest 120 (b :: y)
          by_cases h45 : b = 45
          · subst h45
            have htb2 : T[1].toNat = 45 := htb
            have hR0 : R = 0 := by rw [← HRR.out, litY_minus]; cases nt <;> rfl
            have HR0 : Hid (R = 0) := hR0
            clear hta htb hts hte hR0
            go_wp2_with fail
            go_ret
            exact ⟨(congrArg (fun r => Ending.returned (.int .i64 r)) HR0.out).symm, Below.refl _ _⟩
          · have htb2 : ((T[1].toNat : Int) == 45) = false := by rw [htb]; exact u8_ne h45
            have HP : Hid (∀ w, Calls Tryz.prog 45 #[.string (txtOf (b :: y))] w fun e w' => ∃ v, e = .returned (.tuple #[v, .bool (parseZ (b :: y)).isSome]) ∧ RefAt w' v ((parseZ (b :: y)).getD 0) ∧ Below w.heap.size w w') := fun w => rparse_txt (b :: y) w (by simp only [List.length_cons] at hyl ⊢; omega)
            have h00 := parse_plus b y h45
            have hRR := HRR.out
            rw [litY_is] at hRR
            obtain ⟨o, ho⟩ : ∃ o, parseZ (b :: y) = o := ⟨_, rfl⟩
            rw [ho] at HP h00 hRR
            obtain ⟨U, hU⟩ : ∃ U, txtOf (b :: y) = U := ⟨_, rfl⟩
            rw [hU] at HP hte
            obtain ⟨z, hz⟩ : ∃ z, o.getD 0 = z := ⟨_, rfl⟩
            rw [hz] at HP h00 hRR
            obtain ⟨q, hq⟩ : ∃ q, smallV z = q := ⟨_, rfl⟩
            obtain ⟨p, hp⟩ : ∃ p, smallB z = p := ⟨_, rfl⟩
            have HS : Hid (∀ (v : Value) (w : World), RefAt w v z → Calls Tryz.prog 86 #[v] w fun e w' => e = .returned (.tuple #[.int .i64 q, .bool p]) ∧ Below w.heap.size w w') := fun v w h => by
              have := refSmall_big z v w h
              rwa [hq, hp] at this
            have hq0 : 0 ≤ q := by rw [← hq]; unfold smallV; split <;> omega
            have hpq : p = false → q = 0 := fun e => by rw [← hq]; unfold smallV; rw [hp, e]; rfl
            have HI : Hid (∀ w : World, Calls Tryz.prog 87 #[.int .i64 q] w fun e w' => e = .returned (.bool (decide ((1 ≤ q ∧ q ≤ 1073741824) ∨ (q ≤ -1 ∧ -1073741824 ≤ q)))) ∧ w' = w) := fun w => rislit_any q w
            have hoz : o.isSome = false → z = 0 := fun e => by
              cases o with
              | none => exact hz.symm
              | some _ => cases e
            obtain ⟨k, hk⟩ : ∃ k, o.isSome = k := ⟨_, rfl⟩
            rw [hk] at HP hoz
            have hzq : z = 0 → q = 0 := fun e => by rw [← hq, e]; rfl
            rw [hq] at hRR
            have HR3 : Hid ((if nt = true then -(if 1 ≤ q ∧ q ≤ 1073741824 then q else 0) else if 1 ≤ q ∧ q ≤ 1073741824 then q else 0) = R) := hRR
            clear hta htb hts hU hz hq hp ho hyl hRR HRR h00 hk
            cases k with
            | false =>
              have hR0 : R = 0 := by rw [← HR3.out, hzq (hoz rfl)]; cases nt <;> rfl
              have HR0 : Hid (R = 0) := hR0
              clear hR0 hoz hzq hpq hq0
              go_wp2_with fail
              refine calls_at (HP.out w) (by with_reducible rfl) (by with_reducible rfl) ?_
              rintro e w1 ⟨v, rfl, hv, hb1⟩
              obtain ⟨sv, rfl, hsv⟩ := hv
              obtain ⟨a, c, rfl, _⟩ := hsv.form
              obtain ⟨N, hN⟩ : ∃ N, (limbs z.natAbs).length = N := ⟨_, rfl⟩
              obtain ⟨d, hd⟩ : ∃ d, decide (z < 0) = d := ⟨_, rfl⟩
              obtain ⟨W, hW⟩ : ∃ W, w1.alloc (.cells #[.bool d, .slice a N c] 105) = W := ⟨_, rfl⟩
              have hbW : Below w1.heap.size w1 W := by rw [← hW]; exact (Below.refl _ _).alloc (Nat.le_refl _) _
              have gW : W.heap[w1.heap.size]? = some (.cells #[.bool d, .slice a N c] 105 (0, 0)) := by rw [← hW]; exact heap_alloc_new w1 _
              have HR : Hid (RefAt W (.agg #[.bool d, .slice a N c]) z) := by
                show RefAt W _ z
                rw [← hN, ← hd]; exact ⟨_, rfl, hsv.below hbW⟩
              rw [hN, hd]
              have HB : Hid (Below w.heap.size w W) := bl_next hb1 hbW
              have c0 : W.cell? ⟨w1.heap.size, 0, none⟩ = some (.bool d) := cell_of gW 0
              have c1 : W.cell? ⟨w1.heap.size, 1, none⟩ = some (.slice a N c) := cell_of gW 1
              clear hsv hb1 hN hd gW hbW
              go_wp2_with fail
              refine calls_at (HS.out _ W HR.out) (by with_reducible rfl) (by with_reducible rfl) ?_
              rintro e w2 ⟨rfl, hb2⟩
              have HB2 : Hid (Below w.heap.size w w2) := bl_next HB.out hb2
              clear hb2 c0 c1 hW
              go_wp2_with fail
              go_ret
              exact ⟨(congrArg (fun r => Ending.returned (.int .i64 r)) HR0.out).symm, HB2.out⟩
            | true =>
              cases p with
              | false =>
                have hR0 : R = 0 := by rw [← HR3.out, hpq rfl]; cases nt <;> rfl
                have HR0 : Hid (R = 0) := hR0
                clear hR0 hoz hzq hpq hq0
                go_wp2_with fail
                refine calls_at (HP.out w) (by with_reducible rfl) (by with_reducible rfl) ?_
                rintro e w1 ⟨v, rfl, hv, hb1⟩
                obtain ⟨sv, rfl, hsv⟩ := hv
                obtain ⟨a, c, rfl, _⟩ := hsv.form
                obtain ⟨N, hN⟩ : ∃ N, (limbs z.natAbs).length = N := ⟨_, rfl⟩
                obtain ⟨d, hd⟩ : ∃ d, decide (z < 0) = d := ⟨_, rfl⟩
                obtain ⟨W, hW⟩ : ∃ W, w1.alloc (.cells #[.bool d, .slice a N c] 105) = W := ⟨_, rfl⟩
                have hbW : Below w1.heap.size w1 W := by rw [← hW]; exact (Below.refl _ _).alloc (Nat.le_refl _) _
                have gW : W.heap[w1.heap.size]? = some (.cells #[.bool d, .slice a N c] 105 (0, 0)) := by rw [← hW]; exact heap_alloc_new w1 _
                have HR : Hid (RefAt W (.agg #[.bool d, .slice a N c]) z) := by
                  show RefAt W _ z
                  rw [← hN, ← hd]; exact ⟨_, rfl, hsv.below hbW⟩
                rw [hN, hd]
                have HB : Hid (Below w.heap.size w W) := bl_next hb1 hbW
                have c0 : W.cell? ⟨w1.heap.size, 0, none⟩ = some (.bool d) := cell_of gW 0
                have c1 : W.cell? ⟨w1.heap.size, 1, none⟩ = some (.slice a N c) := cell_of gW 1
                clear hsv hb1 hN hd gW hbW
                go_wp2_with fail
                refine calls_at (HS.out _ W HR.out) (by with_reducible rfl) (by with_reducible rfl) ?_
                rintro e w2 ⟨rfl, hb2⟩
                have HB2 : Hid (Below w.heap.size w w2) := bl_next HB.out hb2
                clear hb2 c0 c1 hW
                go_wp2_with fail
                go_ret
                exact ⟨(congrArg (fun r => Ending.returned (.int .i64 r)) HR0.out).symm, HB2.out⟩
              | true =>
                by_cases hlim : 1 ≤ q ∧ q ≤ 1073741824
                · rw [decide_eq_true (Or.inl hlim)] at HI
                  have hR0 : R = if nt = true then -q else q := by rw [← HR3.out, if_pos hlim]
                  have hql : q ≤ 1073741824 := hlim.2
                  have hwr : IntKind.i64.wrap (-q) = -q := wrap_id (by omega) (by omega)
                  cases nt with
                  | true =>
                    have hR1 : R = -q := hR0
                    have HR0 : Hid (R = -q) := hR1
                    clear hR0 hR1 hoz hzq hpq hlim
                    go_wp2_with fail
                    refine calls_at (HP.out w) (by with_reducible rfl) (by with_reducible rfl) ?_
                    rintro e w1 ⟨v, rfl, hv, hb1⟩
                    obtain ⟨sv, rfl, hsv⟩ := hv
                    obtain ⟨a, c, rfl, _⟩ := hsv.form
                    obtain ⟨N, hN⟩ : ∃ N, (limbs z.natAbs).length = N := ⟨_, rfl⟩
                    obtain ⟨d, hd⟩ : ∃ d, decide (z < 0) = d := ⟨_, rfl⟩
                    obtain ⟨W, hW⟩ : ∃ W, w1.alloc (.cells #[.bool d, .slice a N c] 105) = W := ⟨_, rfl⟩
                    have hbW : Below w1.heap.size w1 W := by rw [← hW]; exact (Below.refl _ _).alloc (Nat.le_refl _) _
                    have gW : W.heap[w1.heap.size]? = some (.cells #[.bool d, .slice a N c] 105 (0, 0)) := by rw [← hW]; exact heap_alloc_new w1 _
                    have HR : Hid (RefAt W (.agg #[.bool d, .slice a N c]) z) := by
                      show RefAt W _ z
                      rw [← hN, ← hd]; exact ⟨_, rfl, hsv.below hbW⟩
                    rw [hN, hd]
                    have HB : Hid (Below w.heap.size w W) := bl_next hb1 hbW
                    have c0 : W.cell? ⟨w1.heap.size, 0, none⟩ = some (.bool d) := cell_of gW 0
                    have c1 : W.cell? ⟨w1.heap.size, 1, none⟩ = some (.slice a N c) := cell_of gW 1
                    clear hsv hb1 hN hd gW hbW
                    go_wp2_with fail
                    refine calls_at (HS.out _ W HR.out) (by with_reducible rfl) (by with_reducible rfl) ?_
                    rintro e w2 ⟨rfl, hb2⟩
                    have HB2 : Hid (Below w.heap.size w w2) := bl_next HB.out hb2
                    clear hb2 c0 c1 hW
                    go_wp2_with fail
                    refine calls_at (HI.out w2) (by with_reducible rfl) (by with_reducible rfl) ?_
                    rintro e w3 ⟨rfl, hw3⟩
                    rw [hw3]
                    go_wp2_with fail
                    go_ret
                    exact ⟨(congrArg (fun r => Ending.returned (.int .i64 r)) HR0.out).symm, HB2.out⟩
                  | false =>
                    have hR1 : R = q := hR0
                    have HR0 : Hid (R = q) := hR1
                    clear hR0 hR1 hoz hzq hpq hlim
                    go_wp2_with fail
                    refine calls_at (HP.out w) (by with_reducible rfl) (by with_reducible rfl) ?_
                    rintro e w1 ⟨v, rfl, hv, hb1⟩
                    obtain ⟨sv, rfl, hsv⟩ := hv
                    obtain ⟨a, c, rfl, _⟩ := hsv.form
                    obtain ⟨N, hN⟩ : ∃ N, (limbs z.natAbs).length = N := ⟨_, rfl⟩
                    obtain ⟨d, hd⟩ : ∃ d, decide (z < 0) = d := ⟨_, rfl⟩
                    obtain ⟨W, hW⟩ : ∃ W, w1.alloc (.cells #[.bool d, .slice a N c] 105) = W := ⟨_, rfl⟩
                    have hbW : Below w1.heap.size w1 W := by rw [← hW]; exact (Below.refl _ _).alloc (Nat.le_refl _) _
                    have gW : W.heap[w1.heap.size]? = some (.cells #[.bool d, .slice a N c] 105 (0, 0)) := by rw [← hW]; exact heap_alloc_new w1 _
                    have HR : Hid (RefAt W (.agg #[.bool d, .slice a N c]) z) := by
                      show RefAt W _ z
                      rw [← hN, ← hd]; exact ⟨_, rfl, hsv.below hbW⟩
                    rw [hN, hd]
                    have HB : Hid (Below w.heap.size w W) := bl_next hb1 hbW
                    have c0 : W.cell? ⟨w1.heap.size, 0, none⟩ = some (.bool d) := cell_of gW 0
                    have c1 : W.cell? ⟨w1.heap.size, 1, none⟩ = some (.slice a N c) := cell_of gW 1
                    clear hsv hb1 hN hd gW hbW
                    go_wp2_with fail
                    refine calls_at (HS.out _ W HR.out) (by with_reducible rfl) (by with_reducible rfl) ?_
                    rintro e w2 ⟨rfl, hb2⟩
                    have HB2 : Hid (Below w.heap.size w w2) := bl_next HB.out hb2
                    clear hb2 c0 c1 hW
                    go_wp2_with fail
                    refine calls_at (HI.out w2) (by with_reducible rfl) (by with_reducible rfl) ?_
                    rintro e w3 ⟨rfl, hw3⟩
                    rw [hw3]
                    go_wp2_with fail
                    go_ret
                    exact ⟨(congrArg (fun r => Ending.returned (.int .i64 r)) HR0.out).symm, HB2.out⟩
                · have hR0 : R = 0 := by rw [← HR3.out, if_neg hlim]; cases nt <;> rfl
                  rw [decide_eq_false (by omega)] at HI
                  have HR0 : Hid (R = 0) := hR0
                  clear hR0 hoz hzq hpq hlim
                  go_wp2_with fail
                  refine calls_at (HP.out w) (by with_reducible rfl) (by with_reducible rfl) ?_
                  rintro e w1 ⟨v, rfl, hv, hb1⟩
                  obtain ⟨sv, rfl, hsv⟩ := hv
                  obtain ⟨a, c, rfl, _⟩ := hsv.form
                  obtain ⟨N, hN⟩ : ∃ N, (limbs z.natAbs).length = N := ⟨_, rfl⟩
                  obtain ⟨d, hd⟩ : ∃ d, decide (z < 0) = d := ⟨_, rfl⟩
                  obtain ⟨W, hW⟩ : ∃ W, w1.alloc (.cells #[.bool d, .slice a N c] 105) = W := ⟨_, rfl⟩
                  have hbW : Below w1.heap.size w1 W := by rw [← hW]; exact (Below.refl _ _).alloc (Nat.le_refl _) _
                  have gW : W.heap[w1.heap.size]? = some (.cells #[.bool d, .slice a N c] 105 (0, 0)) := by rw [← hW]; exact heap_alloc_new w1 _
                  have HR : Hid (RefAt W (.agg #[.bool d, .slice a N c]) z) := by
                    show RefAt W _ z
                    rw [← hN, ← hd]; exact ⟨_, rfl, hsv.below hbW⟩
                  rw [hN, hd]
                  have HB : Hid (Below w.heap.size w W) := bl_next hb1 hbW
                  have c0 : W.cell? ⟨w1.heap.size, 0, none⟩ = some (.bool d) := cell_of gW 0
                  have c1 : W.cell? ⟨w1.heap.size, 1, none⟩ = some (.slice a N c) := cell_of gW 1
                  clear hsv hb1 hN hd gW hbW
                  go_wp2_with fail
                  refine calls_at (HS.out _ W HR.out) (by with_reducible rfl) (by with_reducible rfl) ?_
                  rintro e w2 ⟨rfl, hb2⟩
                  have HB2 : Hid (Below w.heap.size w w2) := bl_next HB.out hb2
                  clear hb2 c0 c1 hW
                  go_wp2_with fail
                  refine calls_at (HI.out w2) (by with_reducible rfl) (by with_reducible rfl) ?_
                  rintro e w3 ⟨rfl, hw3⟩
                  rw [hw3]
                  go_wp2_with fail
                  go_ret
                  exact ⟨(congrArg (fun r => Ending.returned (.int .i64 r)) HR0.out).symm, HB2.out⟩
        · have hR0 : R = 0 := by rw [← HRR.out, litY_no a (b :: y) h120]; cases nt <;> rfl
          have hta2 : ((T[0].toNat : Int) == 120) = false := by rw [hta]; exact u8_ne h120
          have HR0 : Hid (R = 0) := hR0
          clear hta hts hR0
          go_wp2_with fail
          go_ret
          exact ⟨(congrArg (fun r => Ending.returned (.int .i64 r)) HR0.out).symm, Below.refl _ _⟩
  · have hn0 := HZ.out h0
    subst hn0
    have hXT := HS0.out rfl
    have hT0 : T.size = 0 := by rw [← hXT]; omega
    have hy0 : y = [] := by
      have := txt_size y
      rw [HT.out, hT0] at this
      exact List.length_eq_zero_iff.1 this.symm
    have hR0 : R = 0 := by rw [← HRR.out, hy0]; exact litY_nil
    rw [hR0]
    have h0' : ¬ (0 : Int) < (X.size : Int) := by omega
    have h2' : (X.size : Int) < 2 := by omega
    clear hXT hT0 hy0 hR0
    go_enter Tryz.func44, Tryz.ntmps44
    go_wp2_with fail
    go_ret
    exact ⟨rfl, Below.refl _ _⟩
end Go.Proofs.YtgckmkdmlaocmaaGreatDoor

namespace Go.Proofs.YtgckmkdmlaocmaaGreatDoor
open Go.RowKit

def numR (g : Int) (s : RS) : List UInt8 × RS := if (takeR s).1.2 = true then (if badN (takeR s).1.1 g = true then ([], failR 81 (takeR s).2) else ((takeR s).1.1, (takeR s).2)) else ([], (takeR s).2)
def lirR (s : RS) : Int × RS := if (takeR s).1.2 = true then (litR (takeR s).1.1, if litR (takeR s).1.1 = 0 then failR 81 (takeR s).2 else (takeR s).2) else (0, (takeR s).2)
def wdsR (L : List (List UInt8)) (s : RS) : RS := L.foldl (fun s x => oneR x s) s
theorem takeR_len {w : World} {G b : Nat} {s : RS} (h : RrAt G w b s) : (takeR s).1.1.length ≤ 9000000 := by
  unfold takeR
  split
  · split
    · simp
    · rename_i x L hL
      exact h.n x (by rw [hL]; simp)
  · simp

set_option maxRecDepth 10000 in
set_option maxHeartbeats 1000000 in
theorem rnum_any {G B b : Nat} {s : RS} (g : Int) (w : World) (h : RrAt G w b s) (hB : B ≤ b) (hg : g = -1 ∨ g = 0 ∨ g = 1) : Calls Tryz.prog 24 #[.pointer (some ⟨b, 0, none⟩), .int .i64 g] w (LR G B b (.string (txtOf (numR g s).1)) (numR g s).2 w) := by
  have HT : Hid (Calls Tryz.prog 13 #[.pointer (some ⟨b, 0, none⟩)] w (LR G B b (.tuple #[.string (txtOf (takeR s).1.1), .bool (takeR s).1.2]) (takeR s).2 w)) := rtake_any w h hB
  have hlen := takeR_len h
  have hBw : B ≤ b := hB
  unfold numR
  obtain ⟨r, hr⟩ : ∃ r, takeR s = r := ⟨_, rfl⟩
  rw [hr] at HT hlen ⊢
  obtain ⟨⟨x, t⟩, s'⟩ := r
  simp only at HT hlen ⊢
  have HF : Hid (∀ w1, RrAt G w1 b s' → Calls Tryz.prog 22 #[.pointer (some ⟨b, 0, none⟩), .int .i64 81] w1 (LR G B b (.tuple #[]) (failR 81 s') w1)) := fun w1 h1 => rfail_any 81 w1 h1 hB
  have HN : Hid (∀ w1, Calls Tryz.prog 43 #[.string (txtOf x), .int .i64 g] w1 fun e w' => e = .returned (.bool (!badN x g)) ∧ Below w1.heap.size w1 w') := fun w1 => risnum_any x g w1 hlen hg
  clear h hr hlen hg
  cases t with
  | false =>
    rw [if_neg (by simp)]
    go_enter Tryz.func24, Tryz.ntmps24
    go_wp2_with fail
    refine calls_at HT.out (by with_reducible rfl) (by with_reducible rfl) ?_
    rintro e w1 ⟨rfl, q1, q2⟩
    have Q1 : Hid (RrAt G w1 b s') := q1
    have Q2 : Hid (SStp B (fun k => k = b) w w1) := q2
    clear q1 q2
    go_wp2_with fail
    go_ret
    exact ⟨rfl, Q1.out, Q2.out⟩
  | true =>
    rw [if_pos rfl]
    cases hbad : badN x g with
    | true =>
      rw [if_pos rfl]
      rw [hbad] at HN
      clear hbad
      go_enter Tryz.func24, Tryz.ntmps24
      go_wp2_with fail
      refine calls_at HT.out (by with_reducible rfl) (by with_reducible rfl) ?_
      rintro e w1 ⟨rfl, q1, q2⟩
      have Q1 : Hid (RrAt G w1 b s') := q1
      have Q2 : Hid (SStp B (fun k => k = b) w w1) := q2
      clear q1 q2
      go_wp2_with fail
      refine calls_at (HN.out w1) (by with_reducible rfl) (by with_reducible rfl) ?_
      rintro e w2 ⟨rfl, hb2⟩
      have Q3 : Hid (RrAt G w2 b s') := Q1.out.below hb2
      have Q4 : Hid (SStp B (fun k => k = b) w w2) := Q2.out.next hb2 (Nat.le_trans hBw (Nat.le_of_lt Q1.out.lt))
      clear hb2
      go_wp2_with fail
      refine calls_at (HF.out w2 Q3.out) (by with_reducible rfl) (by with_reducible rfl) ?_
      rintro e w3 ⟨rfl, q1, q2⟩
      have Q5 : Hid (RrAt G w3 b (failR 81 s')) := q1
      have Q6 : Hid (SStp B (fun k => k = b) w w3) := Q4.out.trans q2
      clear q1 q2
      go_wp2_with fail
      go_ret
      exact ⟨rfl, Q5.out, Q6.out⟩
    | false =>
      rw [if_neg (by simp)]
      rw [hbad] at HN
      clear hbad
      go_enter Tryz.func24, Tryz.ntmps24
      go_wp2_with fail
      refine calls_at HT.out (by with_reducible rfl) (by with_reducible rfl) ?_
      rintro e w1 ⟨rfl, q1, q2⟩
      have Q1 : Hid (RrAt G w1 b s') := q1
      have Q2 : Hid (SStp B (fun k => k = b) w w1) := q2
      clear q1 q2
      go_wp2_with fail
      refine calls_at (HN.out w1) (by with_reducible rfl) (by with_reducible rfl) ?_
      rintro e w2 ⟨rfl, hb2⟩
      have Q3 : Hid (RrAt G w2 b s') := Q1.out.below hb2
      have Q4 : Hid (SStp B (fun k => k = b) w w2) := Q2.out.next hb2 (Nat.le_trans hBw (Nat.le_of_lt Q1.out.lt))
      clear hb2
      go_wp2_with fail
      go_ret
      exact ⟨rfl, Q3.out, Q4.out⟩

set_option maxRecDepth 10000 in
set_option maxHeartbeats 1000000 in
theorem rlir_any {G B b : Nat} {s : RS} (w : World) (h : RrAt G w b s) (hB : B ≤ b) : Calls Tryz.prog 28 #[.pointer (some ⟨b, 0, none⟩)] w (LR G B b (.int .i64 (lirR s).1) (lirR s).2 w) := by
  have HT : Hid (Calls Tryz.prog 13 #[.pointer (some ⟨b, 0, none⟩)] w (LR G B b (.tuple #[.string (txtOf (takeR s).1.1), .bool (takeR s).1.2]) (takeR s).2 w)) := rtake_any w h hB
  have hlen := takeR_len h
  have hBw : B ≤ b := hB
  unfold lirR
  obtain ⟨r, hr⟩ : ∃ r, takeR s = r := ⟨_, rfl⟩
  rw [hr] at HT hlen ⊢
  obtain ⟨⟨x, t⟩, s'⟩ := r
  simp only at HT hlen ⊢
  have HF : Hid (∀ w1, RrAt G w1 b s' → Calls Tryz.prog 22 #[.pointer (some ⟨b, 0, none⟩), .int .i64 81] w1 (LR G B b (.tuple #[]) (failR 81 s') w1)) := fun w1 h1 => rfail_any 81 w1 h1 hB
  obtain ⟨l, hl⟩ : ∃ l, litR x = l := ⟨_, rfl⟩
  have HN : Hid (∀ w1, Calls Tryz.prog 44 #[.string (txtOf x)] w1 fun e w' => e = .returned (.int .i64 l) ∧ Below w1.heap.size w1 w') := fun w1 => by rw [← hl]; exact rlit_any x w1 hlen
  rw [hl]
  clear h hr hlen hl
  cases t with
  | false =>
    rw [if_neg (by simp)]
    go_enter Tryz.func28, Tryz.ntmps28
    go_wp2_with fail
    refine calls_at HT.out (by with_reducible rfl) (by with_reducible rfl) ?_
    rintro e w1 ⟨rfl, q1, q2⟩
    have Q1 : Hid (RrAt G w1 b s') := q1
    have Q2 : Hid (SStp B (fun k => k = b) w w1) := q2
    clear q1 q2
    go_wp2_with fail
    go_ret
    exact ⟨rfl, Q1.out, Q2.out⟩
  | true =>
    rw [if_pos rfl]
    by_cases hl0 : l = 0
    · subst hl0
      rw [if_pos rfl]
      go_enter Tryz.func28, Tryz.ntmps28
      go_wp2_with fail
      refine calls_at HT.out (by with_reducible rfl) (by with_reducible rfl) ?_
      rintro e w1 ⟨rfl, q1, q2⟩
      have Q1 : Hid (RrAt G w1 b s') := q1
      have Q2 : Hid (SStp B (fun k => k = b) w w1) := q2
      clear q1 q2
      go_wp2_with fail
      refine calls_at (HN.out w1) (by with_reducible rfl) (by with_reducible rfl) ?_
      rintro e w2 ⟨rfl, hb2⟩
      have Q3 : Hid (RrAt G w2 b s') := Q1.out.below hb2
      have Q4 : Hid (SStp B (fun k => k = b) w w2) := Q2.out.next hb2 (Nat.le_trans hBw (Nat.le_of_lt Q1.out.lt))
      clear hb2
      go_wp2_with fail
      refine calls_at (HF.out w2 Q3.out) (by with_reducible rfl) (by with_reducible rfl) ?_
      rintro e w3 ⟨rfl, q1, q2⟩
      have Q5 : Hid (RrAt G w3 b (failR 81 s')) := q1
      have Q6 : Hid (SStp B (fun k => k = b) w w3) := Q4.out.trans q2
      clear q1 q2
      go_wp2_with fail
      go_ret
      exact ⟨rfl, Q5.out, Q6.out⟩
    · rw [if_neg hl0]
      have hl1 : (l == 0) = false := by simpa using hl0
      clear hl0
      go_enter Tryz.func28, Tryz.ntmps28
      go_wp2_with fail
      refine calls_at HT.out (by with_reducible rfl) (by with_reducible rfl) ?_
      rintro e w1 ⟨rfl, q1, q2⟩
      have Q1 : Hid (RrAt G w1 b s') := q1
      have Q2 : Hid (SStp B (fun k => k = b) w w1) := q2
      clear q1 q2
      go_wp2_with fail
      refine calls_at (HN.out w1) (by with_reducible rfl) (by with_reducible rfl) ?_
      rintro e w2 ⟨rfl, hb2⟩
      have Q3 : Hid (RrAt G w2 b s') := Q1.out.below hb2
      have Q4 : Hid (SStp B (fun k => k = b) w w2) := Q2.out.next hb2 (Nat.le_trans hBw (Nat.le_of_lt Q1.out.lt))
      clear hb2
      go_wp2_with fail
      go_ret
      exact ⟨rfl, Q3.out, Q4.out⟩
end Go.Proofs.YtgckmkdmlaocmaaGreatDoor

namespace Go.Proofs.YtgckmkdmlaocmaaGreatDoor
open Go.RowKit

theorem wds_step (L : List (List UInt8)) (s : RS) (i : Nat) (hi : i < L.length) : wdsR (L.take (i + 1)) s = oneR L[i] (wdsR (L.take i) s) := by
  unfold wdsR
  rw [List.take_succ_eq_append_getElem hi, List.foldl_append]
  rfl
set_option maxRecDepth 10000 in
set_option maxHeartbeats 1000000 in
theorem rwds_any {G B b g : Nat} {s : RS} (L : List (List UInt8)) (w : World) (h : RrAt G w b s) (hB : B ≤ b) (hg : w.heap[g]? = some (.cells (L.map fun x => Value.string (txtOf x)).toArray 9 (0, 0))) (hgb : g ≠ b) (hL : L.length ≤ 1000) : Calls Tryz.prog 23 #[.pointer (some ⟨b, 0, none⟩), .slice (some ⟨g, 0, none⟩) L.length L.length] w (LR G B b (.tuple #[]) (wdsR L s) w) := by
  obtain ⟨n, hn⟩ : ∃ n, L.length = n := ⟨_, rfl⟩
  have HG : Hid (∀ w', SStp B (fun k => k = b) w w' → ∀ i (hi : i < L.length), w'.cell? ⟨g, i, none⟩ = some (.string (txtOf L[i]))) := fun w' hs i hi => by
    have h1 := (hs.off.block g (Array.getElem?_eq_some_iff.1 hg).1 hgb).trans hg
    rw [cell_of h1 i]
    simp [hi]
  have H0 : Hid (RrAt G w b s) := h
  have HN : Hid (L.length = n) := hn
  rw [hn] at hL ⊢
  clear h hg hgb hn
  go_enter Tryz.func23, Tryz.ntmps23
  go_wp2_with fail
  go_loopw [4] (fun iv wr => ∃ i : Nat, iv = .int .i64 (i : Int) ∧ i ≤ n ∧ Hid (RrAt G wr b (wdsR (L.take i) s) ∧ SStp B (fun k => k = b) w wr)) (fun iv _ => n - (intOf iv).toNat)
  case atStart => exact ⟨0, rfl, Nat.zero_le _, H0.out, SStp.refl _ _ _⟩
  case round =>
    obtain ⟨i, rfl, hin, hF⟩ := hrel
    have hw1 : wrap64 ((i : Int) + 1) = ((i + 1 : Nat) : Int) := by unfold wrap64; omega
    by_cases hi : i < n
    · have hiI : (i : Int) < (n : Int) := by omega
      have hiL : i < L.length := by have := HN.out; omega
      have c0 := HG.out wr hF.out.2 i hiL
      have HO : Hid (Calls Tryz.prog 29 #[.pointer (some ⟨b, 0, none⟩), .string (txtOf L[i])] wr (LR G B b (.tuple #[]) (wdsR (L.take (i + 1)) s) wr)) := by rw [wds_step L s i hiL]; exact rone_any _ wr hF.out.1 hB
      go_wp2_with fail
      refine calls_at HO.out (by with_reducible rfl) (by with_reducible rfl) ?_
      rintro e w2 ⟨rfl, q1, q2⟩
      have HQ : Hid (RrAt G w2 b (wdsR (L.take (i + 1)) s) ∧ SStp B (fun k => k = b) w w2) := ⟨q1, hF.out.2.trans q2⟩
      clear q1 q2 c0 HO hF
      go_wp2_with fail
      go_roundw
      case rel => exact ⟨i + 1, by go_num, by omega, HQ⟩
      case measure => simp [intOf]; omega
    · obtain rfl : i = n := by omega
      have hiI : ¬ (i : Int) < (i : Int) := by omega
      go_wp2_with fail
      go_end0
      have := hF.out.1
      rw [← HN.out, List.take_length] at this
      exact ⟨rfl, this, hF.out.2⟩
end Go.Proofs.YtgckmkdmlaocmaaGreatDoor
