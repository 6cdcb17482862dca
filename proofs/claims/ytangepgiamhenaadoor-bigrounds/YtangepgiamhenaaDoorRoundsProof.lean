/-
  BigRounds: the row, and its card.
-/
import Derived.Test.YtangepgiamhenaaDoorLaid
import Derived.Test.YtangepgiamhenaaDoorRoundsWalk
import Derived.ChangeMaps
namespace Go.Proofs.YtangepgiamhenaaDoor
open Go.ChangeShapes Go.WideShapes Go.ChangeAt Go.RowKit
open Go.ChangeMaps (open_string shut_string)
open Bn (limbs)

set_option maxRecDepth 100000 in
set_option maxHeartbeats 1000000 in
/-- BigRounds, where a text is too long. -/
theorem bigRounds_long (s t : ByteArray) (w : World) (ht : Tab w) (h : 3000 < s.size ∨ 3000 < t.size) :
    Calls Tryd.prog 8 #[.string s, .string t] w fun e w' => e = .returned (.bool true) ∧ Below w.heap.size w w' := by
  by_cases h1 : 3000 < s.size
  · have hsI : (3000 : Int) < (s.size : Int) := by omega
    go_enter Tryd.func8, Tryd.ntmps8
    go_wp2_with fail
    refine (known_any _ ht).mono ?_
    rintro e w0 ⟨rfl, hb0⟩
    go_wp2
    go_ret
    exact ⟨rfl, hb0⟩
  · have hsI : ¬ (3000 : Int) < (s.size : Int) := by omega
    have htI : (3000 : Int) < (t.size : Int) := by omega
    go_enter Tryd.func8, Tryd.ntmps8
    go_wp2_with fail
    refine (known_any _ ht).mono ?_
    rintro e w0 ⟨rfl, hb0⟩
    go_wp2
    go_ret
    exact ⟨rfl, hb0⟩

theorem bigRounds_any (s t : ByteArray) (w : World) (ht : Tab w) :
    Calls Tryd.prog 8 #[.string s, .string t] w fun e w' => e = .returned (.bool true) ∧ Below w.heap.size w w' := by
  by_cases h : 3000 < s.size ∨ 3000 < t.size
  · exact bigRounds_long s t w ht h
  · have hs : s.size ≤ 3000 := by omega
    have htt : t.size ≤ 3000 := by omega
    have lx : (limbs ((parseZ s.data.toList).getD 0).natAbs).length ≤ 3000 := by
      have h1 := parse_len s.data.toList
      have h2 : s.data.toList.length = s.size := by simp
      omega
    have ly : (limbs ((parseZ t.data.toList).getD 0).natAbs).length ≤ 3000 := by
      have h1 := parse_len t.data.toList
      have h2 : t.data.toList.length = t.size := by simp
      omega
    have hp1 := fun w => parse_any s w (by omega)
    have hp2 := fun w => parse_any t w (by omega)
    cases hp : parseZ s.data.toList with
    | some x =>
      rw [hp] at hp1 lx
      refine bigRounds_walk s t s x _ 0 _ w ht hs htt hp1 hp2 hp1 (fun w v hv hT => ?_) lx ly (.inl ⟨rfl, rfl⟩)
      have := text_big x v w hv (by simp only [Option.getD_some] at lx; omega) hT
      rw [text_of_parse hp] at this
      exact this
    | none =>
      rw [hp] at hp1 lx
      refine bigRounds_walk s t ⟨#[48]⟩ 0 _ 10 _ w ht hs htt hp1 hp2 (fun w => parse_any ⟨#[48]⟩ w (by decide)) (fun w v hv hT => ?_) lx ly (.inr ⟨rfl, rfl⟩)
      have := text_big 0 v w hv (by decide) hT
      rw [Bn.itoa_zero] at this
      exact this

set_option maxRecDepth 100000 in
theorem bigRounds_lifted (os : Os) (started : os.Started) (H : Type) (enc : TypeId × Value → H) :
    ReturnsInHanded {} Tryd.checked os 8 .any (fun w args => (Rows.bigRoundsSpec.pre enc Tryd.prog Tryd.f8 [] false w args ∧ laidMetH Tryd.prog laid3 w) ∧ sizedMet enc Tryd.prog Tryd.f8 (OpenSpec.ofChange Rows.bigRoundsSpec) false w args)
      (Rows.bigRoundsSpec.post enc Tryd.prog Tryd.f8 false true false false) := by
  refine returnsInHanded_of_change_and (C := Tryd.checked) (X := fun w _ => laidMetH Tryd.prog laid3 w) (fun _ _ _ hh h => h.of_heap hh) own started (by kernel_rfl) Tryd.func8
    (ChangeSpec.witness_shaped (enc := enc) (C := Tryd.checked) (os := os) (X := fun w _ => laidMetH Tryd.prog laid3 w) false (World.doorLaid Tryd.prog 400 os) #[.string ⟨#[]⟩, .string ⟨#[]⟩] 8 rfl (World.shaped_of_RefB (by kernel_rfl) (by kernel_rfl)) (by kernel_rfl) (by kernel_rfl) (by kernel_rfl) (door_met os _)) ?_
  intro W base args ds gs before hval0 hW _ _ hL _
  have hval : ∀ (j : Nat) t v, Tryd.f8.params[j]? = some t → args[j]? = some v → Value.okWide Tryd.prog W .any base t v := hval0
  have hW' := hW
  obtain ⟨p, q, hA0, hV, rfl, hfz, hnd⟩ := hW
  have hA : DataW.TrodAll enc Tryd.prog W 0 (fun _ => true) true Tryd.f8.params.toList args.toList ds p := hA0
  rw [Tryd.params8] at hA hval
  obtain ⟨v0, v1, d0, d1, p0, p1, rfl, rfl, rfl, h0, h1⟩ := trodAll_two hA
  obtain ⟨rfl, rfl⟩ := trodVars_none hV
  obtain ⟨a0, rfl, rfl, rfl, w0⟩ := open_string Tryd.underlying9 (hval 0 9 v0 rfl rfl) h0
  obtain ⟨a1, rfl, rfl, rfl, w1⟩ := open_string Tryd.underlying9 (hval 1 9 v1 rfl rfl) h1
  clear hA0 hval0
  simp only [List.append_nil] at hW'
  refine (bigRounds_any a0 a1 W (tab_of_laid hL)).mono fun e W' ⟨he, hb⟩ => ?_
  subst he
  refine ⟨_, rfl, _, _, _, [], [], [], hW', ?_, ?_, rfl, hb.frame _, fun h => by cases h⟩
  · exact trodAll_mk1 (shut_bool Tryd.underlying4 _)
  · exact trodAll_mk2 (shut_string Tryd.underlying9 w0) (shut_string Tryd.underlying9 w1)

theorem bigRounds_row : Rows.BigRoundsSaid :=
  OpenClaim.holds_of_wide 8 Tryd.f8 rfl rfl rfl rfl rfl rfl rfl ⟨rfl, rfl, rfl, rfl, rfl⟩ rfl rfl rfl rfl rfl (by kernel_rfl) Tryd.func8 (by kernel_rfl)
    (of_decide_eq_true (by kernel_rfl)) (by unfold Func.isWrapper; first | (rw [if_pos (by decide +kernel)]; kernel_rfl) | (rw [if_neg (by decide +kernel)]; exact ⟨rfl, rfl⟩))
    (fun os started H enc _ => bigRounds_lifted os started H enc)

/-- The statement. -/
theorem bigRounds_holds : Rows.BigRoundsCardSaid :=
  Claim7.holds_tied_plain_at .later [] [.data, .data, .data] true (true, "5a5df85e1cf99a72e39d10f06d12b3f48c6686ba944ce6c46bfa08f2b9904a62") false
    bigRounds_row (fun _ h => by cases h) (by kernel_rfl) (fun _ h => by cases h) bigRounds_row_tie rfl ⟨rfl, rfl⟩ (by kernel_rfl) rfl
    (fun f fn hf hfn => by
      obtain rfl : f = 8 := Option.some.inj ((show Tryd.prog.funcNamed "hallmark/hallmarklaw1.BigRounds" = some 8 by kernel_rfl).symm.trans hf) |>.symm
      obtain rfl : fn = Tryd.f8 := (Option.some.inj (Tryd.func8.symm.trans hfn)).symm
      exact ⟨by kernel_rfl, fun j t ht => by
        rw [Tryd.params8] at ht
        have hm : t ∈ [9, 9] := by simpa using Array.mem_of_getElem? ht
        have hall : ([9, 9].all fun u => !Tryd.prog.wantsStandIn u) = true := by kernel_rfl
        exact (show Tryd.prog.wantsStandIn t = false by simpa using List.all_eq_true.1 hall t hm)⟩)
    (by kernel_rfl)

end Go.Proofs.YtangepgiamhenaaDoor
