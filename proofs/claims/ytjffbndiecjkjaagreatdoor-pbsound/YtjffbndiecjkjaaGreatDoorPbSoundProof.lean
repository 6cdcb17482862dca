/-
  PbSound: the row, and its card.
-/
import Derived.Test.YtjffbndiecjkjaaGreatDoorLaid
import Derived.Test.YtjffbndiecjkjaaGreatDoorPbOpen
import Derived.Test.YtjffbndiecjkjaaGreatDoorPbSounds
import Derived.ChangeMaps
import Derived.Carry
namespace Go.Proofs.YtjffbndiecjkjaaGreatDoor
open Go.ChangeShapes Go.WideShapes Go.ChangeAt Go.RowKit Go.Deep
open Go.ChangeMaps (open_string shut_string)

section
variable {H : Type} {enc : TypeId × Value → H} {w : World} {base : Nat} {spare : Nat → Bool} {held : Bool} {fuel : Nat} {cs : List Value} {x : DataW H × List MemPlace}
set_option maxRecDepth 100000 in
theorem ints_open (h : DataW.trod enc Tryz.prog w base spare held fuel 25 cs = some x) : ∃ v l, cs = [v] ∧ InAt w v l := by
  rcases open_slice Tryz.underlying25 h with ⟨rfl, _⟩ | ⟨a, len, cap, m, n, D, Pl, rfl, _, hl, hm, hmm, _, hx⟩
  · exact ⟨_, [], rfl, none, 0, rfl, Nat.le_refl _, Nat.zero_le _, fun k h => absurd h (by simp)⟩
  · have hlm : len ≤ m := by rw [hmm]; split <;> omega
    have each : ∀ i, i < len → ∃ z : Int, w.cell? (a.add i) = some (.int .i64 z) := fun i hi => by
      obtain ⟨cs', h1, h2⟩ := hx i (by omega)
      rw [cells3p] at h1
      obtain ⟨n1, h1', _, _⟩ := DataW.trod_int Tryz.underlying3 h2
      subst h1'
      obtain ⟨_, _, hcell⟩ := World.cells?_some h1
      have e0 := hcell 0 (by simp)
      rw [add_add] at e0
      exact ⟨n1, by simpa using e0⟩
    haveI : Inhabited Int := ⟨0⟩
    obtain ⟨l, hll, hl2⟩ := list_of each
    refine ⟨_, l, rfl, some a, cap, by rw [hll], by omega, by omega, fun j hj => ?_⟩
    obtain ⟨b, off, spot⟩ := a
    have hspot : spot = none := World.cell?_spot (hl2 0 (by omega))
    subst hspot
    have := hl2 j hj
    rw [addr_none] at this
    exact ⟨b, off, rfl, World.block_lt_of_cell? w _ this, this⟩
end

theorem laidOut : laidOutB Tryz.prog = true := by kernel_rfl

set_option maxRecDepth 100000 in
theorem pbSound_lifted (os : Os) (started : os.Started) (H : Type) (enc : TypeId × Value → H) :
    ReturnsInHanded {} Tryz.checked os 4 .any (fun w args => (Rows.pbSoundSpec.pre enc Tryz.prog Tryz.f4 [] false w args ∧ laidMetH Tryz.prog laid3 w) ∧ sizedMet enc Tryz.prog Tryz.f4 (OpenSpec.ofChange Rows.pbSoundSpec) false w args)
      (Rows.pbSoundSpec.post enc Tryz.prog Tryz.f4 false true false false) := by
  refine returnsInHanded_of_change_and (C := Tryz.checked) (X := fun w _ => laidMetH Tryz.prog laid3 w) (fun _ _ _ hh h => h.of_heap hh) own started (by kernel_rfl) Tryz.func4
    (ChangeSpec.witness_shaped (enc := enc) (C := Tryz.checked) (os := os) (X := fun w _ => laidMetH Tryz.prog laid3 w) false (World.doorLaid Tryz.prog 400 os) #[.agg #[.slice none 0 0, .string ⟨#[]⟩], .agg #[.slice none 0 0, .string ⟨#[]⟩], .string ⟨#[]⟩, .int .i64 0, .slice none 0 0] 8 rfl (World.shaped_of_RefB (by kernel_rfl) (by kernel_rfl)) (by kernel_rfl) (by kernel_rfl) (by kernel_rfl) (door_met os _)) ?_
  intro W base args ds gs before hval0 hW _ _ hL _
  have hval : ∀ (j : Nat) t v, Tryz.f4.params[j]? = some t → args[j]? = some v → Value.okWide Tryz.prog W .any base t v := hval0
  have hW' := hW
  obtain ⟨p, q, hA0, hV, rfl, hfz, hnd⟩ := hW
  have hA : DataW.TrodAll enc Tryz.prog W 0 (fun _ => true) true Tryz.f4.params.toList args.toList ds p := hA0
  rw [Tryz.params4] at hA hval
  obtain ⟨v0, vs, d0, ds0, p0, q0, hargs, rfl, rfl, h0, hr⟩ := trodAll_cons hA
  obtain ⟨v1, vs, d1, ds1, p1, q1, rfl, rfl, rfl, h1, hr⟩ := trodAll_cons hr
  obtain ⟨v2, vs, d2, ds2, p2, q2, rfl, rfl, rfl, h2, hr⟩ := trodAll_cons hr
  obtain ⟨v3, vs, d3, ds3, p3, q3, rfl, rfl, rfl, h3, hr⟩ := trodAll_cons hr
  obtain ⟨v4, vs, d4, ds4, p4, q4, rfl, rfl, rfl, h4, hr⟩ := trodAll_cons hr
  obtain ⟨rfl, rfl, rfl⟩ := trodAll_nil hr
  obtain rfl : args = #[v0, v1, v2, v3, v4] := by cases args; simp_all
  obtain ⟨rfl, rfl⟩ := trodVars_none hV
  obtain ⟨s2, rfl, rfl, rfl, y2⟩ := open_string Tryz.underlying9 (hval 2 9 v2 rfl rfl) h2
  obtain ⟨n3, rfl, rfl, rfl, y3⟩ := open_int Tryz.underlying3 (hval 3 3 v3 rfl rfl) h3
  have h0k := h0
  have h1k := h1
  have h4k := h4
  obtain ⟨fuel0, hf0⟩ := h0
  obtain ⟨fuel1, hf1⟩ := h1
  obtain ⟨fuel4, hf4⟩ := h4
  clear hA0 hval0
  simp only [List.append_nil, List.nil_append] at hW'
  have hT := tab_of_laid hL
  obtain ⟨c0, rfl, _⟩ := okWide_struct und24o (hval 0 24 v0 rfl rfl)
  obtain ⟨c1, rfl, _⟩ := okWide_struct und24o (hval 1 24 v1 rfl rfl)
  obtain ⟨t0, l0, s0, e0, hA0, hz0, hs0⟩ := row_open hf0
  obtain ⟨t1, l1, s1, e1, hA1, hz1, hs1⟩ := row_open hf1
  obtain ⟨ov, of, hov, hIn⟩ := ints_open hf4
  obtain ⟨oa, on, oc, hoo⟩ := okWide_slice Tryz.underlying25 (hval 4 25 v4 rfl rfl)
  have hv4 : v4 = ov := by
    subst hoo
    simpa [Value.cells] using hov
  subst hv4
  have g0 : c0 = #[t0, .string s0] := by simpa [Value.cells] using congrArg List.toArray e0
  have g1 : c1 = #[t1, .string s1] := by simpa [Value.cells] using congrArg List.toArray e1
  subst g0
  subst g1
  refine (pbSound_walk l0 l1 t0 t1 s0 s1 s2 n3 of v4 W hA0 hA1 hIn hz0 hz1 hs0 hs1 hT).mono fun e W' ⟨he, hb⟩ => ?_
  subst he
  exact ⟨_, rfl, _, _, _, [], _, [], hW', trodAll_mk1 (shut_bool Tryz.underlying4 true), ⟨_, _, Below.trod laidOut (by kernel_rfl) (of_decide_eq_true (by kernel_rfl)) h0k hb (fun x hx => hW'.lt x (by simp [hx])), trodAll_mk4 (Below.trod laidOut (by kernel_rfl) (of_decide_eq_true (by kernel_rfl)) h1k hb (fun x hx => hW'.lt x (by simp [hx]))) (shut_string Tryz.underlying9 y2) (shut_int Tryz.underlying3 y3) (Below.trod laidOut (by kernel_rfl) (of_decide_eq_true (by kernel_rfl)) h4k hb (fun x hx => hW'.lt x (by simp [hx]))), rfl⟩, rfl, hb.frame _, fun h => by cases h⟩

theorem pbSound_row : Rows.PbSoundSaid :=
  OpenClaim.holds_of_wide 4 Tryz.f4 rfl rfl rfl rfl rfl rfl rfl ⟨rfl, rfl, rfl, rfl, rfl⟩ rfl rfl rfl rfl rfl (by kernel_rfl) Tryz.func4 (by kernel_rfl)
    (of_decide_eq_true (by kernel_rfl)) (by unfold Func.isWrapper; first | (rw [if_pos (by decide +kernel)]; kernel_rfl) | (rw [if_neg (by decide +kernel)]; exact ⟨rfl, rfl⟩))
    (fun os started H enc _ => pbSound_lifted os started H enc)

/-- The statement. -/
theorem pbSound_holds : Rows.PbSoundCardSaid :=
  Claim7.holds_tied_plain_at .later [] [.data, .data, .data] true (true, "e55a25efc5319257e3685ee3198495664f626ce81524e162c208dc1ba58ca326") false
    pbSound_row (fun _ h => by cases h) (by kernel_rfl) (fun _ h => by cases h) pbSound_row_tie rfl ⟨rfl, rfl⟩ (by kernel_rfl) rfl
    (fun f fn hf hfn => by
      obtain rfl : f = 4 := Option.some.inj ((show Tryz.prog.funcNamed "hallmark/hallmarklaw2.PbSound" = some 4 by kernel_rfl).symm.trans hf) |>.symm
      obtain rfl : fn = Tryz.f4 := (Option.some.inj (Tryz.func4.symm.trans hfn)).symm
      exact ⟨by kernel_rfl, fun j t ht => by
        rw [Tryz.params4] at ht
        have hm : t ∈ [24, 24, 9, 3, 25] := by simpa using Array.mem_of_getElem? ht
        have hall : ([24, 24, 9, 3, 25].all fun u => !Tryz.prog.wantsStandIn u) = true := by kernel_rfl
        exact (show Tryz.prog.wantsStandIn t = false by simpa using List.all_eq_true.1 hall t hm)⟩)
    (by kernel_rfl)

end Go.Proofs.YtjffbndiecjkjaaGreatDoor
