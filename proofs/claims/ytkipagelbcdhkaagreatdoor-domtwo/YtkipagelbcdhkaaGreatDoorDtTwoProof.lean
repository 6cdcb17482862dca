/-
  DomTwo: the row, and its card.
-/
import Derived.Test.YtkipagelbcdhkaaGreatDoorDtLaid
import Derived.Test.YtkipagelbcdhkaaGreatDoorDtTwoW
import Derived.Carry
namespace Go.Proofs.YtkipagelbcdhkaaGreatDoor
open Go.ChangeShapes Go.WideShapes Go.ChangeAt Go.RowKit Go.Deep

set_option maxRecDepth 100000 in
theorem domTwo_lifted (os : Os) (started : os.Started) (H : Type) (enc : TypeId × Value → H) :
    ReturnsInHanded {} Tryz.checked os 4 .any (fun w args => (Rows.domTwoSpec.pre enc Tryz.prog Tryz.f4 [] false w args ∧ laidMetH Tryz.prog laid1 w) ∧ sizedMet enc Tryz.prog Tryz.f4 (OpenSpec.ofChange Rows.domTwoSpec) false w args)
      (Rows.domTwoSpec.post enc Tryz.prog Tryz.f4 false true false false) := by
  refine returnsInHanded_of_change_and (C := Tryz.checked) (X := fun w _ => laidMetH Tryz.prog laid1 w) (fun _ _ _ hh h => h.of_heap hh) own started (by kernel_rfl) Tryz.func4
    (ChangeSpec.witness_shaped (enc := enc) (C := Tryz.checked) (os := os) (X := fun w _ => laidMetH Tryz.prog laid1 w) false (World.laidAll Tryz.prog os laid1) #[.agg #[.slice none 0 0, .slice none 0 0, .bool false, .slice none 0 0], .agg #[.slice none 0 0, .slice none 0 0, .bool false, .slice none 0 0], .slice none 0 0, .slice none 0 0] 8 (World.laidAll_os _ _ _)
      (World.shaped_of_ZipB (by kernel_rfl) (by kernel_rfl)) (by kernel_rfl) (by kernel_rfl) (by kernel_rfl)
      (by rw [MakeChecks.laidMetH_plain _ _ _ (by kernel_rfl)]; exact laidMet_laidAll _ (by kernel_rfl) (by kernel_rfl))) ?_
  intro W base args ds gs before hval0 hW _ hSz hL _
  have hval : ∀ (j : Nat) t v, Tryz.f4.params[j]? = some t → args[j]? = some v → Value.okWide Tryz.prog W .any base t v := hval0
  have hW' := hW
  obtain ⟨p, q, hA0, hV, rfl, hfz, hnd⟩ := hW
  have hA : DataW.TrodAll enc Tryz.prog W 0 (fun _ => true) true Tryz.f4.params.toList args.toList ds p := hA0
  have hSz' : (DataW.weightsEach Tryz.prog (Tryz.f4.params.toList ++ Rows.domTwoSpec.plain.varTypes Tryz.prog) (ds ++ gs)).all (· ≤ reachBytes) = true := hSz
  rw [Tryz.params4] at hA hval hSz'
  obtain ⟨v0, v1, v2, v3, d0, d1, d2, d3, p0, p1, p2, p3, rfl, rfl, rfl, h0, h1, h2, h3⟩ := trodAll_four hA
  obtain ⟨rfl, rfl⟩ := trodVars_none hV
  have h0k := h0
  have h1k := h1
  have h2k := h2
  have h3k := h3
  obtain ⟨fuel0, hf0⟩ := h0
  obtain ⟨fuel1, hf1⟩ := h1
  obtain ⟨fuel2, hf2⟩ := h2
  obtain ⟨fuel3, hf3⟩ := h3
  clear hA0 hval0
  simp only [List.append_nil] at hW'
  have hlt : ∀ x ∈ p0 ++ p1 ++ p2 ++ p3, x.block < W.heap.size := fun x hx => by
    have := hW'.lt x
    simp only [List.mem_append] at this hx
    exact this (by simpa [or_assoc] using hx)
  obtain ⟨hTz, hs⟩ := tz_of_laid hL
  have hF0 : Fits 26 d0 := fun x hx => by
    have := List.all_eq_true.1 hSz' x (DataW.weights_mem_each (j := 0) rfl rfl x hx)
    simpa using this
  have hF1 : Fits 26 d1 := fun x hx => by
    have := List.all_eq_true.1 hSz' x (DataW.weights_mem_each (j := 1) rfl rfl x hx)
    simpa using this
  obtain ⟨cs0, rfl, _⟩ := okWide_struct und26 (hval 0 26 v0 rfl rfl)
  obtain ⟨cs1, rfl, _⟩ := okWide_struct und26 (hval 1 26 v1 rfl rfl)
  obtain ⟨x1, x2, x3, rfl⟩ := okWide_slice und27c (hval 2 37 v2 rfl rfl)
  obtain ⟨y1, y2, y3, rfl⟩ := okWide_slice und27c (hval 3 37 v3 rfl rfl)
  obtain ⟨m, vv, vc, vg, hc, hM, hR⟩ := mo_open3 hf0 hF0
  obtain ⟨n, uv, uc, ug, hc', hM', hR'⟩ := mo_open3 hf1 hF1
  obtain ⟨a1, cap1, l1, hu1, _, hO1⟩ := cts_open hf2
  obtain ⟨a2, cap2, l2, hu2, _, hO2⟩ := cts_open hf3
  have hcell : cs0 = #[vv, vc, .bool m.has, vg] := by
    have := congrArg List.toArray hc
    simpa [Value.cells] using this
  subst hcell
  have hcell' : cs1 = #[uv, uc, .bool n.has, ug] := by
    have := congrArg List.toArray hc'
    simpa [Value.cells] using this
  subst hcell'
  have e1 : (.slice x1 x2 x3 : Value) = .slice a1 l1.length cap1 := by simpa [Value.cells] using hu1
  injection e1 with q1 q2 q3
  subst q1 q2 q3
  have e2 : (.slice y1 y2 y3 : Value) = .slice a2 l2.length cap2 := by simpa [Value.cells] using hu2
  injection e2 with r1 r2 r3
  subst r1 r2 r3
  refine (domTwo_walk m n vv vc vg uv uc ug x1 y1 x3 y3 l1 l2 W hM hM' hO1 hO2 hR hR' hTz hs).mono fun e W' ⟨he, hb⟩ => ?_
  subst he
  exact ⟨_, rfl, _, _, _, [], _, [], hW', trodAll_mk1 (shut_bool Tryz.underlying4 true), trodAll_mk4 (Below.trod laidOut (by kernel_rfl) (of_decide_eq_true (by kernel_rfl)) h0k hb (fun x hx => hlt x (by simp [hx]))) (Below.trod laidOut (by kernel_rfl) (of_decide_eq_true (by kernel_rfl)) h1k hb (fun x hx => hlt x (by simp [hx]))) (Below.trod laidOut (by kernel_rfl) (of_decide_eq_true (by kernel_rfl)) h2k hb (fun x hx => hlt x (by simp [hx]))) (Below.trod laidOut (by kernel_rfl) (of_decide_eq_true (by kernel_rfl)) h3k hb (fun x hx => hlt x (by simp [hx]))), rfl, hb.frame _, fun h => by cases h⟩

theorem domTwo_row : Rows.DomTwoSaid :=
  OpenClaim.holds_of_wide 4 Tryz.f4 rfl rfl rfl rfl rfl rfl rfl ⟨rfl, rfl, rfl, rfl, rfl⟩ rfl rfl rfl rfl rfl (by kernel_rfl) Tryz.func4 (by kernel_rfl)
    (of_decide_eq_true (by kernel_rfl)) (by unfold Func.isWrapper; first | (rw [if_pos (by decide +kernel)]; kernel_rfl) | (rw [if_neg (by decide +kernel)]; exact ⟨rfl, rfl⟩))
    (fun os started H enc _ => domTwo_lifted os started H enc)

/-- The statement. -/
theorem domTwo_holds : Rows.DomTwoCardSaid :=
  Claim7.holds_tied_plain_at .later [] [.data] true (true, "6c078445220d03bfbb651e9ba7aea832dfcc026393b124aa264f05eb6c35d649") false
    domTwo_row (fun _ h => by cases h) (by kernel_rfl) (fun _ h => by cases h) domTwo_row_tie rfl ⟨rfl, rfl⟩ (by kernel_rfl) rfl
    (fun f fn hf hfn => by
      obtain rfl : f = 4 := Option.some.inj ((show Tryz.prog.funcNamed "hallmark/hallmarklaw11.DomTwo" = some 4 by kernel_rfl).symm.trans hf) |>.symm
      obtain rfl : fn = Tryz.f4 := (Option.some.inj (Tryz.func4.symm.trans hfn)).symm
      exact ⟨by kernel_rfl, fun j t ht => by
        rw [Tryz.params4] at ht
        have hm : t ∈ [26, 26, 37, 37] := by simpa using Array.mem_of_getElem? ht
        have hall : ([26, 26, 37, 37].all fun u => !Tryz.prog.wantsStandIn u) = true := by kernel_rfl
        exact (show Tryz.prog.wantsStandIn t = false by simpa using List.all_eq_true.1 hall t hm)⟩)
    (by kernel_rfl)
end Go.Proofs.YtkipagelbcdhkaaGreatDoor
