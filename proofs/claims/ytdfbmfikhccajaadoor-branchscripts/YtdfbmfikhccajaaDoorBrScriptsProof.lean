/-
  BranchScripts: the row, and its card.
-/
import Derived.Test.YtdfbmfikhccajaaDoorBrLaid
import Derived.Test.YtdfbmfikhccajaaDoorBrScriptsW
import Derived.Carry
namespace Go.Proofs.YtdfbmfikhccajaaDoor
open Go.ChangeShapes Go.WideShapes Go.ChangeAt Go.RowKit Go.Deep

set_option maxRecDepth 100000 in
theorem branchScripts_lifted (os : Os) (started : os.Started) (H : Type) (enc : TypeId × Value → H) :
    ReturnsInHanded {} Tryd.checked os 3 .any (fun w args => (Rows.branchScriptsSpec.pre enc Tryd.prog Tryd.f3 [] false w args ∧ laidMetH Tryd.prog laid1 w) ∧ sizedMet enc Tryd.prog Tryd.f3 (OpenSpec.ofChange Rows.branchScriptsSpec) false w args)
      (Rows.branchScriptsSpec.post enc Tryd.prog Tryd.f3 false true false false) := by
  refine returnsInHanded_of_change_and (C := Tryd.checked) (X := fun w _ => laidMetH Tryd.prog laid1 w) (fun _ _ _ hh h => h.of_heap hh) own started (by kernel_rfl) Tryd.func3
    (ChangeSpec.witness_shaped (enc := enc) (C := Tryd.checked) (os := os) (X := fun w _ => laidMetH Tryd.prog laid1 w) false (World.laidAll Tryd.prog os laid1) #[.slice none 0 0, .slice none 0 0, .int .i64 0] 8 (World.laidAll_os _ _ _)
      (World.shaped_of_ZipB (by kernel_rfl) (by kernel_rfl)) (by kernel_rfl) (by kernel_rfl) (by kernel_rfl)
      (by rw [MakeChecks.laidMetH_plain _ _ _ (by kernel_rfl)]; exact laidMet_laidAll _ (by kernel_rfl) (by kernel_rfl))) ?_
  intro W base args ds gs before hval0 hW _ hSz hL _
  have hval : ∀ (j : Nat) t v, Tryd.f3.params[j]? = some t → args[j]? = some v → Value.okWide Tryd.prog W .any base t v := hval0
  have hW' := hW
  obtain ⟨p, q, hA0, hV, rfl, hfz, hnd⟩ := hW
  have hA : DataW.TrodAll enc Tryd.prog W 0 (fun _ => true) true Tryd.f3.params.toList args.toList ds p := hA0
  have hSz' : (DataW.weightsEach Tryd.prog (Tryd.f3.params.toList ++ Rows.branchScriptsSpec.plain.varTypes Tryd.prog) (ds ++ gs)).all (· ≤ reachBytes) = true := hSz
  rw [Tryd.params3] at hA hval hSz'
  obtain ⟨v0, v1, v2, d0, d1, d2, p0, p1, p2, rfl, rfl, rfl, h0, h1, h2⟩ := trodAll_three hA
  obtain ⟨rfl, rfl⟩ := trodVars_none hV
  have h0k := h0
  have h1k := h1
  have h2k := h2
  obtain ⟨fuel0, hf0⟩ := h0
  obtain ⟨fuel1, hf1⟩ := h1
  clear hA0 hval0
  simp only [List.append_nil] at hW'
  have hlt : ∀ x ∈ p0 ++ p1 ++ p2, x.block < W.heap.size := fun x hx => by simpa using hW'.lt x hx
  obtain ⟨hTz, hs⟩ := tz_of_laid hL
  obtain ⟨x0, y0, z0, rfl⟩ := okWide_slice und27 (hval 0 22 v0 rfl rfl)
  obtain ⟨u0, l0, hu0, hM0, _⟩ := ints_open hf0
  have e0 : u0 = .slice x0 y0 z0 := by simpa [Value.cells] using hu0.symm
  subst e0
  obtain ⟨a0, cap0, e0, hw0⟩ := hM0
  injection e0 with q01 q02 q03
  subst q01 q02 q03
  have hM0 : IntsAt W (.slice x0 l0.length z0) l0 := ⟨_, _, rfl, hw0⟩
  obtain ⟨x1, y1, z1, rfl⟩ := okWide_slice und27 (hval 1 22 v1 rfl rfl)
  obtain ⟨u1, l1, hu1, hM1, _⟩ := ints_open hf1
  have e1 : u1 = .slice x1 y1 z1 := by simpa [Value.cells] using hu1.symm
  subst e1
  obtain ⟨a1, cap1, e1, hw1⟩ := hM1
  injection e1 with q11 q12 q13
  subst q11 q12 q13
  have hM1 : IntsAt W (.slice x1 l1.length z1) l1 := ⟨_, _, rfl, hw1⟩
  obtain ⟨z2, rfl⟩ := okWide_int Tryd.underlying3 (hval 2 3 v2 rfl rfl)
  refine (branchScripts_walk x0 x1 z0 z1 l0 l1 z2 W hM0 hM1   hTz hs).mono fun e W' ⟨he, hb⟩ => ?_
  subst he
  exact ⟨_, rfl, _, _, _, [], _, [], hW', trodAll_mk1 (shut_bool Tryd.underlying4 true), trodAll_mk3 (Below.trod laidOut (by kernel_rfl) (of_decide_eq_true (by kernel_rfl)) h0k hb (fun x hx => hlt x (List.mem_append_left _ (List.mem_append_left _ (hx))))) (Below.trod laidOut (by kernel_rfl) (of_decide_eq_true (by kernel_rfl)) h1k hb (fun x hx => hlt x (List.mem_append_left _ (List.mem_append_right _ hx)))) (Below.trod laidOut (by kernel_rfl) (of_decide_eq_true (by kernel_rfl)) h2k hb (fun x hx => hlt x (List.mem_append_right _ hx))), rfl, hb.frame _, fun h => by cases h⟩

theorem branchScripts_row : Rows.BranchScriptsSaid :=
  OpenClaim.holds_of_wide 3 Tryd.f3 rfl rfl rfl rfl rfl rfl rfl ⟨rfl, rfl, rfl, rfl, rfl⟩ rfl rfl rfl rfl rfl (by kernel_rfl) Tryd.func3 (by kernel_rfl)
    (of_decide_eq_true (by kernel_rfl)) (by unfold Func.isWrapper; first | (rw [if_pos (by decide +kernel)]; kernel_rfl) | (rw [if_neg (by decide +kernel)]; exact ⟨rfl, rfl⟩))
    (fun os started H enc _ => branchScripts_lifted os started H enc)

/-- The statement. -/
theorem branchScripts_holds : Rows.BranchScriptsCardSaid :=
  Claim7.holds_tied_plain_at .later [] [.data] true (true, "c1959c27ac24bd5a44aa9991fefbc5332e01720549c3482e00bfa94c0ee878d0") false
    branchScripts_row (fun _ h => by cases h) (by kernel_rfl) (fun _ h => by cases h) branchScripts_row_tie rfl ⟨rfl, rfl⟩ (by kernel_rfl) rfl
    (fun f fn hf hfn => by
      obtain rfl : f = 3 := Option.some.inj ((show Tryd.prog.funcNamed "hallmark/hallmarklaw17.BranchScripts" = some 3 by kernel_rfl).symm.trans hf) |>.symm
      obtain rfl : fn = Tryd.f3 := (Option.some.inj (Tryd.func3.symm.trans hfn)).symm
      exact ⟨by kernel_rfl, fun j t ht => by
        rw [Tryd.params3] at ht
        have hm : t ∈ [22, 22, 3] := by simpa using Array.mem_of_getElem? ht
        have hall : ([22, 22, 3].all fun u => !Tryd.prog.wantsStandIn u) = true := by kernel_rfl
        exact (show Tryd.prog.wantsStandIn t = false by simpa using List.all_eq_true.1 hall t hm)⟩)
    (by kernel_rfl)
end Go.Proofs.YtdfbmfikhccajaaDoor
