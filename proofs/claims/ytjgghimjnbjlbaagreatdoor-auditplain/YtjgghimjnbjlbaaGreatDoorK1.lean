/-
  Put together: ApLift, ApRow.
-/
import Derived.Test.YtjgghimjnbjlbaaGreatDoorJ49
import Derived.Test.YtjgghimjnbjlbaaGreatDoorJ52
import Derived.Test.YtjgghimjnbjlbaaGreatDoorK2
import Derived.Carry
import Derived.Test.YtjgghimjnbjlbaaGreatDoorApFact
namespace Go.Proofs.YtjgghimjnbjlbaaGreatDoor
open Go.ChangeShapes Go.WideShapes Go.ChangeAt Go.RowKit Go.Deep

theorem laidOutAp : laidOutB Tryz.prog = true := by kernel_rfl
set_option maxRecDepth 100000 in
theorem auditPlain_lifted (os : Os) (started : os.Started) (H : Type) (enc : TypeId × Value → H) :
    ReturnsInHanded {} Tryz.checked os 4 .any (fun w args => (Rows.auditPlainSpec.pre enc Tryz.prog Tryz.f4 [] false w args ∧ laidMetH Tryz.prog laid8 w) ∧ sizedMet enc Tryz.prog Tryz.f4 (OpenSpec.ofChange Rows.auditPlainSpec) false w args)
      (Rows.auditPlainSpec.post enc Tryz.prog Tryz.f4 false true false false) := by
  refine handed_shaped (C := Tryz.checked) (X := fun w _ => laidMetH Tryz.prog laid8 w) (fun _ _ _ hh h => h.of_heap hh) own started (by kernel_rfl) Tryz.func4
    (ChangeSpec.witness_shaped (enc := enc) (C := Tryz.checked) (os := os) (X := fun w _ => laidMetH Tryz.prog laid8 w) false ((World.doorLaid Tryz.prog 400 os).layVars Tryz.prog laid7) #[.agg #[.slice none 0 0, .slice none 0 0, .bool false, .slice none 0 0]] 8 (World.layVars_os _ _ _) (shape7 os _) (by kernel_rfl) (by kernel_rfl) (by kernel_rfl) (met7 os _)) ?_
  intro W base args ds gs before hval0 hW hSz hL hsh
  have hval : ∀ (j : Nat) t v, Tryz.f4.params[j]? = some t → args[j]? = some v → Value.okWide Tryz.prog W .any base t v := hval0
  have hW' := hW
  obtain ⟨p, q, hA0, hV, rfl, hfz, hnd⟩ := hW
  have hA : DataW.TrodAll enc Tryz.prog W 0 (fun _ => true) true Tryz.f4.params.toList args.toList ds p := hA0
  have hSz' : (DataW.weightsEach Tryz.prog (Tryz.f4.params.toList ++ Rows.auditPlainSpec.plain.varTypes Tryz.prog) (ds ++ gs)).all (· ≤ reachBytes) = true := hSz
  rw [Tryz.params4] at hA hval hSz'
  obtain ⟨v0, d0, rfl, rfl, h0⟩ := trodAll_one hA
  obtain ⟨rfl, rfl⟩ := trodVars_none hV
  have h0k := h0
  obtain ⟨fuel0, hf0⟩ := h0
  clear hA0 hval0
  simp only [List.append_nil] at hW'
  have hlt : ∀ x ∈ p, x.block < W.heap.size := fun x hx => by simpa using hW'.lt x hx
  have hGl := gl_of_laid hL hsh
  have hF0 : FitsD 26 d0 := fun x hx => by
    have := List.all_eq_true.1 hSz' x (DataW.weights_mem_each (j := 0) rfl rfl x hx)
    simpa using this
  obtain ⟨cs0, rfl, _⟩ := okWide_struct und26 (hval 0 26 v0 rfl rfl)
  obtain ⟨m0, vv0, vc0, vg0, hc0, hM0, hR0⟩ := mo_open4 hf0 hF0
  have hcell0 : cs0 = #[vv0, vc0, .bool m0.has, vg0] := by
    have := congrArg List.toArray hc0
    simpa [Value.cells] using this
  subst hcell0
  refine (plain_any m0 vv0 vc0 vg0 W hM0 hGl hR0.1 hR0.2).mono fun e W' ⟨he, hb⟩ => ?_
  subst he
  exact ⟨_, rfl, _, _, _, [], _, [], hW', trodAll_mk1 (shut_bool Tryz.underlying4 true), trodAll_mk1 (Below.trod laidOutAp (by kernel_rfl) (of_decide_eq_true (by kernel_rfl)) h0k hb (fun x hx => hlt x (hx))), rfl, hb.frame _, fun h => by cases h⟩

end Go.Proofs.YtjgghimjnbjlbaaGreatDoor

namespace Go.Proofs.YtjgghimjnbjlbaaGreatDoor
open Go.ChangeShapes Go.WideShapes Go.ChangeAt Go.RowKit

theorem auditPlain_row : Rows.AuditPlainSaid :=
  OpenClaim.holds_of_wide 4 Tryz.f4 rfl rfl rfl rfl rfl rfl rfl ⟨rfl, rfl, rfl, rfl, rfl⟩ rfl rfl rfl rfl rfl (by kernel_rfl) Tryz.func4 closedAp
    (of_decide_eq_true (by kernel_rfl)) (by unfold Func.isWrapper; first | (rw [if_pos (by decide +kernel)]; kernel_rfl) | (rw [if_neg (by decide +kernel)]; exact ⟨rfl, rfl⟩))
    (fun os started H enc _ => auditPlain_lifted os started H enc)

end Go.Proofs.YtjgghimjnbjlbaaGreatDoor
