/-
  AuditLines: what the row asks.
-/
import Derived.Test.YtjgghimjnbjlbaaGreatDoorJ46
import Derived.Test.YtjgghimjnbjlbaaGreatDoorJ49
import Derived.SizedLaws
namespace Go.Proofs.YtjgghimjnbjlbaaGreatDoor
open Go.ChangeShapes Go.WideShapes Go.ChangeAt Go.RowKit
open Go.ChangeMaps (open_string shut_string)

set_option maxRecDepth 100000 in
theorem auditLines_lifted (os : Os) (started : os.Started) (H : Type) (enc : TypeId × Value → H) :
    ReturnsInHanded {} Tryz.checked os 6 .any (fun w args => (Rows.auditLinesSpec.pre enc Tryz.prog Tryz.f6 [] false w args ∧ laidMetH Tryz.prog laid8 w) ∧ sizedMet enc Tryz.prog Tryz.f6 (OpenSpec.ofChange Rows.auditLinesSpec) false w args)
      (Rows.auditLinesSpec.post enc Tryz.prog Tryz.f6 false true false false) := by
  refine handed_shaped (C := Tryz.checked) (X := fun w _ => laidMetH Tryz.prog laid8 w) (fun _ _ _ hh h => h.of_heap hh) own started (by kernel_rfl) Tryz.func6
    (ChangeSpec.witness_shaped (enc := enc) (C := Tryz.checked) (os := os) (X := fun w _ => laidMetH Tryz.prog laid8 w) false ((World.doorLaid Tryz.prog 400 os).layVars Tryz.prog laid7) #[.string ⟨#[]⟩, .string ⟨#[]⟩] 8 (World.layVars_os _ _ _) (shape7 os _) (by kernel_rfl) (by kernel_rfl) (by kernel_rfl) (met7 os _)) ?_
  intro W base args ds gs before hval0 hW hSz hL hsh
  have hval : ∀ (j : Nat) t v, Tryz.f6.params[j]? = some t → args[j]? = some v → Value.okWide Tryz.prog W .any base t v := hval0
  have hW' := hW
  obtain ⟨p, q, hA0, hV, rfl, hfz, hnd⟩ := hW
  have hA : DataW.TrodAll enc Tryz.prog W 0 (fun _ => true) true Tryz.f6.params.toList args.toList ds p := hA0
  have hSz' : (DataW.weightsEach Tryz.prog (Tryz.f6.params.toList ++ Rows.auditLinesSpec.plain.varTypes Tryz.prog) (ds ++ gs)).all (· ≤ reachBytes) = true := hSz
  rw [Tryz.params6] at hA hval hSz'
  obtain ⟨v0, v1, d0, d1, p0, p1, rfl, rfl, rfl, h0, h1⟩ := trodAll_two hA
  obtain ⟨rfl, rfl⟩ := trodVars_none hV
  obtain ⟨a0, rfl, rfl, rfl, w0⟩ := open_string Tryz.underlying9 (hval 0 9 v0 rfl rfl) h0
  obtain ⟨a1, rfl, rfl, rfl, w1⟩ := open_string Tryz.underlying9 (hval 1 9 v1 rfl rfl) h1
  clear hA0 hval0
  simp only [List.append_nil] at hW'
  have z0 : a0.size ≤ 140737488355328 := by
    have := List.all_eq_true.1 hSz' a0.data.toList.length (DataW.weights_mem_each (j := 0) rfl rfl _ (List.mem_singleton.2 rfl))
    have h : a0.data.toList.length ≤ reachBytes := by simpa using this
    rw [Array.length_toList] at h
    exact Nat.le_trans h (by decide)
  have z1 : a1.size ≤ 140737488355328 := by
    have := List.all_eq_true.1 hSz' a1.data.toList.length (DataW.weights_mem_each (j := 1) rfl rfl _ (List.mem_singleton.2 rfl))
    have h : a1.data.toList.length ≤ reachBytes := by simpa using this
    rw [Array.length_toList] at h
    exact Nat.le_trans h (by decide)
  have hGl := gl_of_laid hL hsh
  refine (lines_any a0 a1 W hGl z0 z1).mono fun e W' ⟨he, hb⟩ => ?_
  subst he
  refine ⟨_, rfl, _, _, _, [], [], [], hW', ?_, ?_, rfl, hb.frame _, fun h => by cases h⟩
  · exact trodAll_mk1 (shut_bool Tryz.underlying4 _)
  · exact trodAll_mk2 (shut_string Tryz.underlying9 w0) (shut_string Tryz.underlying9 w1)

end Go.Proofs.YtjgghimjnbjlbaaGreatDoor
