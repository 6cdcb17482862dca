/-
  DomOrder: the row, and its card.
-/
import Derived.Test.YtakdboddbgihpaaDoorRows
import Derived.Test.YtakdboddbgihpaaDoorCards
import Derived.Test.YtakdboddbgihpaaDoorTie
import Derived.Test.YtakdboddbgihpaaDoorJ49
import Derived.Test.YtakdboddbgihpaaDoorDmOrdW
import Derived.ProofKit
import Derived.OpenShut
import Derived.LaidMore
import Derived.LaidSub
import Derived.Lay
import Derived.Stop.Joined
import Derived.SevenTiedAt
namespace Go.Proofs.YtakdboddbgihpaaDoor
open Go.ChangeShapes Go.WideShapes Go.ChangeAt Go.RowKit Go.Deep

theorem laidOut : laidOutB Tryd.prog = true := by kernel_rfl
theorem own : ownKnob Tryd.prog.godebug = none := by kernel_rfl

/-- The table that the row lists. -/
def laid1 : List (String × DataW Unit) := [("math/bits.deBruijn32tab", Rows.laid_math_bits_deBruijn32tab)]
theorem deB_laid : (Rows.laid_math_bits_deBruijn32tab : DataW Unit) = .agg (deB.map fun z => .lit (.int .u8 z)) := by kernel_rfl
theorem und115 : Tryd.prog.underlying 115 = some (.array 32 5) := by kernel_rfl

theorem tz_of_laid {W : World} (h : laidMetH Tryd.prog laid1 W) : Tz W ∧ 0 < W.heap.size := by
  rw [MakeChecks.laidMetH_plain _ _ _ (by kernel_rfl)] at h
  obtain ⟨ps, ⟨g, t, cs, fuel, p, q, hg, ht, hv, hd, _, _⟩, _, _⟩ := h
  obtain rfl := Option.some.inj ((show Tryd.prog.globalNamed "math/bits.deBruijn32tab" = some 0 by kernel_rfl).symm.trans hg)
  obtain rfl := Option.some.inj ((show (Tryd.prog.globals[0]?).map (·.type) = some 115 by kernel_rfl).symm.trans ht)
  obtain ⟨xs, m, _, ex, _, hl, hel⟩ := DataW.trod_array und115 hd
  have c5 : Tryd.prog.cellsOf 5 = 1 := by kernel_rfl
  have e3 : (xs.map (·.1)) = deB.map (fun z => .lit (.int .u8 z)) := (DataW.agg.inj (deB_laid.symm.trans (Prod.mk.inj ex).1)).symm
  have hT : Tz W := fun r hr => by
    have hE := hel r hr
    rw [c5, Nat.mul_one, List.getElem?_eq_getElem (by omega)] at hE
    obtain ⟨n, e1, e2, _⟩ := DataW.trod_int Tryd.underlying5 hE
    have hq : (deB.map (fun z => (.lit (.int .u8 z) : DataW Unit)))[r]? = some (.lit (.int .u8 (deB.getD r 0))) := by
      have hr2 : r < deB.length := hr
      rw [List.getElem?_map, List.getElem?_eq_getElem hr2, List.getD_eq_getElem?_getD, List.getElem?_eq_getElem hr2]
      rfl
    have e4 : (xs.map (·.1))[r]? = some (.lit (.int .u8 (deB.getD r 0))) := by rw [e3]; exact hq
    rw [List.getElem?_map, List.getElem?_eq_getElem (by omega : r < xs.length), e2] at e4
    have hs : n = deB.getD r 0 := by
      simp only [Option.map_some, Option.some.injEq, DataW.lit.injEq, Lit.int.injEq, true_and] at e4
      exact e4
    rw [World.var?_cell hg hv r, ← hs]
    have : cs.toList[r]? = some (.int .u8 n) := by
      have h0 : ((cs.toList.drop r).take 1)[0]? = some (.int .u8 n) := by rw [e1]; rfl
      simpa using h0
    simpa using this
  refine ⟨hT, ?_⟩
  exact World.block_lt_of_cell? W ⟨0, 0, none⟩ (hT 0 (by decide))

set_option maxRecDepth 100000 in
theorem domOrder_lifted (os : Os) (started : os.Started) (H : Type) (enc : TypeId × Value → H) :
    ReturnsInHanded {} Tryd.checked os 3 .any (fun w args => (Rows.domOrderSpec.pre enc Tryd.prog Tryd.f3 [] false w args ∧ laidMetH Tryd.prog laid1 w) ∧ sizedMet enc Tryd.prog Tryd.f3 (OpenSpec.ofChange Rows.domOrderSpec) false w args)
      (Rows.domOrderSpec.post enc Tryd.prog Tryd.f3 false true false false) := by
  refine returnsInHanded_of_change_and (C := Tryd.checked) (X := fun w _ => laidMetH Tryd.prog laid1 w) (fun _ _ _ hh h => h.of_heap hh) own started (by kernel_rfl) Tryd.func3
    (ChangeSpec.witness_shaped (enc := enc) (C := Tryd.checked) (os := os) (X := fun w _ => laidMetH Tryd.prog laid1 w) false (World.laidAll Tryd.prog os laid1) #[.agg #[.slice none 0 0, .slice none 0 0, .bool false, .slice none 0 0], .slice none 0 0, .int .i64 0] 8 (World.laidAll_os _ _ _)
      (World.shaped_of_ZipB (by kernel_rfl) (by kernel_rfl)) (by kernel_rfl) (by kernel_rfl) (by kernel_rfl)
      (by rw [MakeChecks.laidMetH_plain _ _ _ (by kernel_rfl)]; exact laidMet_laidAll _ (by kernel_rfl) (by kernel_rfl))) ?_
  intro W base args ds gs before hval0 hW _ hSz hL _
  have hval : ∀ (j : Nat) t v, Tryd.f3.params[j]? = some t → args[j]? = some v → Value.okWide Tryd.prog W .any base t v := hval0
  have hW' := hW
  obtain ⟨p, q, hA0, hV, rfl, hfz, hnd⟩ := hW
  have hA : DataW.TrodAll enc Tryd.prog W 0 (fun _ => true) true Tryd.f3.params.toList args.toList ds p := hA0
  have hSz' : (DataW.weightsEach Tryd.prog (Tryd.f3.params.toList ++ Rows.domOrderSpec.plain.varTypes Tryd.prog) (ds ++ gs)).all (· ≤ reachBytes) = true := hSz
  rw [Tryd.params3] at hA hval hSz'
  obtain ⟨v0, v1, v2, d0, d1, d2, p0, p1, p2, rfl, rfl, rfl, h0, h1, h2⟩ := trodAll_three hA
  obtain ⟨rfl, rfl⟩ := trodVars_none hV
  have h0k := h0
  have h1k := h1
  have h2k := h2
  obtain ⟨fuel0, hf0⟩ := h0
  obtain ⟨fuel1, hf1⟩ := h1
  obtain ⟨fuel2, hf2⟩ := h2
  clear hA0 hval0
  simp only [List.append_nil] at hW'
  have hlt : ∀ x ∈ p0 ++ p1 ++ p2, x.block < W.heap.size := fun x hx => by simpa using hW'.lt x hx
  obtain ⟨hTz, hs⟩ := tz_of_laid hL
  have hF0 : Fits 26 d0 := fun x hx => by
    have := List.all_eq_true.1 hSz' x (DataW.weights_mem_each (j := 0) rfl rfl x hx)
    simpa using this
  obtain ⟨cs, rfl, _⟩ := okWide_struct und26 (hval 0 26 v0 rfl rfl)
  obtain ⟨x1, x2, x3, rfl⟩ := okWide_slice und27c (hval 1 27 v1 rfl rfl)
  obtain ⟨m, vv, vc, vg, hc, hM, hR⟩ := mo_open3 hf0 hF0
  obtain ⟨a1, cap1, l1, hu1, _, hO1⟩ := cts_open hf1
  obtain ⟨z2, rfl⟩ := okWide_int Tryd.underlying3 (hval 2 3 v2 rfl rfl)
  have hcell : cs = #[vv, vc, .bool m.has, vg] := by
    have := congrArg List.toArray hc
    simpa [Value.cells] using this
  subst hcell
  have e1 : (.slice x1 x2 x3 : Value) = .slice a1 l1.length cap1 := by simpa [Value.cells] using hu1
  injection e1 with q1 q2 q3
  subst q1 q2 q3
  refine (domOrder_walk m vv vc vg x1 x3 l1 z2 W hM hO1 hR hTz hs).mono fun e W' ⟨he, hb⟩ => ?_
  subst he
  exact ⟨_, rfl, _, _, _, [], _, [], hW', trodAll_mk1 (shut_bool Tryd.underlying4 true), trodAll_mk3 (Below.trod laidOut (by kernel_rfl) (of_decide_eq_true (by kernel_rfl)) h0k hb (fun x hx => hlt x (List.mem_append_left _ (List.mem_append_left _ hx)))) (Below.trod laidOut (by kernel_rfl) (of_decide_eq_true (by kernel_rfl)) h1k hb (fun x hx => hlt x (List.mem_append_left _ (List.mem_append_right _ hx)))) (Below.trod laidOut (by kernel_rfl) (of_decide_eq_true (by kernel_rfl)) h2k hb (fun x hx => hlt x (List.mem_append_right _ hx))), rfl, hb.frame _, fun h => by cases h⟩

theorem domOrder_row : Rows.DomOrderSaid :=
  OpenClaim.holds_of_wide 3 Tryd.f3 rfl rfl rfl rfl rfl rfl rfl ⟨rfl, rfl, rfl, rfl, rfl⟩ rfl rfl rfl rfl rfl (by kernel_rfl) Tryd.func3 (by kernel_rfl)
    (of_decide_eq_true (by kernel_rfl)) (by unfold Func.isWrapper; first | (rw [if_pos (by decide +kernel)]; kernel_rfl) | (rw [if_neg (by decide +kernel)]; exact ⟨rfl, rfl⟩))
    (fun os started H enc _ => domOrder_lifted os started H enc)

/-- The statement. -/
theorem domOrder_holds : Rows.DomOrderCardSaid :=
  Claim7.holds_tied_plain_at .later [] [.data] true (true, "c4ada1e2e98d00f0d684dfdd330528b3691d4cd80cbedc66e1ca0a01b2cd245b") false
    domOrder_row (fun _ h => by cases h) (by kernel_rfl) (fun _ h => by cases h) domOrder_row_tie rfl ⟨rfl, rfl⟩ (by kernel_rfl) rfl
    (fun f fn hf hfn => by
      obtain rfl : f = 3 := Option.some.inj ((show Tryd.prog.funcNamed "hallmark/hallmarklaw11.DomOrder" = some 3 by kernel_rfl).symm.trans hf) |>.symm
      obtain rfl : fn = Tryd.f3 := (Option.some.inj (Tryd.func3.symm.trans hfn)).symm
      exact ⟨by kernel_rfl, fun j t ht => by
        rw [Tryd.params3] at ht
        have hm : t ∈ [26, 27, 3] := by simpa using Array.mem_of_getElem? ht
        have hall : ([26, 27, 3].all fun u => !Tryd.prog.wantsStandIn u) = true := by kernel_rfl
        exact (show Tryd.prog.wantsStandIn t = false by simpa using List.all_eq_true.1 hall t hm)⟩)
    (by kernel_rfl)
end Go.Proofs.YtakdboddbgihpaaDoor
