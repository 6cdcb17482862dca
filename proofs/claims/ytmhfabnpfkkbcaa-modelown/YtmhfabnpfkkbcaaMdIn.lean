/-
  place; right, as the laws ask it.
-/
import Derived.Test.YtmhfabnpfkkbcaaMdV9
import Derived.Test.YtmhfabnpfkkbcaaMdV6
import Derived.Test.YtmhfabnpfkkbcaaMdKnA
namespace Go.Proofs.Ytmhfabnpfkkbcaa
open Go.RowKit

/-- A number from 0 to n - 1 out of any number. -/
def plc (k n : Int) : Int := if k.tmod n < 0 then k.tmod n + n else k.tmod n
theorem plc_in (k n : Int) (h1 : 0 < n) : 0 ≤ plc k n ∧ plc k n < n := by
  have a := Int.tmod_lt_of_pos k h1
  have b := Int.lt_tmod_of_pos k h1
  unfold plc
  split <;> omega

set_option maxRecDepth 10000 in
set_option maxHeartbeats 400000 in
theorem place_any (k n : Int) (w : World) (h1 : 0 < n) (h2 : n ≤ 1000000000000) : Calls Try.prog 29 #[.int .i64 k, .int .i64 n] w fun e w' => e = .returned (.int .i64 (plc k n)) ∧ w' = w := by
  go_enter Try.func29, Try.ntmps29
  go_wp2
  · rename_i h
    have b := Int.lt_tmod_of_pos k h1
    have e1 : wrap64 (k.tmod n + n) = plc k n := by
      have e2 : wrap64 (k.tmod n + n) = k.tmod n + n := by unfold wrap64; omega
      rw [e2, plc, if_pos h]
    go_ret
    exact ⟨congrArg (fun z => Ending.returned (.int .i64 z)) e1, rfl⟩
  · rename_i h
    have e1 : k.tmod n = plc k n := by rw [plc, if_neg (by omega)]
    go_ret
    exact ⟨congrArg (fun z => Ending.returned (.int .i64 z)) e1, rfl⟩

set_option maxRecDepth 10000 in
set_option maxHeartbeats 400000 in
theorem rightLaw_any (m : Md.Mo) (vv vc vg : Value) (w : World) (h : MoAt w m vv vc vg) : Calls Try.prog 8 #[moVal m vv vc vg] w fun e w' => e = .returned (.bool (Md.rightB m)) ∧ Below w.heap.size w w' := by
  obtain ⟨W, hW⟩ : ∃ W, w.alloc (.cells #[vv, vc, .bool m.has, vg] 26) = W := ⟨_, rfl⟩
  have hbW : Below w.heap.size w W := by rw [← hW]; exact (Below.refl _ _).alloc (Nat.le_refl _) _
  have hN : W.heap[w.heap.size]? = some (.cells #[vv, vc, .bool m.has, vg] 26) := by rw [← hW]; exact heap_alloc_new w _
  have HB : Hid (Below w.heap.size w W) := hbW
  have HM : Hid (∀ w', Below W.heap.size W w' → MoAt w' m vv vc vg) := fun w' hb => (h.below hbW).below hb
  have HN : Hid (∀ w', Below W.heap.size W w' → w'.heap[w.heap.size]? = some (.cells #[vv, vc, .bool m.has, vg] 26)) := fun w' hb => (hb.block _ (Array.getElem?_eq_some_iff.1 hN).1).trans hN
  have HNL : Hid (w.heap.size < W.heap.size) := (Array.getElem?_eq_some_iff.1 hN).1
  obtain ⟨va, vp, rfl, hvm⟩ := h.v.form
  obtain ⟨ca, cp, rfl, hcm⟩ := h.c.form
  obtain ⟨ga, gp, rfl, hgm⟩ := h.g.form
  unfold maxLen at hvm hcm hgm
  obtain ⟨⟨p0, p1, p2, p3⟩, _⟩ := box4 hN
  have H10 : Hid (Calls Try.prog 24 #[.agg #[.slice va m.vars.length vp, .slice ca m.cons.length cp, .bool m.has, .slice ga m.goal.length gp]] W fun e w' => e = .returned (.tuple #[.int .i64 (Md.check m).1, .int .i64 (Md.check m).2]) ∧ Below W.heap.size W w') := check_any m _ _ _ W (HM.out W (Below.refl _ _))
  unfold moVal
  clear h hbW hN
  obtain ⟨r, hr⟩ : ∃ r, (Md.check m).2 = r := ⟨_, rfl⟩
  have hres : Hid (Md.rightB m = (r == 0)) := by show _ = _; unfold Md.rightB; rw [hr]
  rw [hr] at H10
  clear hr
  go_enter Try.func8, Try.ntmps8
  go_wp2_with (go_at_call 24; refine calls_at H10.out (by with_reducible rfl) (by with_reducible rfl) ?_; rintro e w1 ⟨rfl, hb1⟩)
  go_ret
  exact ⟨ret_bool hres.out.symm, HB.out.trans (hb1.mono HB.out.size)⟩

end Go.Proofs.Ytmhfabnpfkkbcaa
