/-
  inside: values within a problem's bounds.
-/
import Derived.Test.YtmhfabnpfkkbcaaMdIn
import Derived.Test.YtmhfabnpfkkbcaaMdRow
import Derived.Test.YtmhfabnpfkkbcaaMdOpen
import Derived.Deep.QuietTactic
import Derived.BigQuiet
namespace Go.Proofs.Ytmhfabnpfkkbcaa
open Go.RowKit

theorem info3 : (Try.prog.info? 3).map (fun i => (i.zero, i.size, i.bytes)) = some (some (.int .i64 0), 1, 8) := by kernel_rfl
/-- The value at a place, within the bounds. -/
def insV (vars : List Md.Vr) (l : List Int) (j : Nat) : Int :=
  match vars[j]? with
  | some v => (match l[j]? with | some a => v.lo + plc a (v.hi - v.lo + 1) | none => v.lo)
  | none => 0
def insL (vars : List Md.Vr) (l : List Int) (k : Nat) : List Value := (List.range k).map fun j => .int .i64 (insV vars l j)
theorem insL_next (vars : List Md.Vr) (l : List Int) (k : Nat) : insL vars l (k + 1) = insL vars l k ++ [.int .i64 (insV vars l k)] := by
  unfold insL; rw [List.range_succ]; simp
theorem insV_a {vars : List Md.Vr} {l : List Int} {k : Nat} (h : k < vars.length) (h2 : k < l.length) : insV vars l k = vars[k].lo + plc l[k] (vars[k].hi - vars[k].lo + 1) := by
  unfold insV; rw [List.getElem?_eq_getElem h, List.getElem?_eq_getElem h2]
theorem insV_b {vars : List Md.Vr} {l : List Int} {k : Nat} (h : k < vars.length) (h2 : ¬ k < l.length) : insV vars l k = vars[k].lo := by
  unfold insV; rw [List.getElem?_eq_getElem h, List.getElem?_eq_none (by omega)]
theorem own_dn {w : World} {B e size n : Nat} {v : Value} {xs : List Value} (h : w.ownsRow B e size v n xs) : ∀ q, (w.drewN q).ownsRow B e size v n xs
  | 0 => h
  | q + 1 => (own_dn h q).drew

theorem own_lower {w : World} {B B' e size n : Nat} {v : Value} {xs : List Value} (h : w.ownsRow B e size v n xs) (hB : B' ≤ B) : w.ownsRow B' e size v n xs := by
  refine ⟨h.1, ?_⟩
  rcases h.2 with h2 | ⟨g, cap, cur, hv, hg, rest⟩
  · exact .inl h2
  · exact .inr ⟨g, cap, cur, hv, Nat.le_trans hB hg, rest⟩

set_option maxRecDepth 10000 in
set_option maxHeartbeats 1000000 in
theorem inside_any (m : Md.Mo) (vv vc vg vx : Value) (l : List Int) (w : World) (h : MoAt w m vv vc vg) (hx : IntsAt w vx l) (hvl : m.vars.length ≤ 32) (hbd : ∀ v ∈ m.vars, Md.boundsB v.lo v.hi = true) :
    Calls Try.prog 10 #[moVal m vv vc vg, vx] w fun e w' => ∃ v, e = .returned v ∧ w'.ownsRow w.heap.size 3 1 v m.vars.length (insL m.vars l m.vars.length) ∧ Below w.heap.size w w' := by
  obtain ⟨W, hW⟩ : ∃ W, w.alloc (.cells #[vv, vc, .bool m.has, vg] 26) = W := ⟨_, rfl⟩
  have hbW : Below w.heap.size w W := by rw [← hW]; exact (Below.refl _ _).alloc (Nat.le_refl _) _
  have hN : W.heap[w.heap.size]? = some (.cells #[vv, vc, .bool m.has, vg] 26) := by rw [← hW]; exact heap_alloc_new w _
  have HB : Hid (Below w.heap.size w W) := hbW
  have HN : Hid (∀ w', Below W.heap.size W w' → w'.heap[w.heap.size]? = some (.cells #[vv, vc, .bool m.has, vg] 26)) := fun w' hb => (hb.block _ (Array.getElem?_eq_some_iff.1 hN).1).trans hN
  obtain ⟨va, vp, rfl, hvm, hvn, hvo⟩ := id h.v
  obtain ⟨ca, cp, rfl, hcm⟩ := h.c.form
  obtain ⟨ga, gp, rfl, hgm⟩ := h.g.form
  obtain ⟨xa, xc, rfl, hxm, hxo⟩ := id hx
  have hvcap : m.vars.length ≤ vp := h.vcap _ _ _ rfl
  unfold maxLen at hvm hcm hgm hxm
  have HVO : Hid (0 < m.vars.length → ∃ b off, va = some ⟨b, off, none⟩ ∧ b < w.heap.size ∧ ∀ j (h : j < m.vars.length), w.cell? ⟨b, off + j * 3, none⟩ = some (.string m.vars[j].name) ∧ w.cell? ⟨b, off + j * 3 + 1, none⟩ = some (.int .i64 m.vars[j].lo) ∧ w.cell? ⟨b, off + j * 3 + 2, none⟩ = some (.int .i64 m.vars[j].hi)) := hvo
  have HXO : Hid (0 < l.length → ∃ b off, xa = some ⟨b, off, none⟩ ∧ b < w.heap.size ∧ ∀ j (h : j < l.length), w.cell? ⟨b, off + j, none⟩ = some (.int .i64 l[j])) := hxo
  have HV : Hid (∀ v ∈ m.vars, Md.boundsB v.lo v.hi = true) := hbd
  obtain ⟨⟨p0, p1, p2, p3⟩, _⟩ := box4 hN
  unfold moVal
  clear h hx hbW hN hvn hvo hxo hbd
  go_enter Try.func10, Try.ntmps10
  go_wp2
  go_loopw [5, 6] (fun fv iv wr => ∃ k : Nat, iv = .int .i64 (k : Int) ∧ k ≤ m.vars.length ∧ Hid (wr.ownsRow W.heap.size 3 1 fv k (insL m.vars l k)) ∧ Hid (Below W.heap.size W wr)) (fun _ iv _ => m.vars.length - (intOf iv).toNat)
  case atStart => exact ⟨0, rfl, Nat.zero_le _, World.ownsRow_nil _ _ _ _, Below.refl _ _⟩
  case round =>
    obtain ⟨k, rfl, hk, hO, hT⟩ := hrel
    clear p0 p1 p2 p3
    obtain ⟨⟨p0, p1, p2, p3⟩, _⟩ := box4 (HN.out _ hT.out)
    by_cases hlt : k < m.vars.length
    · have hkI : (k : Int) < (m.vars.length : Int) := by omega
      obtain ⟨b, off, rfl, hb, hc⟩ := HVO.out (by omega)
      obtain ⟨c0, c1, c2⟩ := hc k hlt
      have hbw : Below w.heap.size w wr := HB.out.trans (hT.out.mono HB.out.size)
      have d1 := (hbw.cell (p := ⟨b, off + k * 3 + 1, none⟩) hb).trans c1
      have d2 := (hbw.cell (p := ⟨b, off + k * 3 + 2, none⟩) hb).trans c2
      obtain ⟨⟨b1, b2⟩, ⟨b3, b4⟩, b5, b6⟩ := Md.bounds_of (HV.out _ (List.getElem_mem hlt))
      have hkc : k ≤ vp := by omega
      have hkcI : (k : Int) ≤ (vp : Int) := by omega
      by_cases hlx : k < l.length
      · have hxI : (k : Int) < (l.length : Int) := by omega
        obtain ⟨bx, ox, rfl, hbx, hcx⟩ := HXO.out (by omega)
        have dx := (hbw.cell (p := ⟨bx, ox + k, none⟩) hbx).trans (hcx k hlx)
        have HE : Hid (insL m.vars l (k + 1) = insL m.vars l k ++ [.int .i64 (m.vars[k].lo + plc l[k] (m.vars[k].hi - m.vars[k].lo + 1))]) := by show _ = _; rw [insL_next, insV_a hlt hlx]
        clear hc c0 c1 c2 hcx hbw
        generalize m.vars[k] = v at *
        generalize l[k] = a at *
        obtain ⟨q1, q2⟩ := plc_in a (v.hi - v.lo + 1) (by omega)
        have HP : Hid (∀ w' : World, Calls Try.prog 29 #[.int .i64 a, .int .i64 (v.hi - v.lo + 1)] w' fun e w'' => e = .returned (.int .i64 (plc a (v.hi - v.lo + 1))) ∧ w'' = w') := fun w' => place_any a _ w' (by omega) (by omega)
        have e1 : IntKind.i64.wrap (v.hi - v.lo) = v.hi - v.lo := wrap_ok (by omega) (by omega)
        have e2 : IntKind.i64.wrap (v.hi - v.lo + 1) = v.hi - v.lo + 1 := wrap_ok (by omega) (by omega)
        have e3 : IntKind.i64.wrap (v.lo + plc a (v.hi - v.lo + 1)) = v.lo + plc a (v.hi - v.lo + 1) := wrap_ok (by omega) (by omega)
        go_wp2
        go_quiet ((go_at_call 29; exact Calls.quiet_of_same (HP.out _)))
        have HO1 : Hid ((wr.drewN nq).ownsRow W.heap.size 3 1 _ k (insL m.vars l k)) := own_dn hO.out nq
        have HT1 : Hid (Below W.heap.size W (wr.drewN nq)) := below_drewN hT.out nq
        generalize wr.drewN nq = wd at *
        go_wp2_with (at_builtin; refine append_one wd (.int .i64 (v.lo + plc a (v.hi - v.lo + 1))) rfl (.tmp 41) (.tmp 43) 27 3 (.int .i64 0) 8 rfl und27 info3 rfl W.heap.size _ _ _ (by rfl) HO1.out rfl _ rfl (by rfl) (by unfold maxLen; omega) (by omega) HT1.out.size ?_; intro v2 w2 ho2 hg2 hn2)
        have HO2 : Hid (w2.ownsRow W.heap.size 3 1 v2 (k + 1) (insL m.vars l (k + 1))) := by
          show World.ownsRow _ _ _ _ _ _ _
          rw [HE.out]; exact ho2
        have HB2 : Hid (Below W.heap.size W w2) := (HT1.out.alloc HT1.out.size _).grown hg2 (by have := HT1.out.size; simp; omega) (fun g hg => (HO1.out.lt g hg).1)
        clear ho2 hg2 hn2
        go_wp2_with fail
        go_roundw
        case rel => exact ⟨k + 1, by go_num, by omega, HO2, HB2⟩
        case measure => simp [intOf]; omega
      · have hxI : ¬ (k : Int) < (l.length : Int) := by omega
        have HE : Hid (insL m.vars l (k + 1) = insL m.vars l k ++ [.int .i64 m.vars[k].lo]) := by show _ = _; rw [insL_next, insV_b hlt hlx]
        clear hc c0 c1 c2 hbw
        generalize m.vars[k] = v at *
        have HO1 : Hid ((wr).ownsRow W.heap.size 3 1 _ k (insL m.vars l k)) := hO.out
        have HT1 : Hid (Below W.heap.size W (wr)) := hT.out
        go_wp2_with (at_builtin; refine append_one wr (.int .i64 (v.lo)) rfl (.tmp 41) (.tmp 43) 27 3 (.int .i64 0) 8 rfl und27 info3 rfl W.heap.size _ _ _ (by rfl) HO1.out rfl _ rfl (by rfl) (by unfold maxLen; omega) (by omega) HT1.out.size ?_; intro v2 w2 ho2 hg2 hn2)
        have HO2 : Hid (w2.ownsRow W.heap.size 3 1 v2 (k + 1) (insL m.vars l (k + 1))) := by
          show World.ownsRow _ _ _ _ _ _ _
          rw [HE.out]; exact ho2
        have HB2 : Hid (Below W.heap.size W w2) := (HT1.out.alloc HT1.out.size _).grown hg2 (by have := HT1.out.size; simp; omega) (fun g hg => (HO1.out.lt g hg).1)
        clear ho2 hg2 hn2
        go_wp2_with fail
        go_roundw
        case rel => exact ⟨k + 1, by go_num, by omega, HO2, HB2⟩
        case measure => simp [intOf]; omega
    · have hkI : ¬ (k : Int) < (m.vars.length : Int) := by omega
      obtain rfl : k = m.vars.length := by omega
      go_wp2
      go_ret
      exact ⟨_, rfl, own_lower hO.out HB.out.size, HB.out.trans (hT.out.mono HB.out.size)⟩
end Go.Proofs.Ytmhfabnpfkkbcaa
