/-
  Product: the program's.
-/
import Derived.Test.YtmhfabnpfkkbcaaMdV8
namespace Go.Proofs.Ytmhfabnpfkkbcaa
open Go.RowKit

theorem tdiv_mul {n s most : Int} (hs : 0 < s) (hn : 1 ≤ n) (h : n ≤ most.tdiv s) : n * s ≤ most := by
  have h0 : 0 ≤ most := by
    rcases Int.lt_or_le most 0 with h1 | h1
    · exfalso
      have h2 : most.tdiv s ≤ 0 := by
        have h3 : (-(-most)).tdiv s = -((-most).tdiv s) := Int.neg_tdiv ..
        rw [Int.neg_neg] at h3
        have h4 : 0 ≤ (-most).tdiv s := Int.tdiv_nonneg (by omega) (by omega)
        omega
      omega
    · exact h1
  have h1 : n * s ≤ most.tdiv s * s := Int.mul_le_mul_of_nonneg_right h (by omega)
  have h2 : most.tdiv s * s ≤ most := by
    have := Int.tdiv_eq_ediv_of_nonneg (a := most) (b := s) h0
    rw [this]
    exact Int.ediv_mul_le most (by omega)
  omega
theorem wrap64_ok {z : Int} (h0 : 0 ≤ z) (h1 : z ≤ 9223372036854775807) : wrap64 z = z := by
  unfold wrap64
  omega
theorem tdiv_wrap {most s : Int} (hs : 0 < s) (h0 : -9223372036854775808 ≤ most) (h1 : most ≤ 9223372036854775807) : wrap64 (most.tdiv s) = most.tdiv s := by
  have key : ∀ a : Int, 0 ≤ a → 0 ≤ a.tdiv s ∧ a.tdiv s ≤ a := fun a ha => by
    have e := Int.tdiv_eq_ediv_of_nonneg (a := a) (b := s) ha
    rw [e]
    exact ⟨Int.ediv_nonneg ha (by omega), Int.ediv_le_self s ha⟩
  have hb : -9223372036854775808 ≤ most.tdiv s ∧ most.tdiv s ≤ 9223372036854775807 := by
    rcases Int.lt_or_le most 0 with h | h
    · have h3 : (-(-most)).tdiv s = -((-most).tdiv s) := Int.neg_tdiv ..
      rw [Int.neg_neg] at h3
      have := key (-most) (by omega)
      omega
    · have := key most h
      omega
  generalize most.tdiv s = z at *
  unfold wrap64
  omega
theorem Md.prod_next {l : List Md.Vr} {most n : Int} {k : Nat} (hk : k < l.length) : Md.prod (l.drop k) most n = if most.tdiv (l[k].hi - l[k].lo + 1) < n then none else Md.prod (l.drop (k + 1)) most (n * (l[k].hi - l[k].lo + 1)) := by
  rw [List.drop_eq_getElem_cons hk]; rfl
def prodR (o : Option Int) : Int × Bool := match o with | some n => (n, true) | none => (0, false)
theorem Md.product_no {m : Md.Mo} {most : Int} (h : Md.rightB m = false) : Md.product m most = (0, false) := by
  unfold Md.product
  rw [if_neg (by simpa [Md.rightB] using h)]
theorem Md.product_yes {m : Md.Mo} {most : Int} (h : Md.rightB m = true) : Md.product m most = prodR (Md.prod m.vars most 1) := by
  unfold Md.product
  rw [if_pos (by simpa [Md.rightB] using h)]; rfl
theorem ret_pairB {k1 : IntKind} {a a' : Int} {b b' : Bool} (h : (a, b) = (a', b')) : Ending.returned (.tuple #[.int k1 a, .bool b]) = .returned (.tuple #[.int k1 a', .bool b']) := by
  injection h with h1 h2
  rw [h1, h2]

set_option maxRecDepth 10000 in
set_option maxHeartbeats 2000000 in
theorem product_any (m : Md.Mo) (vv vc vg : Value) (most : Int) (w : World) (h : MoAt w m vv vc vg) (hmo0 : -9223372036854775808 ≤ most) (hmo : most ≤ 9223372036854775807) : Calls Try.prog 25 #[moVal m vv vc vg, .int .i64 most] w fun e w' => e = .returned (.tuple #[.int .i64 (Md.product m most).1, .bool (Md.product m most).2]) ∧ Below w.heap.size w w' := by
  obtain ⟨W, hW⟩ : ∃ W, w.alloc (.cells #[vv, vc, .bool m.has, vg] 26) = W := ⟨_, rfl⟩
  have hbW : Below w.heap.size w W := by rw [← hW]; exact (Below.refl _ _).alloc (Nat.le_refl _) _
  have hN : W.heap[w.heap.size]? = some (.cells #[vv, vc, .bool m.has, vg] 26) := by rw [← hW]; exact heap_alloc_new w _
  have HB : Hid (Below w.heap.size w W) := hbW
  have HM : Hid (∀ w', Below W.heap.size W w' → MoAt w' m vv vc vg) := fun w' hb => (h.below hbW).below hb
  have HN : Hid (∀ w', Below W.heap.size W w' → w'.heap[w.heap.size]? = some (.cells #[vv, vc, .bool m.has, vg] 26)) := fun w' hb => (hb.block _ (Array.getElem?_eq_some_iff.1 hN).1).trans hN
  have HNL : Hid (w.heap.size < W.heap.size) := (Array.getElem?_eq_some_iff.1 hN).1
  obtain ⟨va, vp, rfl, hvm⟩ := h.v.form
  obtain ⟨ca, cp, rfl, hcm⟩ := h.c.form
  obtain ⟨ga, gp, rfl, hgm⟩ := h.g.form
  unfold maxLen at hvm hcm hgm
  obtain ⟨⟨p0, p1, p2, p3⟩, _⟩ := box4 hN
  have H42 : Hid (Calls Try.prog 26 #[.agg #[.slice va m.vars.length vp, .slice ca m.cons.length cp, .bool m.has, .slice ga m.goal.length gp]] W fun e w' => e = .returned (.bool (Md.rightB m)) ∧ Below W.heap.size W w') := right_any m _ _ _ W (HM.out W (Below.refl _ _))
  have HMO : Hid (most ≤ 9223372036854775807) := hmo
  have HMO0 : Hid (-9223372036854775808 ≤ most) := hmo0
  unfold moVal
  clear hbW hN hmo hmo0
  cases hr : Md.rightB m
  · have hres : Hid (Md.product m most = (0, false)) := Md.product_no hr
    rw [hr] at H42
    clear hr h
    go_enter Try.func25, Try.ntmps25
    go_wp2_with (go_at_call 26; refine calls_at H42.out (by with_reducible rfl) (by with_reducible rfl) ?_; rintro e w1 ⟨rfl, hb1⟩)
    go_ret2
    exact ⟨ret_pairB hres.out.symm, HB.out.trans (hb1.mono HB.out.size)⟩
  have HR : Hid (Md.Right m) := Md.rightB_of hr
  have hres : Hid (Md.product m most = prodR (Md.prod m.vars most 1)) := Md.product_yes hr
  rw [hr] at H42
  obtain ⟨a', c', hve, _, _, hvo⟩ := h.v
  injection hve with e1 e2 e3
  subst e1 e3
  have HVO : Hid (0 < m.vars.length → ∃ b off, va = some ⟨b, off, none⟩ ∧ b < w.heap.size ∧ ∀ j (h : j < m.vars.length), w.cell? ⟨b, off + j * 3, none⟩ = some (.string m.vars[j].name) ∧ w.cell? ⟨b, off + j * 3 + 1, none⟩ = some (.int .i64 m.vars[j].lo) ∧ w.cell? ⟨b, off + j * 3 + 2, none⟩ = some (.int .i64 m.vars[j].hi)) := hvo
  have HV : Hid (∀ v ∈ m.vars, Md.boundsB v.lo v.hi = true) := fun v hv => (HR.out.var v hv).2
  clear hr h hvo e2
  go_enter Try.func25, Try.ntmps25
  go_wp2_with (go_at_call 26; refine calls_at H42.out (by with_reducible rfl) (by with_reducible rfl) ?_; rintro e w1 ⟨rfl, hb1⟩; have HB1 : Hid (Below W.heap.size W w1) := hb1; clear hb1 p0 p1 p2 p3; obtain ⟨⟨p0, p1, p2, p3⟩, _⟩ := box4 (HN.out _ HB1.out))
  go_loopw [6, 16] (fun sv iv wr => ∃ (k : Nat) (n : Int), iv = .int .i64 (k : Int) ∧ k ≤ m.vars.length ∧ sv = .int .i64 n ∧ 1 ≤ n ∧ Hid (n = 1 ∨ n ≤ most) ∧ Hid (Md.prod m.vars most 1 = Md.prod (m.vars.drop k) most n) ∧ Hid (Below W.heap.size W wr)) (fun _ iv _ => m.vars.length - (intOf iv).toNat)
  case atStart => exact ⟨0, 1, rfl, Nat.zero_le _, rfl, by decide, .inl rfl, (show _ = _ by rw [List.drop_zero]), HB1⟩
  case round =>
    obtain ⟨k, n, rfl, hk, rfl, hn1, hnm, hP, hT⟩ := hrel
    clear p0 p1 p2 p3
    obtain ⟨⟨p0, p1, p2, p3⟩, _⟩ := box4 (HN.out _ hT.out)
    by_cases hlt : k < m.vars.length
    · have hkI : (k : Int) < (m.vars.length : Int) := by omega
      obtain ⟨b, off, rfl, hb, hc⟩ := HVO.out (by omega)
      obtain ⟨c0, c1, c2⟩ := hc k hlt
      have hbw : Below w.heap.size w wr := HB.out.trans (hT.out.mono HB.out.size)
      have d0 := (hbw.cell (p := ⟨b, off + k * 3, none⟩) hb).trans c0
      have d1 := (hbw.cell (p := ⟨b, off + k * 3 + 1, none⟩) hb).trans c1
      have d2 := (hbw.cell (p := ⟨b, off + k * 3 + 2, none⟩) hb).trans c2
      obtain ⟨⟨b1, b2⟩, ⟨b3, b4⟩, b5, b6⟩ := Md.bounds_of (HV.out _ (List.getElem_mem hlt))
      have hnx : Hid (Md.prod m.vars most 1 = if most.tdiv (m.vars[k].hi - m.vars[k].lo + 1) < n then none else Md.prod (m.vars.drop (k + 1)) most (n * (m.vars[k].hi - m.vars[k].lo + 1))) := by show _ = _; rw [hP.out, Md.prod_next hlt]
      clear hc c0 c1 c2
      generalize m.vars[k] = v at *
      obtain ⟨V, hV⟩ : ∃ V, wr.alloc (.cells #[.string v.name, .int .i64 v.lo, .int .i64 v.hi] 37) = V := ⟨_, rfl⟩
      have hbV : Below wr.heap.size wr V := by rw [← hV]; exact (Below.refl _ _).alloc (Nat.le_refl _) _
      have q1 : V.cell? ⟨wr.heap.size, 1, none⟩ = some (.int .i64 v.lo) := by rw [← hV]; simp
      have q2 : V.cell? ⟨wr.heap.size, 2, none⟩ = some (.int .i64 v.hi) := by rw [← hV]; simp
      have HTV : Hid (Below W.heap.size W V) := hT.out.trans (hbV.mono hT.out.size)
      have hs1 : 0 < v.hi - v.lo + 1 := by omega
      clear hbV hbw
      have HWE : Hid (wrap64 (most.tdiv (v.hi - v.lo + 1)) = most.tdiv (v.hi - v.lo + 1)) := tdiv_wrap hs1 HMO0.out HMO.out
      by_cases hq : wrap64 (most.tdiv (v.hi - v.lo + 1)) < n
      · have hfin : Hid (Md.product m most = (0, false)) := by show _ = _; rw [hres.out, hnx.out, if_pos (by rw [← HWE.out]; exact hq)]; rfl
        clear hnx
        go_wp2_with fail
        all_goals first
          | (go_ret2; exact ⟨ret_pairB hfin.out.symm, HB.out.trans (HTV.out.mono HB.out.size)⟩)
          | (exfalso; omega)
      · have hle : n * (v.hi - v.lo + 1) ≤ most := tdiv_mul hs1 hn1 (by rw [← HWE.out]; omega)
        have hge : 1 ≤ n * (v.hi - v.lo + 1) := by
          have := Int.mul_le_mul hn1 (show 1 ≤ v.hi - v.lo + 1 by omega) (by decide) (by omega)
          simpa using this
        have HLE : Hid (n * (v.hi - v.lo + 1) ≤ most) := hle
        have HGE : Hid (1 ≤ n * (v.hi - v.lo + 1)) := hge
        have HW : Hid (wrap64 (n * (v.hi - v.lo + 1)) = n * (v.hi - v.lo + 1)) := wrap64_ok (by omega) (Int.le_trans hle HMO.out)
        have HNX : Hid (Md.prod m.vars most 1 = Md.prod (m.vars.drop (k + 1)) most (n * (v.hi - v.lo + 1))) := by show _ = _; rw [hnx.out, if_neg (by rw [← HWE.out]; exact hq)]
        clear hnx hle hge
        go_wp2_with fail
        all_goals first
          | (exfalso; omega)
          | (refine ⟨⟨k + 1, n * (v.hi - v.lo + 1), by go_num, by omega, by rw [HW.out], HGE.out, .inr HLE.out, HNX, HTV⟩, ?_⟩; simp [intOf]; omega)
    · have hkI : ¬ (k : Int) < (m.vars.length : Int) := by omega
      have hfin : Hid (Md.product m most = (n, true)) := by
        show _ = _
        rw [hres.out, hP.out, List.drop_eq_nil_of_le (by omega)]; rfl
      go_wp2_with fail
      go_ret2
      exact ⟨ret_pairB hfin.out.symm, HB.out.trans (hT.out.mono HB.out.size)⟩
end Go.Proofs.Ytmhfabnpfkkbcaa
