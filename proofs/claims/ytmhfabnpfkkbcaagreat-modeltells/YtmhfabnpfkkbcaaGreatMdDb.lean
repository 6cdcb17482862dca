/-
  Put together: MdD4, MdD5.
-/
import Derived.Test.YtmhfabnpfkkbcaaGreatMdDa
namespace Go.Proofs.YtmhfabnpfkkbcaaGreat
open Go.RowKit

theorem Bo.next {V w1 w2 : World} {N bv ov nv vp b off ng gp k x : Nat} {tc : Int} {v : Md.Vr} (h : w1.cell? ⟨N, 0, none⟩ = some (.slice (some ⟨bv, ov, none⟩) nv vp) ∧ w1.cell? ⟨N, 3, none⟩ = some (.slice (some ⟨b, off, none⟩) ng gp) ∧ w1.cell? ⟨b, off + k * 2, none⟩ = some (.int .i64 tc) ∧ w1.cell? ⟨b, off + k * 2 + 1, none⟩ = some (.int .i64 (x : Int)) ∧ w1.cell? ⟨bv, ov + x * 3, none⟩ = some (.string v.name) ∧ w1.cell? ⟨bv, ov + x * 3 + 1, none⟩ = some (.int .i64 v.lo) ∧ w1.cell? ⟨bv, ov + x * 3 + 2, none⟩ = some (.int .i64 v.hi) ∧ Below V.heap.size V w1) (hb : Below w1.heap.size w1 w2) : w2.cell? ⟨N, 0, none⟩ = some (.slice (some ⟨bv, ov, none⟩) nv vp) ∧ w2.cell? ⟨N, 3, none⟩ = some (.slice (some ⟨b, off, none⟩) ng gp) ∧ w2.cell? ⟨b, off + k * 2, none⟩ = some (.int .i64 tc) ∧ w2.cell? ⟨b, off + k * 2 + 1, none⟩ = some (.int .i64 (x : Int)) ∧ w2.cell? ⟨bv, ov + x * 3, none⟩ = some (.string v.name) ∧ w2.cell? ⟨bv, ov + x * 3 + 1, none⟩ = some (.int .i64 v.lo) ∧ w2.cell? ⟨bv, ov + x * 3 + 2, none⟩ = some (.int .i64 v.hi) ∧ Below V.heap.size V w2 := by
  obtain ⟨h0, h1, h2, h3, h4, h5, h6, h7⟩ := h
  exact ⟨one_next hb h0, one_next hb h1, one_next hb h2, one_next hb h3, one_next hb h4, one_next hb h5, one_next hb h6, h7.trans (hb.mono h7.size)⟩

set_option maxRecDepth 10000 in
set_option maxHeartbeats 2000000 in
theorem refBound_floor (m : Md.Mo) (vv vc vg : Value) (w : World) (h : MoAt w m vv vc vg) : Calls Tryz.prog 45 #[moVal m vv vc vg, .int .i64 1] w fun e w' => e = .returned (.int .i64 (Md.floor m)) ∧ Below w.heap.size w w' := by
  obtain ⟨W, hW⟩ : ∃ W, w.alloc (.cells #[vv, vc, .bool m.has, vg] 26) = W := ⟨_, rfl⟩
  have hbW : Below w.heap.size w W := by rw [← hW]; exact (Below.refl _ _).alloc (Nat.le_refl _) _
  have hN : W.heap[w.heap.size]? = some (.cells #[vv, vc, .bool m.has, vg] 26) := by rw [← hW]; exact heap_alloc_new w _
  have HB : Hid (Below w.heap.size w W) := hbW
  have HM : Hid (∀ w', Below W.heap.size W w' → MoAt w' m vv vc vg) := fun w' hb => (h.below hbW).below hb
  have HN : Hid (∀ w', Below W.heap.size W w' → w'.heap[w.heap.size]? = some (.cells #[vv, vc, .bool m.has, vg] 26)) := fun w' hb => (hb.block _ (Array.getElem?_eq_some_iff.1 hN).1).trans hN
  have HNL : Hid (w.heap.size < W.heap.size) := (Array.getElem?_eq_some_iff.1 hN).1
  obtain ⟨va, vp, rfl, hvm⟩ := h.v.form
  obtain ⟨ca, cp, rfl, hcm⟩ := h.c.form
  obtain ⟨ga, gp, rfl, hgm⟩ := h.g.form
  unfold maxLen at hvm hcm hgm
  obtain ⟨⟨p0, p1, p2, p3⟩, _⟩ := box4 hN
  have H38 : Hid (Calls Tryz.prog 38 #[.agg #[.slice va m.vars.length vp, .slice ca m.cons.length cp, .bool m.has, .slice ga m.goal.length gp]] W fun e w' => e = .returned (.bool (Md.rightB m)) ∧ Below W.heap.size W w') := refRight_any m _ _ _ W (HM.out W (Below.refl _ _))
  unfold moVal
  clear hbW hN
  cases hr : Md.rightB m
  · have hres : Hid (Md.floor m = 0) := by show _ = _; unfold Md.floor; rw [if_neg (by simpa [Md.rightB] using hr)]
    rw [hr] at H38
    clear hr h
    go_enter Tryz.func45, Tryz.ntmps45
    go_wp2_with (go_at_call 38; refine calls_at H38.out (by with_reducible rfl) (by with_reducible rfl) ?_; rintro e w1 ⟨rfl, hb1⟩)
    go_ret
    exact ⟨ret_int hres.out.symm, HB.out.trans (hb1.mono HB.out.size)⟩
  have HR : Hid (Md.Right m) := Md.rightB_of hr
  have hres : Hid (Md.floor m = Md.lowS m.vars m.goal) := by show _ = _; unfold Md.floor; rw [if_pos (by simpa [Md.rightB] using hr)]
  rw [hr] at H38
  obtain ⟨a', c', hve, _, _, hvo⟩ := h.v
  injection hve with e1 e2 e3
  subst e1 e3
  obtain ⟨a', c', hge, _, hgo⟩ := h.g
  injection hge with e4 e5 e6
  subst e4 e6
  have HVO : Hid (0 < m.vars.length → ∃ b off, va = some ⟨b, off, none⟩ ∧ b < w.heap.size ∧ ∀ j (h : j < m.vars.length), w.cell? ⟨b, off + j * 3, none⟩ = some (.string m.vars[j].name) ∧ w.cell? ⟨b, off + j * 3 + 1, none⟩ = some (.int .i64 m.vars[j].lo) ∧ w.cell? ⟨b, off + j * 3 + 2, none⟩ = some (.int .i64 m.vars[j].hi)) := hvo
  have HGO : Hid (0 < m.goal.length → ∃ b off, ga = some ⟨b, off, none⟩ ∧ b < w.heap.size ∧ ∀ j (h : j < m.goal.length), w.cell? ⟨b, off + j * 2, none⟩ = some (.int .i64 m.goal[j].1) ∧ w.cell? ⟨b, off + j * 2 + 1, none⟩ = some (.int .i64 m.goal[j].2)) := hgo
  have HG : Hid ((∀ t ∈ m.goal, 0 ≤ t.2 ∧ t.2 < m.vars.length) ∧ (∀ t ∈ m.goal, -1000000 ≤ t.1 ∧ t.1 ≤ 1000000) ∧ m.goal.length ≤ 64 ∧ ∀ t ∈ m.goal, t.1 ≠ 0) := by
    have := Md.goal_of HR.out.goal
    exact ⟨this.2.2.1, fun t ht => (this.2.2.2 t ht).2, this.2.1, fun t ht => (this.2.2.2 t ht).1⟩
  have HV : Hid (∀ v ∈ m.vars, Md.boundsB v.lo v.hi = true) := fun v hv => (HR.out.var v hv).2
  clear hr h hvo hgo e2 e5
  go_enter Tryz.func45, Tryz.ntmps45
  go_wp2_with (go_at_call 38; refine calls_at H38.out (by with_reducible rfl) (by with_reducible rfl) ?_; rintro e w1 ⟨rfl, hb1⟩; have HB1 : Hid (Below W.heap.size W w1) := hb1; clear hb1 p0 p1 p2 p3; obtain ⟨⟨p0, p1, p2, p3⟩, _⟩ := box4 (HN.out _ HB1.out))
  go_loopw [5, 6] (fun sv iv wr => ∃ k : Nat, iv = .int .i64 (k : Int) ∧ k ≤ m.goal.length ∧ sv = .int .i64 (Md.lowS m.vars (m.goal.take k)) ∧ Hid (Below W.heap.size W wr)) (fun _ iv _ => m.goal.length - (intOf iv).toNat)
  case atStart => exact ⟨0, rfl, Nat.zero_le _, by simp [Md.lowS], HB1⟩
  case round =>
    obtain ⟨k, rfl, hk, rfl, hT⟩ := hrel
    clear p0 p1 p2 p3
    obtain ⟨⟨p0, p1, p2, p3⟩, _⟩ := box4 (HN.out _ hT.out)
    by_cases hlt : k < m.goal.length
    · have hkI : (k : Int) < (m.goal.length : Int) := by omega
      obtain ⟨b, off, rfl, hb, hc⟩ := HGO.out (by omega)
      obtain ⟨c1, c2⟩ := hc k hlt
      have hbw : Below w.heap.size w wr := HB.out.trans (hT.out.mono HB.out.size)
      have d1 := (hbw.cell (p := ⟨b, off + k * 2, none⟩) hb).trans c1
      have d2 := (hbw.cell (p := ⟨b, off + k * 2 + 1, none⟩) hb).trans c2
      obtain ⟨x, hx, hxl⟩ := nat_of (HG.out.1 _ (List.getElem_mem hlt))
      have hxI : (x : Int) < (m.vars.length : Int) := by omega
      have hx0 : (0 : Int) ≤ (x : Int) := by omega
      have hk0 : (0 : Int) ≤ (k : Int) := by omega
      obtain ⟨bv, ov, rfl, hbv, hcv⟩ := HVO.out (by omega)
      obtain ⟨v0, v1, v2⟩ := hcv x hxl
      have f0 := (hbw.cell (p := ⟨bv, ov + x * 3, none⟩) hbv).trans v0
      have f1 := (hbw.cell (p := ⟨bv, ov + x * 3 + 1, none⟩) hbv).trans v1
      have f2 := (hbw.cell (p := ⟨bv, ov + x * 3 + 2, none⟩) hbv).trans v2
      have hck := HG.out.2.1 _ (List.getElem_mem hlt)
      have hc0 := HG.out.2.2.2 _ (List.getElem_mem hlt)
      have hvb := Md.bounds_of (HV.out _ (List.getElem_mem hxl))
      have hm1 := Md.mul_bd hck.1 hck.2 hvb.1.1 hvb.1.2
      have hm2 := Md.mul_bd hck.1 hck.2 hvb.2.1.1 hvb.2.1.2
      have hsb := Md.low_bd HV.out HG.out.2.1 k (by omega)
      have hk64 : k < 64 := Nat.lt_of_lt_of_le hlt HG.out.2.2.1
      have hnx : Hid (Md.lowS m.vars (m.goal.take (k + 1)) = Md.lowS m.vars (m.goal.take k) + (if 0 < m.goal[k].1 then m.goal[k].1 * m.vars[x].lo else m.goal[k].1 * m.vars[x].hi)) := by
        show _ = _
        rw [Md.low_next hlt, hx, Md.varAt_get hxl]
      rw [hx] at d2
      clear hc c1 c2 hcv v0 v1 v2 hx hvb
      generalize m.goal[k].1 = tc at *
      generalize m.vars[x] = v at *
      generalize Md.lowS m.vars (m.goal.take k) = s at *
      have hS0 : Hid (wr.cell? ⟨w.heap.size, 0, none⟩ = some (.slice (some ⟨bv, ov, none⟩) m.vars.length vp) ∧ wr.cell? ⟨w.heap.size, 3, none⟩ = some (.slice (some ⟨b, off, none⟩) m.goal.length gp) ∧ wr.cell? ⟨b, off + k * 2, none⟩ = some (.int .i64 tc) ∧ wr.cell? ⟨b, off + k * 2 + 1, none⟩ = some (.int .i64 (x : Int)) ∧ wr.cell? ⟨bv, ov + x * 3, none⟩ = some (.string v.name) ∧ wr.cell? ⟨bv, ov + x * 3 + 1, none⟩ = some (.int .i64 v.lo) ∧ wr.cell? ⟨bv, ov + x * 3 + 2, none⟩ = some (.int .i64 v.hi) ∧ Below wr.heap.size wr wr) := ⟨p0, p3, d1, d2, f0, f1, f2, Below.refl _ _⟩
      obtain ⟨hm1a, hm1b⟩ := hm1
      obtain ⟨hm2a, hm2b⟩ := hm2
      obtain ⟨hsba, hsbb⟩ := hsb
      obtain ⟨hcka, hckb⟩ := hck
      obtain ⟨V, hV⟩ : ∃ V, wr.alloc (.cells #[.string v.name, .int .i64 v.lo, .int .i64 v.hi] 78) = V := ⟨_, rfl⟩
      have hbV : Below wr.heap.size wr V := by rw [← hV]; exact (Below.refl _ _).alloc (Nat.le_refl _) _
      have q1 : V.cell? ⟨wr.heap.size, 1, none⟩ = some (.int .i64 v.lo) := by rw [← hV]; simp
      have q2 : V.cell? ⟨wr.heap.size, 2, none⟩ = some (.int .i64 v.hi) := by rw [← hV]; simp
      have hSV : Hid (V.cell? ⟨w.heap.size, 0, none⟩ = some (.slice (some ⟨bv, ov, none⟩) m.vars.length vp) ∧ V.cell? ⟨w.heap.size, 3, none⟩ = some (.slice (some ⟨b, off, none⟩) m.goal.length gp) ∧ V.cell? ⟨b, off + k * 2, none⟩ = some (.int .i64 tc) ∧ V.cell? ⟨b, off + k * 2 + 1, none⟩ = some (.int .i64 (x : Int)) ∧ V.cell? ⟨bv, ov + x * 3, none⟩ = some (.string v.name) ∧ V.cell? ⟨bv, ov + x * 3 + 1, none⟩ = some (.int .i64 v.lo) ∧ V.cell? ⟨bv, ov + x * 3 + 2, none⟩ = some (.int .i64 v.hi) ∧ Below wr.heap.size wr V) := Bo.next hS0.out hbV
      have HTV : Hid (Below W.heap.size W V) := hT.out.trans (hbV.mono hT.out.size)
      obtain ⟨g0, g3, g1, _, _, _, _, _⟩ := hSV.out
      clear hbw hbV
      by_cases hpos : 0 < tc
      · have hposI : decide (0 < tc) = true := by simpa using hpos
        have hw1 : IntKind.i64.wrap (tc * v.lo) = tc * v.lo := wrap_ok (by omega) (by omega)
        have hw2 : IntKind.i64.wrap (s + tc * v.lo) = s + tc * v.lo := wrap_ok (by omega) (by omega)
        rw [if_pos hpos] at hnx
        go_wp2_with fail
        go_region_held3 (fun w' => w'.cell? ⟨w.heap.size, 0, none⟩ = some (.slice (some ⟨bv, ov, none⟩) m.vars.length vp) ∧ w'.cell? ⟨w.heap.size, 3, none⟩ = some (.slice (some ⟨b, off, none⟩) m.goal.length gp) ∧ w'.cell? ⟨b, off + k * 2, none⟩ = some (.int .i64 tc) ∧ w'.cell? ⟨b, off + k * 2 + 1, none⟩ = some (.int .i64 (x : Int)) ∧ w'.cell? ⟨bv, ov + x * 3, none⟩ = some (.string v.name) ∧ w'.cell? ⟨bv, ov + x * 3 + 1, none⟩ = some (.int .i64 v.lo) ∧ w'.cell? ⟨bv, ov + x * 3 + 2, none⟩ = some (.int .i64 v.hi) ∧ Below wr.heap.size wr w')
          (first | exact Bo.next hS0.out (Below.refl _ _).drew | exact Bo.next hSV.out (Below.refl _ _).drew | exact Bo.next (by assumption) ((Below.refl _ _).alloc (Nat.le_refl _) _) | exact Bo.next (by assumption) (by assumption) | assumption)
          (fail)
        rename_i hHeld
        clear hHeld
        go_wp2_with fail
        go_quiet (fail)
        go_wp2
        go_roundw
        case rel => exact ⟨k + 1, by go_num, by omega, by rw [hnx.out], below_drewN HTV.out _⟩
        case measure => simp [intOf]; omega
      · have hposI : decide (0 < tc) = false := by simpa using hpos
        have hw1 : IntKind.i64.wrap (tc * v.hi) = tc * v.hi := wrap_ok (by omega) (by omega)
        have hw2 : IntKind.i64.wrap (s + tc * v.hi) = s + tc * v.hi := wrap_ok (by omega) (by omega)
        rw [if_neg hpos] at hnx
        go_wp2_with fail
        go_region_held3 (fun w' => w'.cell? ⟨w.heap.size, 0, none⟩ = some (.slice (some ⟨bv, ov, none⟩) m.vars.length vp) ∧ w'.cell? ⟨w.heap.size, 3, none⟩ = some (.slice (some ⟨b, off, none⟩) m.goal.length gp) ∧ w'.cell? ⟨b, off + k * 2, none⟩ = some (.int .i64 tc) ∧ w'.cell? ⟨b, off + k * 2 + 1, none⟩ = some (.int .i64 (x : Int)) ∧ w'.cell? ⟨bv, ov + x * 3, none⟩ = some (.string v.name) ∧ w'.cell? ⟨bv, ov + x * 3 + 1, none⟩ = some (.int .i64 v.lo) ∧ w'.cell? ⟨bv, ov + x * 3 + 2, none⟩ = some (.int .i64 v.hi) ∧ Below wr.heap.size wr w')
          (first | exact Bo.next hS0.out (Below.refl _ _).drew | exact Bo.next hSV.out (Below.refl _ _).drew | exact Bo.next (by assumption) ((Below.refl _ _).alloc (Nat.le_refl _) _) | exact Bo.next (by assumption) (by assumption) | assumption)
          (fail)
        rename_i hHeld
        clear hHeld
        go_wp2_with fail
        go_quiet (fail)
        go_wp2
        go_roundw
        case rel => exact ⟨k + 1, by go_num, by omega, by rw [hnx.out], below_drewN HTV.out _⟩
        case measure => simp [intOf]; omega
    · have hkI : ¬ (k : Int) < (m.goal.length : Int) := by omega
      have hte : m.goal.take k = m.goal := List.take_of_length_le (by omega)
      rw [hte]
      go_wp2_with fail
      go_ret
      exact ⟨ret_int hres.out.symm, HB.out.trans (hT.out.mono HB.out.size)⟩
set_option maxRecDepth 10000 in
set_option maxHeartbeats 2000000 in
theorem refBound_ceil (m : Md.Mo) (vv vc vg : Value) (w : World) (h : MoAt w m vv vc vg) : Calls Tryz.prog 45 #[moVal m vv vc vg, .int .i64 (-1)] w fun e w' => e = .returned (.int .i64 (Md.ceil m)) ∧ Below w.heap.size w w' := by
  obtain ⟨W, hW⟩ : ∃ W, w.alloc (.cells #[vv, vc, .bool m.has, vg] 26) = W := ⟨_, rfl⟩
  have hbW : Below w.heap.size w W := by rw [← hW]; exact (Below.refl _ _).alloc (Nat.le_refl _) _
  have hN : W.heap[w.heap.size]? = some (.cells #[vv, vc, .bool m.has, vg] 26) := by rw [← hW]; exact heap_alloc_new w _
  have HB : Hid (Below w.heap.size w W) := hbW
  have HM : Hid (∀ w', Below W.heap.size W w' → MoAt w' m vv vc vg) := fun w' hb => (h.below hbW).below hb
  have HN : Hid (∀ w', Below W.heap.size W w' → w'.heap[w.heap.size]? = some (.cells #[vv, vc, .bool m.has, vg] 26)) := fun w' hb => (hb.block _ (Array.getElem?_eq_some_iff.1 hN).1).trans hN
  have HNL : Hid (w.heap.size < W.heap.size) := (Array.getElem?_eq_some_iff.1 hN).1
  obtain ⟨va, vp, rfl, hvm⟩ := h.v.form
  obtain ⟨ca, cp, rfl, hcm⟩ := h.c.form
  obtain ⟨ga, gp, rfl, hgm⟩ := h.g.form
  unfold maxLen at hvm hcm hgm
  obtain ⟨⟨p0, p1, p2, p3⟩, _⟩ := box4 hN
  have H38 : Hid (Calls Tryz.prog 38 #[.agg #[.slice va m.vars.length vp, .slice ca m.cons.length cp, .bool m.has, .slice ga m.goal.length gp]] W fun e w' => e = .returned (.bool (Md.rightB m)) ∧ Below W.heap.size W w') := refRight_any m _ _ _ W (HM.out W (Below.refl _ _))
  unfold moVal
  clear hbW hN
  cases hr : Md.rightB m
  · have hres : Hid (Md.ceil m = 0) := by show _ = _; unfold Md.ceil; rw [if_neg (by simpa [Md.rightB] using hr)]
    rw [hr] at H38
    clear hr h
    go_enter Tryz.func45, Tryz.ntmps45
    go_wp2_with (go_at_call 38; refine calls_at H38.out (by with_reducible rfl) (by with_reducible rfl) ?_; rintro e w1 ⟨rfl, hb1⟩)
    go_ret
    exact ⟨ret_int hres.out.symm, HB.out.trans (hb1.mono HB.out.size)⟩
  have HR : Hid (Md.Right m) := Md.rightB_of hr
  have hres : Hid (Md.ceil m = Md.topS m.vars m.goal) := by show _ = _; unfold Md.ceil; rw [if_pos (by simpa [Md.rightB] using hr)]
  rw [hr] at H38
  obtain ⟨a', c', hve, _, _, hvo⟩ := h.v
  injection hve with e1 e2 e3
  subst e1 e3
  obtain ⟨a', c', hge, _, hgo⟩ := h.g
  injection hge with e4 e5 e6
  subst e4 e6
  have HVO : Hid (0 < m.vars.length → ∃ b off, va = some ⟨b, off, none⟩ ∧ b < w.heap.size ∧ ∀ j (h : j < m.vars.length), w.cell? ⟨b, off + j * 3, none⟩ = some (.string m.vars[j].name) ∧ w.cell? ⟨b, off + j * 3 + 1, none⟩ = some (.int .i64 m.vars[j].lo) ∧ w.cell? ⟨b, off + j * 3 + 2, none⟩ = some (.int .i64 m.vars[j].hi)) := hvo
  have HGO : Hid (0 < m.goal.length → ∃ b off, ga = some ⟨b, off, none⟩ ∧ b < w.heap.size ∧ ∀ j (h : j < m.goal.length), w.cell? ⟨b, off + j * 2, none⟩ = some (.int .i64 m.goal[j].1) ∧ w.cell? ⟨b, off + j * 2 + 1, none⟩ = some (.int .i64 m.goal[j].2)) := hgo
  have HG : Hid ((∀ t ∈ m.goal, 0 ≤ t.2 ∧ t.2 < m.vars.length) ∧ (∀ t ∈ m.goal, -1000000 ≤ t.1 ∧ t.1 ≤ 1000000) ∧ m.goal.length ≤ 64 ∧ ∀ t ∈ m.goal, t.1 ≠ 0) := by
    have := Md.goal_of HR.out.goal
    exact ⟨this.2.2.1, fun t ht => (this.2.2.2 t ht).2, this.2.1, fun t ht => (this.2.2.2 t ht).1⟩
  have HV : Hid (∀ v ∈ m.vars, Md.boundsB v.lo v.hi = true) := fun v hv => (HR.out.var v hv).2
  clear hr h hvo hgo e2 e5
  go_enter Tryz.func45, Tryz.ntmps45
  go_wp2_with (go_at_call 38; refine calls_at H38.out (by with_reducible rfl) (by with_reducible rfl) ?_; rintro e w1 ⟨rfl, hb1⟩; have HB1 : Hid (Below W.heap.size W w1) := hb1; clear hb1 p0 p1 p2 p3; obtain ⟨⟨p0, p1, p2, p3⟩, _⟩ := box4 (HN.out _ HB1.out))
  go_loopw [5, 6] (fun sv iv wr => ∃ k : Nat, iv = .int .i64 (k : Int) ∧ k ≤ m.goal.length ∧ sv = .int .i64 (Md.topS m.vars (m.goal.take k)) ∧ Hid (Below W.heap.size W wr)) (fun _ iv _ => m.goal.length - (intOf iv).toNat)
  case atStart => exact ⟨0, rfl, Nat.zero_le _, by simp [Md.topS], HB1⟩
  case round =>
    obtain ⟨k, rfl, hk, rfl, hT⟩ := hrel
    clear p0 p1 p2 p3
    obtain ⟨⟨p0, p1, p2, p3⟩, _⟩ := box4 (HN.out _ hT.out)
    by_cases hlt : k < m.goal.length
    · have hkI : (k : Int) < (m.goal.length : Int) := by omega
      obtain ⟨b, off, rfl, hb, hc⟩ := HGO.out (by omega)
      obtain ⟨c1, c2⟩ := hc k hlt
      have hbw : Below w.heap.size w wr := HB.out.trans (hT.out.mono HB.out.size)
      have d1 := (hbw.cell (p := ⟨b, off + k * 2, none⟩) hb).trans c1
      have d2 := (hbw.cell (p := ⟨b, off + k * 2 + 1, none⟩) hb).trans c2
      obtain ⟨x, hx, hxl⟩ := nat_of (HG.out.1 _ (List.getElem_mem hlt))
      have hxI : (x : Int) < (m.vars.length : Int) := by omega
      have hx0 : (0 : Int) ≤ (x : Int) := by omega
      have hk0 : (0 : Int) ≤ (k : Int) := by omega
      obtain ⟨bv, ov, rfl, hbv, hcv⟩ := HVO.out (by omega)
      obtain ⟨v0, v1, v2⟩ := hcv x hxl
      have f0 := (hbw.cell (p := ⟨bv, ov + x * 3, none⟩) hbv).trans v0
      have f1 := (hbw.cell (p := ⟨bv, ov + x * 3 + 1, none⟩) hbv).trans v1
      have f2 := (hbw.cell (p := ⟨bv, ov + x * 3 + 2, none⟩) hbv).trans v2
      have hck := HG.out.2.1 _ (List.getElem_mem hlt)
      have hc0 := HG.out.2.2.2 _ (List.getElem_mem hlt)
      have hvb := Md.bounds_of (HV.out _ (List.getElem_mem hxl))
      have hm1 := Md.mul_bd hck.1 hck.2 hvb.1.1 hvb.1.2
      have hm2 := Md.mul_bd hck.1 hck.2 hvb.2.1.1 hvb.2.1.2
      have hsb := Md.top_bd HV.out HG.out.2.1 k (by omega)
      have hk64 : k < 64 := Nat.lt_of_lt_of_le hlt HG.out.2.2.1
      have hnx : Hid (Md.topS m.vars (m.goal.take (k + 1)) = Md.topS m.vars (m.goal.take k) + (if 0 < m.goal[k].1 then m.goal[k].1 * m.vars[x].hi else m.goal[k].1 * m.vars[x].lo)) := by
        show _ = _
        rw [Md.top_next hlt, hx, Md.varAt_get hxl]
      rw [hx] at d2
      clear hc c1 c2 hcv v0 v1 v2 hx hvb
      generalize m.goal[k].1 = tc at *
      generalize m.vars[x] = v at *
      generalize Md.topS m.vars (m.goal.take k) = s at *
      have hS0 : Hid (wr.cell? ⟨w.heap.size, 0, none⟩ = some (.slice (some ⟨bv, ov, none⟩) m.vars.length vp) ∧ wr.cell? ⟨w.heap.size, 3, none⟩ = some (.slice (some ⟨b, off, none⟩) m.goal.length gp) ∧ wr.cell? ⟨b, off + k * 2, none⟩ = some (.int .i64 tc) ∧ wr.cell? ⟨b, off + k * 2 + 1, none⟩ = some (.int .i64 (x : Int)) ∧ wr.cell? ⟨bv, ov + x * 3, none⟩ = some (.string v.name) ∧ wr.cell? ⟨bv, ov + x * 3 + 1, none⟩ = some (.int .i64 v.lo) ∧ wr.cell? ⟨bv, ov + x * 3 + 2, none⟩ = some (.int .i64 v.hi) ∧ Below wr.heap.size wr wr) := ⟨p0, p3, d1, d2, f0, f1, f2, Below.refl _ _⟩
      obtain ⟨hm1a, hm1b⟩ := hm1
      obtain ⟨hm2a, hm2b⟩ := hm2
      obtain ⟨hsba, hsbb⟩ := hsb
      obtain ⟨hcka, hckb⟩ := hck
      obtain ⟨V, hV⟩ : ∃ V, wr.alloc (.cells #[.string v.name, .int .i64 v.lo, .int .i64 v.hi] 78) = V := ⟨_, rfl⟩
      have hbV : Below wr.heap.size wr V := by rw [← hV]; exact (Below.refl _ _).alloc (Nat.le_refl _) _
      have q1 : V.cell? ⟨wr.heap.size, 1, none⟩ = some (.int .i64 v.lo) := by rw [← hV]; simp
      have q2 : V.cell? ⟨wr.heap.size, 2, none⟩ = some (.int .i64 v.hi) := by rw [← hV]; simp
      have hSV : Hid (V.cell? ⟨w.heap.size, 0, none⟩ = some (.slice (some ⟨bv, ov, none⟩) m.vars.length vp) ∧ V.cell? ⟨w.heap.size, 3, none⟩ = some (.slice (some ⟨b, off, none⟩) m.goal.length gp) ∧ V.cell? ⟨b, off + k * 2, none⟩ = some (.int .i64 tc) ∧ V.cell? ⟨b, off + k * 2 + 1, none⟩ = some (.int .i64 (x : Int)) ∧ V.cell? ⟨bv, ov + x * 3, none⟩ = some (.string v.name) ∧ V.cell? ⟨bv, ov + x * 3 + 1, none⟩ = some (.int .i64 v.lo) ∧ V.cell? ⟨bv, ov + x * 3 + 2, none⟩ = some (.int .i64 v.hi) ∧ Below wr.heap.size wr V) := Bo.next hS0.out hbV
      have HTV : Hid (Below W.heap.size W V) := hT.out.trans (hbV.mono hT.out.size)
      obtain ⟨g0, g3, g1, _, _, _, _, _⟩ := hSV.out
      clear hbw hbV
      by_cases hpos : 0 < tc
      · have hposI : decide (0 < -tc) = false := decide_eq_false (by omega)
        have hw1 : IntKind.i64.wrap (tc * v.hi) = tc * v.hi := wrap_ok (by omega) (by omega)
        have hw2 : IntKind.i64.wrap (s + tc * v.hi) = s + tc * v.hi := wrap_ok (by omega) (by omega)
        rw [if_pos hpos] at hnx
        go_wp2_with fail
        go_region_held3 (fun w' => w'.cell? ⟨w.heap.size, 0, none⟩ = some (.slice (some ⟨bv, ov, none⟩) m.vars.length vp) ∧ w'.cell? ⟨w.heap.size, 3, none⟩ = some (.slice (some ⟨b, off, none⟩) m.goal.length gp) ∧ w'.cell? ⟨b, off + k * 2, none⟩ = some (.int .i64 tc) ∧ w'.cell? ⟨b, off + k * 2 + 1, none⟩ = some (.int .i64 (x : Int)) ∧ w'.cell? ⟨bv, ov + x * 3, none⟩ = some (.string v.name) ∧ w'.cell? ⟨bv, ov + x * 3 + 1, none⟩ = some (.int .i64 v.lo) ∧ w'.cell? ⟨bv, ov + x * 3 + 2, none⟩ = some (.int .i64 v.hi) ∧ Below wr.heap.size wr w')
          (first | exact Bo.next hS0.out (Below.refl _ _).drew | exact Bo.next hSV.out (Below.refl _ _).drew | exact Bo.next (by assumption) ((Below.refl _ _).alloc (Nat.le_refl _) _) | exact Bo.next (by assumption) (by assumption) | assumption)
          (fail)
        rename_i hHeld
        clear hHeld
        go_wp2_with fail
        go_quiet (fail)
        go_wp2
        go_roundw
        case rel => exact ⟨k + 1, by go_num, by omega, by rw [hnx.out], below_drewN HTV.out _⟩
        case measure => simp [intOf]; omega
      · have hposI : decide (0 < -tc) = true := decide_eq_true (by omega)
        have hw1 : IntKind.i64.wrap (tc * v.lo) = tc * v.lo := wrap_ok (by omega) (by omega)
        have hw2 : IntKind.i64.wrap (s + tc * v.lo) = s + tc * v.lo := wrap_ok (by omega) (by omega)
        rw [if_neg hpos] at hnx
        go_wp2_with fail
        go_region_held3 (fun w' => w'.cell? ⟨w.heap.size, 0, none⟩ = some (.slice (some ⟨bv, ov, none⟩) m.vars.length vp) ∧ w'.cell? ⟨w.heap.size, 3, none⟩ = some (.slice (some ⟨b, off, none⟩) m.goal.length gp) ∧ w'.cell? ⟨b, off + k * 2, none⟩ = some (.int .i64 tc) ∧ w'.cell? ⟨b, off + k * 2 + 1, none⟩ = some (.int .i64 (x : Int)) ∧ w'.cell? ⟨bv, ov + x * 3, none⟩ = some (.string v.name) ∧ w'.cell? ⟨bv, ov + x * 3 + 1, none⟩ = some (.int .i64 v.lo) ∧ w'.cell? ⟨bv, ov + x * 3 + 2, none⟩ = some (.int .i64 v.hi) ∧ Below wr.heap.size wr w')
          (first | exact Bo.next hS0.out (Below.refl _ _).drew | exact Bo.next hSV.out (Below.refl _ _).drew | exact Bo.next (by assumption) ((Below.refl _ _).alloc (Nat.le_refl _) _) | exact Bo.next (by assumption) (by assumption) | assumption)
          (fail)
        rename_i hHeld
        clear hHeld
        go_wp2_with fail
        go_quiet (fail)
        go_wp2
        go_roundw
        case rel => exact ⟨k + 1, by go_num, by omega, by rw [hnx.out], below_drewN HTV.out _⟩
        case measure => simp [intOf]; omega
    · have hkI : ¬ (k : Int) < (m.goal.length : Int) := by omega
      have hte : m.goal.take k = m.goal := List.take_of_length_le (by omega)
      rw [hte]
      go_wp2_with fail
      go_ret
      exact ⟨ret_int hres.out.symm, HB.out.trans (hT.out.mono HB.out.size)⟩

set_option maxRecDepth 10000 in
set_option maxHeartbeats 400000 in
theorem ref_floor (m : Md.Mo) (vv vc vg : Value) (w : World) (h : MoAt w m vv vc vg) : Calls Tryz.prog 13 #[moVal m vv vc vg] w fun e w' => e = .returned (.int .i64 (Md.floor m)) ∧ Below w.heap.size w w' := by
  obtain ⟨W, hW⟩ : ∃ W, w.alloc (.cells #[vv, vc, .bool m.has, vg] 26) = W := ⟨_, rfl⟩
  have hbW : Below w.heap.size w W := by rw [← hW]; exact (Below.refl _ _).alloc (Nat.le_refl _) _
  have hN : W.heap[w.heap.size]? = some (.cells #[vv, vc, .bool m.has, vg] 26) := by rw [← hW]; exact heap_alloc_new w _
  have HB : Hid (Below w.heap.size w W) := hbW
  have HM : Hid (∀ w', Below W.heap.size W w' → MoAt w' m vv vc vg) := fun w' hb => (h.below hbW).below hb
  have HN : Hid (∀ w', Below W.heap.size W w' → w'.heap[w.heap.size]? = some (.cells #[vv, vc, .bool m.has, vg] 26)) := fun w' hb => (hb.block _ (Array.getElem?_eq_some_iff.1 hN).1).trans hN
  have HNL : Hid (w.heap.size < W.heap.size) := (Array.getElem?_eq_some_iff.1 hN).1
  obtain ⟨va, vp, rfl, hvm⟩ := h.v.form
  obtain ⟨ca, cp, rfl, hcm⟩ := h.c.form
  obtain ⟨ga, gp, rfl, hgm⟩ := h.g.form
  unfold maxLen at hvm hcm hgm
  obtain ⟨⟨p0, p1, p2, p3⟩, _⟩ := box4 hN
  have H45 : Hid (Calls Tryz.prog 45 #[.agg #[.slice va m.vars.length vp, .slice ca m.cons.length cp, .bool m.has, .slice ga m.goal.length gp], .int .i64 1] W fun e w' => e = .returned (.int .i64 (Md.floor m)) ∧ Below W.heap.size W w') := refBound_floor m _ _ _ W (HM.out W (Below.refl _ _))
  unfold moVal
  clear h hbW hN
  go_enter Tryz.func13, Tryz.ntmps13
  go_wp2_with (go_at_call 45; refine calls_at H45.out (by with_reducible rfl) (by with_reducible rfl) ?_; rintro e w1 ⟨rfl, hb1⟩)
  go_ret
  exact ⟨rfl, HB.out.trans (hb1.mono HB.out.size)⟩

set_option maxRecDepth 10000 in
set_option maxHeartbeats 400000 in
theorem ref_ceil (m : Md.Mo) (vv vc vg : Value) (w : World) (h : MoAt w m vv vc vg) : Calls Tryz.prog 15 #[moVal m vv vc vg] w fun e w' => e = .returned (.int .i64 (Md.ceil m)) ∧ Below w.heap.size w w' := by
  obtain ⟨W, hW⟩ : ∃ W, w.alloc (.cells #[vv, vc, .bool m.has, vg] 26) = W := ⟨_, rfl⟩
  have hbW : Below w.heap.size w W := by rw [← hW]; exact (Below.refl _ _).alloc (Nat.le_refl _) _
  have hN : W.heap[w.heap.size]? = some (.cells #[vv, vc, .bool m.has, vg] 26) := by rw [← hW]; exact heap_alloc_new w _
  have HB : Hid (Below w.heap.size w W) := hbW
  have HM : Hid (∀ w', Below W.heap.size W w' → MoAt w' m vv vc vg) := fun w' hb => (h.below hbW).below hb
  have HN : Hid (∀ w', Below W.heap.size W w' → w'.heap[w.heap.size]? = some (.cells #[vv, vc, .bool m.has, vg] 26)) := fun w' hb => (hb.block _ (Array.getElem?_eq_some_iff.1 hN).1).trans hN
  have HNL : Hid (w.heap.size < W.heap.size) := (Array.getElem?_eq_some_iff.1 hN).1
  obtain ⟨va, vp, rfl, hvm⟩ := h.v.form
  obtain ⟨ca, cp, rfl, hcm⟩ := h.c.form
  obtain ⟨ga, gp, rfl, hgm⟩ := h.g.form
  unfold maxLen at hvm hcm hgm
  obtain ⟨⟨p0, p1, p2, p3⟩, _⟩ := box4 hN
  have H45 : Hid (Calls Tryz.prog 45 #[.agg #[.slice va m.vars.length vp, .slice ca m.cons.length cp, .bool m.has, .slice ga m.goal.length gp], .int .i64 (-1)] W fun e w' => e = .returned (.int .i64 (Md.ceil m)) ∧ Below W.heap.size W w') := refBound_ceil m _ _ _ W (HM.out W (Below.refl _ _))
  unfold moVal
  clear h hbW hN
  go_enter Tryz.func15, Tryz.ntmps15
  go_wp2_with (go_at_call 45; refine calls_at H45.out (by with_reducible rfl) (by with_reducible rfl) ?_; rintro e w1 ⟨rfl, hb1⟩)
  go_ret
  exact ⟨rfl, HB.out.trans (hb1.mono HB.out.size)⟩
end Go.Proofs.YtmhfabnpfkkbcaaGreat

namespace Go.Proofs.YtmhfabnpfkkbcaaGreat
open Go.RowKit

theorem var_fields : (Tryz.prog.fieldsOf 78).toList.map (fun f => (f.name, f.type, f.offset)) = [("Name", 9, 0), ("Lo", 3, 1), ("Hi", 3, 2)] := by kernel_rfl
theorem part3 (a1 a2 a3 : Value) (w : World) : (part 9 #[a1, a2, a3] 0).run Tryz.prog w = .ok a1 w ∧ (part 3 #[a1, a2, a3] 1).run Tryz.prog w = .ok a2 w ∧ (part 3 #[a1, a2, a3] 2).run Tryz.prog w = .ok a3 w := ⟨by kernel_rfl, by kernel_rfl, by kernel_rfl⟩
set_option maxHeartbeats 400000 in
theorem var_neq (s : ByteArray) (a b : Int) (w : World) : (binOp .neq 78 (.agg #[.string s, .int .i64 a, .int .i64 b]) (.agg #[.string s, .int .i64 a, .int .i64 b])).run Tryz.prog w = .ok (.bool false) w := by
  rw [run_neq_struct, run_equalIn_struct (d := 9999) (ht := by kernel_rfl) (hp := by kernel_rfl)]
  have hf := var_fields
  generalize (Tryz.prog.fieldsOf 78).toList = l at *
  simp only [List.map_eq_cons_iff, List.map_eq_nil_iff, Prod.mk.injEq] at hf
  obtain ⟨f1, l1, rfl, ⟨n1, t1, o1⟩, f2, l2, rfl, ⟨n2, t2, o2⟩, f3, l3, rfl, ⟨n3, t3, o3⟩, rfl⟩ := hf
  have pa := part3 (.string s) (.int .i64 a) (.int .i64 b) w
  have eq := fun a b => run_equalIn_int (P := Tryz.prog) w 9998 3 .i64 .i64 a b under3
  have eqs := fun a b => run_equalIn_string (P := Tryz.prog) w 9998 9 a b Tryz.underlying9
  simp only [Op.eqFields, n1, n2, n3, t1, t2, t3, o1, o2, o3, Sem.run_bind, pa, eq, eqs, Result.andThen_ok, Sem.run_ite, Sem.run_pure]
  simp [Result.andThen]

theorem Sn.next {V w' w'' : World} {c : Md.Cn} {N1 N2 n cp cp2 b1 o1 b2 o2 i : Nat} {ta ta2 xa xa2 ba ba2 ra ra2 : Option Addr} {tc tc2 xc xc2 bc bc2 rc rc2 : Nat} (h : w'.cell? ⟨N1, 1, none⟩ = some (.slice (some ⟨b1, o1, none⟩) n cp) ∧ w'.cell? ⟨N2, 1, none⟩ = some (.slice (some ⟨b2, o2, none⟩) n cp2) ∧ w'.cell? ⟨b1, o1 + i * 10, none⟩ = some (.int .i64 c.kind) ∧ w'.cell? ⟨b1, o1 + i * 10 + 1, none⟩ = some (.int .i64 c.op) ∧ w'.cell? ⟨b1, o1 + i * 10 + 2, none⟩ = some (.slice ta c.terms.length tc) ∧ w'.cell? ⟨b1, o1 + i * 10 + 3, none⟩ = some (.int .i64 c.k) ∧ w'.cell? ⟨b1, o1 + i * 10 + 4, none⟩ = some (.int .i64 c.v) ∧ w'.cell? ⟨b1, o1 + i * 10 + 5, none⟩ = some (.int .i64 c.x) ∧ w'.cell? ⟨b1, o1 + i * 10 + 6, none⟩ = some (.int .i64 c.y) ∧ w'.cell? ⟨b1, o1 + i * 10 + 7, none⟩ = some (.slice xa c.xs.length xc) ∧ w'.cell? ⟨b1, o1 + i * 10 + 8, none⟩ = some (.slice ba c.table.length bc) ∧ w'.cell? ⟨b1, o1 + i * 10 + 9, none⟩ = some (.slice ra c.rows.length rc) ∧ w'.cell? ⟨b2, o2 + i * 10, none⟩ = some (.int .i64 c.kind) ∧ w'.cell? ⟨b2, o2 + i * 10 + 1, none⟩ = some (.int .i64 c.op) ∧ w'.cell? ⟨b2, o2 + i * 10 + 2, none⟩ = some (.slice ta2 c.terms.length tc2) ∧ w'.cell? ⟨b2, o2 + i * 10 + 3, none⟩ = some (.int .i64 c.k) ∧ w'.cell? ⟨b2, o2 + i * 10 + 4, none⟩ = some (.int .i64 c.v) ∧ w'.cell? ⟨b2, o2 + i * 10 + 5, none⟩ = some (.int .i64 c.x) ∧ w'.cell? ⟨b2, o2 + i * 10 + 6, none⟩ = some (.int .i64 c.y) ∧ w'.cell? ⟨b2, o2 + i * 10 + 7, none⟩ = some (.slice xa2 c.xs.length xc2) ∧ w'.cell? ⟨b2, o2 + i * 10 + 8, none⟩ = some (.slice ba2 c.table.length bc2) ∧ w'.cell? ⟨b2, o2 + i * 10 + 9, none⟩ = some (.slice ra2 c.rows.length rc2) ∧ CnAt w' c (.slice ta c.terms.length tc) (.slice xa c.xs.length xc) (.slice ba c.table.length bc) (.slice ra c.rows.length rc) ∧ CnAt w' c (.slice ta2 c.terms.length tc2) (.slice xa2 c.xs.length xc2) (.slice ba2 c.table.length bc2) (.slice ra2 c.rows.length rc2) ∧ Below V.heap.size V w') (hb : Below w'.heap.size w' w'') : w''.cell? ⟨N1, 1, none⟩ = some (.slice (some ⟨b1, o1, none⟩) n cp) ∧ w''.cell? ⟨N2, 1, none⟩ = some (.slice (some ⟨b2, o2, none⟩) n cp2) ∧ w''.cell? ⟨b1, o1 + i * 10, none⟩ = some (.int .i64 c.kind) ∧ w''.cell? ⟨b1, o1 + i * 10 + 1, none⟩ = some (.int .i64 c.op) ∧ w''.cell? ⟨b1, o1 + i * 10 + 2, none⟩ = some (.slice ta c.terms.length tc) ∧ w''.cell? ⟨b1, o1 + i * 10 + 3, none⟩ = some (.int .i64 c.k) ∧ w''.cell? ⟨b1, o1 + i * 10 + 4, none⟩ = some (.int .i64 c.v) ∧ w''.cell? ⟨b1, o1 + i * 10 + 5, none⟩ = some (.int .i64 c.x) ∧ w''.cell? ⟨b1, o1 + i * 10 + 6, none⟩ = some (.int .i64 c.y) ∧ w''.cell? ⟨b1, o1 + i * 10 + 7, none⟩ = some (.slice xa c.xs.length xc) ∧ w''.cell? ⟨b1, o1 + i * 10 + 8, none⟩ = some (.slice ba c.table.length bc) ∧ w''.cell? ⟨b1, o1 + i * 10 + 9, none⟩ = some (.slice ra c.rows.length rc) ∧ w''.cell? ⟨b2, o2 + i * 10, none⟩ = some (.int .i64 c.kind) ∧ w''.cell? ⟨b2, o2 + i * 10 + 1, none⟩ = some (.int .i64 c.op) ∧ w''.cell? ⟨b2, o2 + i * 10 + 2, none⟩ = some (.slice ta2 c.terms.length tc2) ∧ w''.cell? ⟨b2, o2 + i * 10 + 3, none⟩ = some (.int .i64 c.k) ∧ w''.cell? ⟨b2, o2 + i * 10 + 4, none⟩ = some (.int .i64 c.v) ∧ w''.cell? ⟨b2, o2 + i * 10 + 5, none⟩ = some (.int .i64 c.x) ∧ w''.cell? ⟨b2, o2 + i * 10 + 6, none⟩ = some (.int .i64 c.y) ∧ w''.cell? ⟨b2, o2 + i * 10 + 7, none⟩ = some (.slice xa2 c.xs.length xc2) ∧ w''.cell? ⟨b2, o2 + i * 10 + 8, none⟩ = some (.slice ba2 c.table.length bc2) ∧ w''.cell? ⟨b2, o2 + i * 10 + 9, none⟩ = some (.slice ra2 c.rows.length rc2) ∧ CnAt w'' c (.slice ta c.terms.length tc) (.slice xa c.xs.length xc) (.slice ba c.table.length bc) (.slice ra c.rows.length rc) ∧ CnAt w'' c (.slice ta2 c.terms.length tc2) (.slice xa2 c.xs.length xc2) (.slice ba2 c.table.length bc2) (.slice ra2 c.rows.length rc2) ∧ Below V.heap.size V w'' := by
  obtain ⟨m1, m2, p0, p1, p2, p3, p4, p5, p6, p7, p8, p9, r0, r1, r2, r3, r4, r5, r6, r7, r8, r9, h1, h2, h3⟩ := h
  exact ⟨one_next hb m1, one_next hb m2, one_next hb p0, one_next hb p1, one_next hb p2, one_next hb p3, one_next hb p4, one_next hb p5, one_next hb p6, one_next hb p7, one_next hb p8, one_next hb p9, one_next hb r0, one_next hb r1, one_next hb r2, one_next hb r3, one_next hb r4, one_next hb r5, one_next hb r6, one_next hb r7, one_next hb r8, one_next hb r9, h1.below hb, h2.below hb, h3.trans (hb.mono h3.size)⟩
theorem Sn.cns {V w' : World} {c : Md.Cn} {N1 N2 n cp cp2 b1 o1 b2 o2 i : Nat} {ta ta2 xa xa2 ba ba2 ra ra2 : Option Addr} {tc tc2 xc xc2 bc bc2 rc rc2 : Nat} (h : w'.cell? ⟨N1, 1, none⟩ = some (.slice (some ⟨b1, o1, none⟩) n cp) ∧ w'.cell? ⟨N2, 1, none⟩ = some (.slice (some ⟨b2, o2, none⟩) n cp2) ∧ w'.cell? ⟨b1, o1 + i * 10, none⟩ = some (.int .i64 c.kind) ∧ w'.cell? ⟨b1, o1 + i * 10 + 1, none⟩ = some (.int .i64 c.op) ∧ w'.cell? ⟨b1, o1 + i * 10 + 2, none⟩ = some (.slice ta c.terms.length tc) ∧ w'.cell? ⟨b1, o1 + i * 10 + 3, none⟩ = some (.int .i64 c.k) ∧ w'.cell? ⟨b1, o1 + i * 10 + 4, none⟩ = some (.int .i64 c.v) ∧ w'.cell? ⟨b1, o1 + i * 10 + 5, none⟩ = some (.int .i64 c.x) ∧ w'.cell? ⟨b1, o1 + i * 10 + 6, none⟩ = some (.int .i64 c.y) ∧ w'.cell? ⟨b1, o1 + i * 10 + 7, none⟩ = some (.slice xa c.xs.length xc) ∧ w'.cell? ⟨b1, o1 + i * 10 + 8, none⟩ = some (.slice ba c.table.length bc) ∧ w'.cell? ⟨b1, o1 + i * 10 + 9, none⟩ = some (.slice ra c.rows.length rc) ∧ w'.cell? ⟨b2, o2 + i * 10, none⟩ = some (.int .i64 c.kind) ∧ w'.cell? ⟨b2, o2 + i * 10 + 1, none⟩ = some (.int .i64 c.op) ∧ w'.cell? ⟨b2, o2 + i * 10 + 2, none⟩ = some (.slice ta2 c.terms.length tc2) ∧ w'.cell? ⟨b2, o2 + i * 10 + 3, none⟩ = some (.int .i64 c.k) ∧ w'.cell? ⟨b2, o2 + i * 10 + 4, none⟩ = some (.int .i64 c.v) ∧ w'.cell? ⟨b2, o2 + i * 10 + 5, none⟩ = some (.int .i64 c.x) ∧ w'.cell? ⟨b2, o2 + i * 10 + 6, none⟩ = some (.int .i64 c.y) ∧ w'.cell? ⟨b2, o2 + i * 10 + 7, none⟩ = some (.slice xa2 c.xs.length xc2) ∧ w'.cell? ⟨b2, o2 + i * 10 + 8, none⟩ = some (.slice ba2 c.table.length bc2) ∧ w'.cell? ⟨b2, o2 + i * 10 + 9, none⟩ = some (.slice ra2 c.rows.length rc2) ∧ CnAt w' c (.slice ta c.terms.length tc) (.slice xa c.xs.length xc) (.slice ba c.table.length bc) (.slice ra c.rows.length rc) ∧ CnAt w' c (.slice ta2 c.terms.length tc2) (.slice xa2 c.xs.length xc2) (.slice ba2 c.table.length bc2) (.slice ra2 c.rows.length rc2) ∧ Below V.heap.size V w') : CnAt w' c (.slice ta c.terms.length tc) (.slice xa c.xs.length xc) (.slice ba c.table.length bc) (.slice ra c.rows.length rc) ∧ CnAt w' c (.slice ta2 c.terms.length tc2) (.slice xa2 c.xs.length xc2) (.slice ba2 c.table.length bc2) (.slice ra2 c.rows.length rc2) ∧ Below V.heap.size V w' := by
  obtain ⟨m1, m2, p0, p1, p2, p3, p4, p5, p6, p7, p8, p9, r0, r1, r2, r3, r4, r5, r6, r7, r8, r9, h⟩ := h
  exact h

set_option maxRecDepth 10000 in
set_option maxHeartbeats 4000000 in
theorem refSame_any (m : Md.Mo) (vv vc vg vv2 vc2 vg2 : Value) (w : World) (h : MoAt w m vv vc vg) (h2 : MoAt w m vv2 vc2 vg2) : Calls Tryz.prog 20 #[moVal m vv vc vg, moVal m vv2 vc2 vg2] w fun e w' => e = .returned (.bool true) ∧ Below w.heap.size w w' := by
  obtain ⟨va, vp, rfl, hvm, _, hvo⟩ := id h.v
  obtain ⟨ca, cp, rfl, hcm, hco⟩ := id h.c
  obtain ⟨ga, gp, rfl, hgm⟩ := h.g.form
  obtain ⟨va2, vp2, rfl, _, _, hvo2⟩ := id h2.v
  obtain ⟨ca2, cp2, rfl, _, hco2⟩ := id h2.c
  obtain ⟨ga2, gp2, rfl, _⟩ := h2.g.form
  unfold maxLen at hvm hcm hgm
  obtain ⟨W0, hW0⟩ : ∃ W, w.alloc (.cells #[.slice va m.vars.length vp, .slice ca m.cons.length cp, .bool m.has, .slice ga m.goal.length gp] 26) = W := ⟨_, rfl⟩
  have hb0 : Below w.heap.size w W0 := by rw [← hW0]; exact (Below.refl _ _).alloc (Nat.le_refl _) _
  have hN0 : W0.heap[w.heap.size]? = some (.cells #[.slice va m.vars.length vp, .slice ca m.cons.length cp, .bool m.has, .slice ga m.goal.length gp] 26) := by rw [← hW0]; exact heap_alloc_new w _
  have hs0 : W0.heap.size = w.heap.size + 1 := by rw [← hW0]; simp
  obtain ⟨W, hW⟩ : ∃ W, W0.alloc (.cells #[.slice va2 m.vars.length vp2, .slice ca2 m.cons.length cp2, .bool m.has, .slice ga2 m.goal.length gp2] 26) = W := ⟨_, rfl⟩
  have hb1 : Below W0.heap.size W0 W := by rw [← hW]; exact (Below.refl _ _).alloc (Nat.le_refl _) _
  have hbW : Below w.heap.size w W := hb0.trans (hb1.mono hb0.size)
  have hN1 : W.heap[w.heap.size]? = some (.cells #[.slice va m.vars.length vp, .slice ca m.cons.length cp, .bool m.has, .slice ga m.goal.length gp] 26) := (hb1.block _ (by omega)).trans hN0
  have hN2 : W.heap[w.heap.size + 1]? = some (.cells #[.slice va2 m.vars.length vp2, .slice ca2 m.cons.length cp2, .bool m.has, .slice ga2 m.goal.length gp2] 26) := by rw [← hs0, ← hW]; exact heap_alloc_new W0 _
  have HB : Hid (Below w.heap.size w W) := hbW
  have HN1 : Hid (∀ w', Below W.heap.size W w' → w'.heap[w.heap.size]? = some (.cells #[.slice va m.vars.length vp, .slice ca m.cons.length cp, .bool m.has, .slice ga m.goal.length gp] 26)) := fun w' hb => (hb.block _ (Array.getElem?_eq_some_iff.1 hN1).1).trans hN1
  have HN2 : Hid (∀ w', Below W.heap.size W w' → w'.heap[w.heap.size + 1]? = some (.cells #[.slice va2 m.vars.length vp2, .slice ca2 m.cons.length cp2, .bool m.has, .slice ga2 m.goal.length gp2] 26)) := fun w' hb => (hb.block _ (Array.getElem?_eq_some_iff.1 hN2).1).trans hN2
  have H55 : Hid (Calls Tryz.prog 55 #[.slice ga m.goal.length gp, .slice ga2 m.goal.length gp2] W fun e w' => e = .returned (.bool true) ∧ Below W.heap.size W w') := sameTerms_ref _ _ m.goal W (h.g.below hbW) (h2.g.below hbW)
  have HV : Hid (0 < m.vars.length → ∃ b off, va = some ⟨b, off, none⟩ ∧ b < w.heap.size ∧ ∀ j (h : j < m.vars.length), w.cell? ⟨b, off + j * 3, none⟩ = some (.string m.vars[j].name) ∧ w.cell? ⟨b, off + j * 3 + 1, none⟩ = some (.int .i64 m.vars[j].lo) ∧ w.cell? ⟨b, off + j * 3 + 2, none⟩ = some (.int .i64 m.vars[j].hi)) := hvo
  have HV2 : Hid (0 < m.vars.length → ∃ b off, va2 = some ⟨b, off, none⟩ ∧ b < w.heap.size ∧ ∀ j (h : j < m.vars.length), w.cell? ⟨b, off + j * 3, none⟩ = some (.string m.vars[j].name) ∧ w.cell? ⟨b, off + j * 3 + 1, none⟩ = some (.int .i64 m.vars[j].lo) ∧ w.cell? ⟨b, off + j * 3 + 2, none⟩ = some (.int .i64 m.vars[j].hi)) := hvo2
  have HC : Hid (0 < m.cons.length → ∃ b off, ca = some ⟨b, off, none⟩ ∧ b < w.heap.size ∧ ∀ j (h : j < m.cons.length), ∃ vt vx vb vr, CnAt w m.cons[j] vt vx vb vr ∧ CnCells w b (off + j * 10) m.cons[j] vt vx vb vr) := hco
  have HC2 : Hid (0 < m.cons.length → ∃ b off, ca2 = some ⟨b, off, none⟩ ∧ b < w.heap.size ∧ ∀ j (h : j < m.cons.length), ∃ vt vx vb vr, CnAt w m.cons[j] vt vx vb vr ∧ CnCells w b (off + j * 10) m.cons[j] vt vx vb vr) := hco2
  obtain ⟨⟨p0, p1, p2, p3⟩, _⟩ := box4 hN1
  obtain ⟨⟨q0, q1, q2, q3⟩, _⟩ := box4 hN2
  unfold moVal
  clear h h2 hvo hvo2 hco hco2 hbW hb0 hb1 hN0 hN1 hN2
  go_enter Tryz.func20, Tryz.ntmps20
  go_wp2_with (go_at_call 55; refine calls_at H55.out (by with_reducible rfl) (by with_reducible rfl) ?_; rintro e w1 ⟨rfl, hb1⟩; have HW1 : Hid (Below W.heap.size W w1) := hb1; clear hb1 p0 p1 p2 p3 q0 q1 q2 q3; obtain ⟨⟨p0, p1, p2, p3⟩, _⟩ := box4 (HN1.out _ HW1.out); obtain ⟨⟨q0, q1, q2, q3⟩, _⟩ := box4 (HN2.out _ HW1.out))
  go_loopw [5] (fun iv wr => ∃ k : Nat, iv = .int .i64 (k : Int) ∧ k ≤ m.vars.length ∧ Hid (Below W.heap.size W wr)) (fun iv _ => m.vars.length - (intOf iv).toNat)
  case atStart => exact ⟨0, rfl, Nat.zero_le _, HW1⟩
  case round =>
    obtain ⟨k, rfl, hk, hT⟩ := hrel
    clear p0 p1 p2 p3 q0 q1 q2 q3
    obtain ⟨⟨p0, p1, p2, p3⟩, _⟩ := box4 (HN1.out _ hT.out)
    obtain ⟨⟨q0, q1, q2, q3⟩, _⟩ := box4 (HN2.out _ hT.out)
    rename World => wk
    by_cases hlt : k < m.vars.length
    · have hkI : (k : Int) < (m.vars.length : Int) := by omega
      obtain ⟨b1, o1, rfl, hb1, hc1⟩ := HV.out (by omega)
      obtain ⟨b2, o2, rfl, hb2, hc2⟩ := HV2.out (by omega)
      have hbw : Below w.heap.size w wk := HB.out.trans (hT.out.mono HB.out.size)
      have d0 := (hbw.cell (p := ⟨b1, o1 + k * 3, none⟩) hb1).trans (hc1 k hlt).1
      have d1 := (hbw.cell (p := ⟨b1, o1 + k * 3 + 1, none⟩) hb1).trans (hc1 k hlt).2.1
      have d2 := (hbw.cell (p := ⟨b1, o1 + k * 3 + 2, none⟩) hb1).trans (hc1 k hlt).2.2
      have e0 := (hbw.cell (p := ⟨b2, o2 + k * 3, none⟩) hb2).trans (hc2 k hlt).1
      have e1 := (hbw.cell (p := ⟨b2, o2 + k * 3 + 1, none⟩) hb2).trans (hc2 k hlt).2.1
      have e2 := (hbw.cell (p := ⟨b2, o2 + k * 3 + 2, none⟩) hb2).trans (hc2 k hlt).2.2
      have hbin : ∀ w', (binOp .neq 78 (.agg #[.string m.vars[k].name, .int .i64 m.vars[k].lo, .int .i64 m.vars[k].hi]) (.agg #[.string m.vars[k].name, .int .i64 m.vars[k].lo, .int .i64 m.vars[k].hi])).run Tryz.prog w' = .ok (.bool false) w' := fun w' => var_neq _ _ _ w'
      clear hc1 hc2 hbw
      generalize m.vars[k] = v at *
      go_wp2
      go_quiet (fail)
      go_wp2
      go_roundw
      case rel => exact ⟨k + 1, by go_num, by omega, below_drewN hT.out _⟩
      case measure => simp [intOf]; omega
    · have hkI : ¬ (k : Int) < (m.vars.length : Int) := by omega
      go_wp2_with fail
      go_loopw [6] (fun iv wr => ∃ i : Nat, iv = .int .i64 (i : Int) ∧ i ≤ m.cons.length ∧ Hid (Below W.heap.size W wr)) (fun iv _ => m.cons.length - (intOf iv).toNat)
      case atStart => exact ⟨0, rfl, Nat.zero_le _, hT⟩
      case round =>
        obtain ⟨i, rfl, hi, hU⟩ := hrel
        clear p0 p1 p2 p3 q0 q1 q2 q3
        obtain ⟨⟨p0, p1, p2, p3⟩, _⟩ := box4 (HN1.out _ hU.out)
        obtain ⟨⟨q0, q1, q2, q3⟩, _⟩ := box4 (HN2.out _ hU.out)
        by_cases hit : i < m.cons.length
        · have hiI : (i : Int) < (m.cons.length : Int) := by omega
          have hi0 : (0 : Int) ≤ (i : Int) := by omega
          obtain ⟨b1, o1, rfl, hb1, hc1⟩ := HC.out (by omega)
          obtain ⟨b2, o2, rfl, hb2, hc2⟩ := HC2.out (by omega)
          have hbw : Below w.heap.size w wr := HB.out.trans (hU.out.mono HB.out.size)
          obtain ⟨vt, vx, vb, vr, hcn, hcl⟩ := hc1 i hit
          obtain ⟨vt2, vx2, vb2, vr2, hcn2, hcl2⟩ := hc2 i hit
          obtain ⟨ta, tc, rfl, _⟩ := hcn.t.form
          obtain ⟨xa, xc, rfl, _⟩ := hcn.x.form
          obtain ⟨ba, bc, rfl, _⟩ := hcn.b.form
          obtain ⟨ra, rc, rfl, _⟩ := hcn.r.form
          obtain ⟨ta2, tc2, rfl, _⟩ := hcn2.t.form
          obtain ⟨xa2, xc2, rfl, _⟩ := hcn2.x.form
          obtain ⟨ba2, bc2, rfl, _⟩ := hcn2.b.form
          obtain ⟨ra2, rc2, rfl, _⟩ := hcn2.r.form
          have A1 := hcn.below hbw
          have A2 := hcn2.below hbw
          obtain ⟨d0, d1, d2, d3, d4, d5, d6, d7, d8, d9⟩ := hcl.below hbw
          obtain ⟨e0, e1, e2, e3, e4, e5, e6, e7, e8, e9⟩ := hcl2.below hbw
          clear hc1 hc2 hcn hcn2 hcl hcl2 hbw
          generalize m.cons[i] = c at *
          have hS0 : Hid (wr.cell? ⟨w.heap.size, 1, none⟩ = some (.slice (some ⟨b1, o1, none⟩) m.cons.length cp) ∧ wr.cell? ⟨w.heap.size + 1, 1, none⟩ = some (.slice (some ⟨b2, o2, none⟩) m.cons.length cp2) ∧ wr.cell? ⟨b1, o1 + i * 10, none⟩ = some (.int .i64 c.kind) ∧ wr.cell? ⟨b1, o1 + i * 10 + 1, none⟩ = some (.int .i64 c.op) ∧ wr.cell? ⟨b1, o1 + i * 10 + 2, none⟩ = some (.slice ta c.terms.length tc) ∧ wr.cell? ⟨b1, o1 + i * 10 + 3, none⟩ = some (.int .i64 c.k) ∧ wr.cell? ⟨b1, o1 + i * 10 + 4, none⟩ = some (.int .i64 c.v) ∧ wr.cell? ⟨b1, o1 + i * 10 + 5, none⟩ = some (.int .i64 c.x) ∧ wr.cell? ⟨b1, o1 + i * 10 + 6, none⟩ = some (.int .i64 c.y) ∧ wr.cell? ⟨b1, o1 + i * 10 + 7, none⟩ = some (.slice xa c.xs.length xc) ∧ wr.cell? ⟨b1, o1 + i * 10 + 8, none⟩ = some (.slice ba c.table.length bc) ∧ wr.cell? ⟨b1, o1 + i * 10 + 9, none⟩ = some (.slice ra c.rows.length rc) ∧ wr.cell? ⟨b2, o2 + i * 10, none⟩ = some (.int .i64 c.kind) ∧ wr.cell? ⟨b2, o2 + i * 10 + 1, none⟩ = some (.int .i64 c.op) ∧ wr.cell? ⟨b2, o2 + i * 10 + 2, none⟩ = some (.slice ta2 c.terms.length tc2) ∧ wr.cell? ⟨b2, o2 + i * 10 + 3, none⟩ = some (.int .i64 c.k) ∧ wr.cell? ⟨b2, o2 + i * 10 + 4, none⟩ = some (.int .i64 c.v) ∧ wr.cell? ⟨b2, o2 + i * 10 + 5, none⟩ = some (.int .i64 c.x) ∧ wr.cell? ⟨b2, o2 + i * 10 + 6, none⟩ = some (.int .i64 c.y) ∧ wr.cell? ⟨b2, o2 + i * 10 + 7, none⟩ = some (.slice xa2 c.xs.length xc2) ∧ wr.cell? ⟨b2, o2 + i * 10 + 8, none⟩ = some (.slice ba2 c.table.length bc2) ∧ wr.cell? ⟨b2, o2 + i * 10 + 9, none⟩ = some (.slice ra2 c.rows.length rc2) ∧ CnAt wr c (.slice ta c.terms.length tc) (.slice xa c.xs.length xc) (.slice ba c.table.length bc) (.slice ra c.rows.length rc) ∧ CnAt wr c (.slice ta2 c.terms.length tc2) (.slice xa2 c.xs.length xc2) (.slice ba2 c.table.length bc2) (.slice ra2 c.rows.length rc2) ∧ Below wr.heap.size wr wr) := ⟨p1, q1, d0, d1, d2, d3, d4, d5, d6, d7, d8, d9, e0, e1, e2, e3, e4, e5, e6, e7, e8, e9, A1, A2, Below.refl _ _⟩
          clear A1 A2
          go_wp2_with fail
          go_region_held3 (fun w' => w'.cell? ⟨w.heap.size, 1, none⟩ = some (.slice (some ⟨b1, o1, none⟩) m.cons.length cp) ∧ w'.cell? ⟨w.heap.size + 1, 1, none⟩ = some (.slice (some ⟨b2, o2, none⟩) m.cons.length cp2) ∧ w'.cell? ⟨b1, o1 + i * 10, none⟩ = some (.int .i64 c.kind) ∧ w'.cell? ⟨b1, o1 + i * 10 + 1, none⟩ = some (.int .i64 c.op) ∧ w'.cell? ⟨b1, o1 + i * 10 + 2, none⟩ = some (.slice ta c.terms.length tc) ∧ w'.cell? ⟨b1, o1 + i * 10 + 3, none⟩ = some (.int .i64 c.k) ∧ w'.cell? ⟨b1, o1 + i * 10 + 4, none⟩ = some (.int .i64 c.v) ∧ w'.cell? ⟨b1, o1 + i * 10 + 5, none⟩ = some (.int .i64 c.x) ∧ w'.cell? ⟨b1, o1 + i * 10 + 6, none⟩ = some (.int .i64 c.y) ∧ w'.cell? ⟨b1, o1 + i * 10 + 7, none⟩ = some (.slice xa c.xs.length xc) ∧ w'.cell? ⟨b1, o1 + i * 10 + 8, none⟩ = some (.slice ba c.table.length bc) ∧ w'.cell? ⟨b1, o1 + i * 10 + 9, none⟩ = some (.slice ra c.rows.length rc) ∧ w'.cell? ⟨b2, o2 + i * 10, none⟩ = some (.int .i64 c.kind) ∧ w'.cell? ⟨b2, o2 + i * 10 + 1, none⟩ = some (.int .i64 c.op) ∧ w'.cell? ⟨b2, o2 + i * 10 + 2, none⟩ = some (.slice ta2 c.terms.length tc2) ∧ w'.cell? ⟨b2, o2 + i * 10 + 3, none⟩ = some (.int .i64 c.k) ∧ w'.cell? ⟨b2, o2 + i * 10 + 4, none⟩ = some (.int .i64 c.v) ∧ w'.cell? ⟨b2, o2 + i * 10 + 5, none⟩ = some (.int .i64 c.x) ∧ w'.cell? ⟨b2, o2 + i * 10 + 6, none⟩ = some (.int .i64 c.y) ∧ w'.cell? ⟨b2, o2 + i * 10 + 7, none⟩ = some (.slice xa2 c.xs.length xc2) ∧ w'.cell? ⟨b2, o2 + i * 10 + 8, none⟩ = some (.slice ba2 c.table.length bc2) ∧ w'.cell? ⟨b2, o2 + i * 10 + 9, none⟩ = some (.slice ra2 c.rows.length rc2) ∧ CnAt w' c (.slice ta c.terms.length tc) (.slice xa c.xs.length xc) (.slice ba c.table.length bc) (.slice ra c.rows.length rc) ∧ CnAt w' c (.slice ta2 c.terms.length tc2) (.slice xa2 c.xs.length xc2) (.slice ba2 c.table.length bc2) (.slice ra2 c.rows.length rc2) ∧ Below wr.heap.size wr w')
            (first | exact Sn.next hS0.out (Below.refl _ _).drew | exact Sn.next (by assumption) (by assumption) | assumption)
            (first | (go_at_call 56; refine (sameCon_ref c _ _ _ _ _ _ _ _ _ (Sn.cns (by assumption)).1 (Sn.cns (by assumption)).2.1).mono ?_; rintro e w' ⟨rfl, hb⟩))
          rename_i hHeld
          have hfin := (Sn.cns hHeld).2.2
          have HFIN : Hid (Below W.heap.size W _) := hU.out.trans (hfin.mono hU.out.size)
          clear hHeld hfin
          go_wp2
          go_roundw
          case rel => exact ⟨i + 1, by go_num, by omega, HFIN⟩
          case measure => simp [intOf]; omega
        · have hiI : ¬ (i : Int) < (m.cons.length : Int) := by omega
          go_wp2_with fail
          go_ret
          exact ⟨rfl, HB.out.trans (hU.out.mono HB.out.size)⟩
end Go.Proofs.YtmhfabnpfkkbcaaGreat
