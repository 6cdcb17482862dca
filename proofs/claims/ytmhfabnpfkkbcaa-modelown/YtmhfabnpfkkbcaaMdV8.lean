/-
  Floor, Ceil: the program's.
-/
import Derived.Test.YtmhfabnpfkkbcaaMdV7
namespace Go.Proofs.Ytmhfabnpfkkbcaa
open Go.RowKit

theorem Md.varAt_get {l : List Md.Vr} {m : Nat} (h : m < l.length) : Md.varAt l (m : Int) = l[m] := by
  unfold Md.varAt
  rw [List.getD_eq_getElem?_getD, Int.toNat_natCast, List.getElem?_eq_getElem h]; rfl
theorem Md.low_next {l : List Md.Vr} {t : List (Int × Int)} {k : Nat} (hk : k < t.length) : Md.lowS l (t.take (k + 1)) = Md.lowS l (t.take k) + (if 0 < t[k].1 then t[k].1 * (Md.varAt l t[k].2).lo else t[k].1 * (Md.varAt l t[k].2).hi) := by
  rw [List.take_succ_eq_append_getElem hk]
  unfold Md.lowS
  rw [List.foldl_append]; rfl
theorem Md.top_next {l : List Md.Vr} {t : List (Int × Int)} {k : Nat} (hk : k < t.length) : Md.topS l (t.take (k + 1)) = Md.topS l (t.take k) + (if 0 < t[k].1 then t[k].1 * (Md.varAt l t[k].2).hi else t[k].1 * (Md.varAt l t[k].2).lo) := by
  rw [List.take_succ_eq_append_getElem hk]
  unfold Md.topS
  rw [List.foldl_append]; rfl
theorem min_is {c lo hi : Int} (h : lo ≤ hi) : min (c * lo) (c * hi) = if 0 < c then c * lo else c * hi := by
  split
  · rename_i hc
    exact Int.min_eq_left (Int.mul_le_mul_of_nonneg_left h (by omega))
  · rename_i hc
    exact Int.min_eq_right (Int.mul_le_mul_of_nonpos_left (by omega) h)
theorem max_is {c lo hi : Int} (h : lo ≤ hi) : max (c * lo) (c * hi) = if 0 < c then c * hi else c * lo := by
  split
  · rename_i hc
    exact Int.max_eq_right (Int.mul_le_mul_of_nonneg_left h (by omega))
  · rename_i hc
    exact Int.max_eq_left (Int.mul_le_mul_of_nonpos_left (by omega) h)
theorem Md.varAt_bd {l : List Md.Vr} (h : ∀ v ∈ l, Md.boundsB v.lo v.hi = true) (x : Int) : (-1000000000 ≤ (Md.varAt l x).lo ∧ (Md.varAt l x).lo ≤ 1000000000) ∧ (-1000000000 ≤ (Md.varAt l x).hi ∧ (Md.varAt l x).hi ≤ 1000000000) ∧ (Md.varAt l x).lo ≤ (Md.varAt l x).hi := by
  unfold Md.varAt
  by_cases hx : x.toNat < l.length
  · rw [List.getD_eq_getElem?_getD, List.getElem?_eq_getElem hx]
    have := Md.bounds_of (h _ (List.getElem_mem hx))
    exact ⟨this.1, this.2.1, this.2.2.1⟩
  · rw [List.getD_eq_getElem?_getD, List.getElem?_eq_none (by omega)]
    exact ⟨⟨by decide, by decide⟩, ⟨by decide, by decide⟩, by decide⟩
theorem Md.low_bd {l : List Md.Vr} {t : List (Int × Int)} (h : ∀ v ∈ l, Md.boundsB v.lo v.hi = true) (ht : ∀ x ∈ t, -1000000 ≤ x.1 ∧ x.1 ≤ 1000000) (k : Nat) (hk : k ≤ t.length) : -(1000000000000000 * (k : Int)) ≤ Md.lowS l (t.take k) ∧ Md.lowS l (t.take k) ≤ 1000000000000000 * (k : Int) := by
  induction k with
  | zero => simp [Md.lowS]
  | succ k ih =>
    have hlt : k < t.length := by omega
    have hb := Md.varAt_bd h t[k].2
    have h1 := Md.mul_bd (ht _ (List.getElem_mem hlt)).1 (ht _ (List.getElem_mem hlt)).2 hb.1.1 hb.1.2
    have h2 := Md.mul_bd (ht _ (List.getElem_mem hlt)).1 (ht _ (List.getElem_mem hlt)).2 hb.2.1.1 hb.2.1.2
    have := ih (by omega)
    rw [Md.low_next hlt]
    split <;> omega
theorem Md.top_bd {l : List Md.Vr} {t : List (Int × Int)} (h : ∀ v ∈ l, Md.boundsB v.lo v.hi = true) (ht : ∀ x ∈ t, -1000000 ≤ x.1 ∧ x.1 ≤ 1000000) (k : Nat) (hk : k ≤ t.length) : -(1000000000000000 * (k : Int)) ≤ Md.topS l (t.take k) ∧ Md.topS l (t.take k) ≤ 1000000000000000 * (k : Int) := by
  induction k with
  | zero => simp [Md.topS]
  | succ k ih =>
    have hlt : k < t.length := by omega
    have hb := Md.varAt_bd h t[k].2
    have h1 := Md.mul_bd (ht _ (List.getElem_mem hlt)).1 (ht _ (List.getElem_mem hlt)).2 hb.1.1 hb.1.2
    have h2 := Md.mul_bd (ht _ (List.getElem_mem hlt)).1 (ht _ (List.getElem_mem hlt)).2 hb.2.1.1 hb.2.1.2
    have := ih (by omega)
    rw [Md.top_next hlt]
    split <;> omega

set_option maxHeartbeats 400000 in
theorem floor1_any (a b : Int) (w : World) : Calls Try.prog 31 #[.int .i64 a, .int .i64 b] w fun e w' => e = .returned (.int .i64 (min a b)) ∧ w' = w := by
  go_enter Try.func31, Try.ntmps31
  go_wp2
  all_goals (go_ret; exact ⟨ret_int (by omega), rfl⟩)
set_option maxHeartbeats 400000 in
theorem ceil1_any (a b : Int) (w : World) : Calls Try.prog 32 #[.int .i64 a, .int .i64 b] w fun e w' => e = .returned (.int .i64 (max a b)) ∧ w' = w := by
  go_enter Try.func32, Try.ntmps32
  go_wp2
  all_goals (go_ret; exact ⟨ret_int (by omega), rfl⟩)

set_option maxRecDepth 10000 in
set_option maxHeartbeats 2000000 in
theorem bound_floor (m : Md.Mo) (vv vc vg : Value) (w : World) (h : MoAt w m vv vc vg) : Calls Try.prog 30 #[moVal m vv vc vg, .func (.func 31) #[] #[]] w fun e w' => e = .returned (.int .i64 (Md.floor m)) ∧ Below w.heap.size w w' := by
  obtain ⟨W, hW⟩ : ∃ W, w.alloc (.cells #[vv, vc, .bool m.has, vg] 26) = W := ⟨_, rfl⟩
  have hbW : Below w.heap.size w W := by rw [← hW]; exact (Below.refl _ _).alloc (Nat.le_refl _) _
  have hN : W.heap[w.heap.size]? = some (.cells #[vv, vc, .bool m.has, vg] 26) := by rw [← hW]; exact heap_alloc_new w _
  have HB : Hid (Below w.heap.size w W) := hbW
  have HM : Hid (∀ w', Below W.heap.size W w' → MoAt w' m vv vc vg) := fun w' hb => (h.below hbW).below hb
  have HN : Hid (∀ w', Below W.heap.size W w' → w'.heap[w.heap.size]? = some (.cells #[vv, vc, .bool m.has, vg] 26)) := fun w' hb => (hb.block _ (Array.getElem?_eq_some_iff.1 hN).1).trans hN
  have HNL : Hid (w.heap.size < W.heap.size) := (Array.getElem?_eq_some_iff.1 hN).1
  obtain ⟨va, vp, rfl, hvm⟩ := h.v.form
  obtain ⟨ca, cp, rfl, hcm⟩ := h.c.form
  obtain ⟨ga, gp, rfl, hgm⟩ := h.g.form
  unfold maxLen at hvm hcm hgm
  obtain ⟨⟨p0, p1, p2, p3⟩, _⟩ := box4 hN
  have H42 : Hid (Calls Try.prog 26 #[.agg #[.slice va m.vars.length vp, .slice ca m.cons.length cp, .bool m.has, .slice ga m.goal.length gp]] W fun e w' => e = .returned (.bool (Md.rightB m)) ∧ Below W.heap.size W w') := right_any m _ _ _ W (HM.out W (Below.refl _ _))
  unfold moVal
  clear hbW hN
  cases hr : Md.rightB m
  · have hres : Hid (Md.floor m = 0) := by show _ = _; unfold Md.floor; rw [if_neg (by simpa [Md.rightB] using hr)]
    rw [hr] at H42
    clear hr h
    go_enter Try.func30, Try.ntmps30
    go_wp2_with (go_at_call 26; refine calls_at H42.out (by with_reducible rfl) (by with_reducible rfl) ?_; rintro e w1 ⟨rfl, hb1⟩)
    go_ret
    exact ⟨ret_int hres.out.symm, HB.out.trans (hb1.mono HB.out.size)⟩
  have HR : Hid (Md.Right m) := Md.rightB_of hr
  have hres : Hid (Md.floor m = Md.lowS m.vars m.goal) := by show _ = _; unfold Md.floor; rw [if_pos (by simpa [Md.rightB] using hr)]
  rw [hr] at H42
  obtain ⟨a', c', hve, _, _, hvo⟩ := h.v
  injection hve with e1 e2 e3
  subst e1 e3
  obtain ⟨a', c', hge, _, hgo⟩ := h.g
  injection hge with e4 e5 e6
  subst e4 e6
  have HVO : Hid (0 < m.vars.length → ∃ b off, va = some ⟨b, off, none⟩ ∧ b < w.heap.size ∧ ∀ j (h : j < m.vars.length), w.cell? ⟨b, off + j * 3, none⟩ = some (.string m.vars[j].name) ∧ w.cell? ⟨b, off + j * 3 + 1, none⟩ = some (.int .i64 m.vars[j].lo) ∧ w.cell? ⟨b, off + j * 3 + 2, none⟩ = some (.int .i64 m.vars[j].hi)) := hvo
  have HGO : Hid (0 < m.goal.length → ∃ b off, ga = some ⟨b, off, none⟩ ∧ b < w.heap.size ∧ ∀ j (h : j < m.goal.length), w.cell? ⟨b, off + j * 2, none⟩ = some (.int .i64 m.goal[j].1) ∧ w.cell? ⟨b, off + j * 2 + 1, none⟩ = some (.int .i64 m.goal[j].2)) := hgo
  have HG : Hid ((∀ t ∈ m.goal, 0 ≤ t.2 ∧ t.2 < m.vars.length) ∧ (∀ t ∈ m.goal, -1000000 ≤ t.1 ∧ t.1 ≤ 1000000) ∧ m.goal.length ≤ 64) := by
    have := Md.goal_of HR.out.goal
    exact ⟨this.2.2.1, fun t ht => (this.2.2.2 t ht).2, this.2.1⟩
  have HV : Hid (∀ v ∈ m.vars, Md.boundsB v.lo v.hi = true) := fun v hv => (HR.out.var v hv).2
  clear hr h hvo hgo e2 e5
  go_enter Try.func30, Try.ntmps30
  go_wp2_with (go_at_call 26; refine calls_at H42.out (by with_reducible rfl) (by with_reducible rfl) ?_; rintro e w1 ⟨rfl, hb1⟩; have HB1 : Hid (Below W.heap.size W w1) := hb1; clear hb1 p0 p1 p2 p3; obtain ⟨⟨p0, p1, p2, p3⟩, _⟩ := box4 (HN.out _ HB1.out))
  go_loopw [5, 15] (fun sv iv wr => ∃ k : Nat, iv = .int .i64 (k : Int) ∧ k ≤ m.goal.length ∧ sv = .int .i64 (Md.lowS m.vars (m.goal.take k)) ∧ Hid (Below W.heap.size W wr)) (fun _ iv _ => m.goal.length - (intOf iv).toNat)
  case atStart => exact ⟨0, rfl, Nat.zero_le _, by simp [Md.lowS], HB1⟩
  case round =>
    obtain ⟨k, rfl, hk, rfl, hT⟩ := hrel
    clear p0 p1 p2 p3
    obtain ⟨⟨p0, p1, p2, p3⟩, _⟩ := box4 (HN.out _ hT.out)
    by_cases hlt : k < m.goal.length
    · have hkI : (k : Int) < (m.goal.length : Int) := by omega
      obtain ⟨b, off, rfl, hb, hc⟩ := HGO.out (by omega)
      obtain ⟨c1, c2⟩ := hc k hlt
      have hbw : Below w.heap.size w wr := HB.out.trans (hT.out.mono HB.out.size)
      have d1 := (hbw.cell (p := ⟨b, off + k * 2, none⟩) hb).trans c1
      have d2 := (hbw.cell (p := ⟨b, off + k * 2 + 1, none⟩) hb).trans c2
      obtain ⟨x, hx, hxl⟩ := nat_of (HG.out.1 _ (List.getElem_mem hlt))
      have hxI : (x : Int) < (m.vars.length : Int) := by omega
      obtain ⟨bv, ov, rfl, hbv, hcv⟩ := HVO.out (by omega)
      obtain ⟨v0, v1, v2⟩ := hcv x hxl
      have f0 := (hbw.cell (p := ⟨bv, ov + x * 3, none⟩) hbv).trans v0
      have f1 := (hbw.cell (p := ⟨bv, ov + x * 3 + 1, none⟩) hbv).trans v1
      have f2 := (hbw.cell (p := ⟨bv, ov + x * 3 + 2, none⟩) hbv).trans v2
      have hck := HG.out.2.1 _ (List.getElem_mem hlt)
      have hvb := Md.bounds_of (HV.out _ (List.getElem_mem hxl))
      have hm1 := Md.mul_bd hck.1 hck.2 hvb.1.1 hvb.1.2
      have hm2 := Md.mul_bd hck.1 hck.2 hvb.2.1.1 hvb.2.1.2
      have hsb := Md.low_bd HV.out HG.out.2.1 k (by omega)
      have hk64 : k < 64 := Nat.lt_of_lt_of_le hlt HG.out.2.2
      have hpk := min_is (c := m.goal[k].1) hvb.2.2.1
      have hnx : Hid (Md.lowS m.vars (m.goal.take (k + 1)) = Md.lowS m.vars (m.goal.take k) + min (m.goal[k].1 * m.vars[x].lo) (m.goal[k].1 * m.vars[x].hi)) := by
        show _ = _
        rw [Md.low_next hlt, hx, Md.varAt_get hxl, hpk]
      rw [hx] at d2
      have hmm : -1000000000000000 ≤ min (m.goal[k].1 * m.vars[x].lo) (m.goal[k].1 * m.vars[x].hi) ∧ min (m.goal[k].1 * m.vars[x].lo) (m.goal[k].1 * m.vars[x].hi) ≤ 1000000000000000 := by rw [hpk]; split <;> omega
      clear hc c1 c2 hcv v0 v1 v2 hx hpk hvb hck
      generalize m.goal[k].1 = tc at *
      generalize m.vars[x] = v at *
      generalize Md.lowS m.vars (m.goal.take k) = s at *
      obtain ⟨V1, hV1⟩ : ∃ V, wr.alloc (.cells #[.int .i64 tc, .int .i64 (x : Int)] 35) = V := ⟨_, rfl⟩
      have hbV1 : Below wr.heap.size wr V1 := by rw [← hV1]; exact (Below.refl _ _).alloc (Nat.le_refl _) _
      have hsV1 : V1.heap.size = wr.heap.size + 1 := by rw [← hV1]; simp
      have r0 : V1.cell? ⟨wr.heap.size, 0, none⟩ = some (.int .i64 tc) := by rw [← hV1]; simp
      have r1 : V1.cell? ⟨wr.heap.size, 1, none⟩ = some (.int .i64 (x : Int)) := by rw [← hV1]; simp
      have g0 := one_next hbV1 f0
      have g1 := one_next hbV1 f1
      have g2 := one_next hbV1 f2
      have gp0 := one_next hbV1 p0
      obtain ⟨V2, hV2⟩ : ∃ V, V1.alloc (.cells #[.string v.name, .int .i64 v.lo, .int .i64 v.hi] 37) = V := ⟨_, rfl⟩
      have hbV2 : Below V1.heap.size V1 V2 := by rw [← hV2]; exact (Below.refl _ _).alloc (Nat.le_refl _) _
      have s0 := one_next hbV2 r0
      have s1 : V2.cell? ⟨wr.heap.size + 1, 1, none⟩ = some (.int .i64 v.lo) := by rw [← hsV1, ← hV2]; simp
      have s2 : V2.cell? ⟨wr.heap.size + 1, 2, none⟩ = some (.int .i64 v.hi) := by rw [← hsV1, ← hV2]; simp
      have HT2 : Hid (Below W.heap.size W V2) := (hT.out.trans (hbV1.mono hT.out.size)).trans (hbV2.mono (hT.out.trans (hbV1.mono hT.out.size)).size)
      obtain ⟨hm1a, hm1b⟩ := hm1
      obtain ⟨hm2a, hm2b⟩ := hm2
      obtain ⟨hmma, hmmb⟩ := hmm
      obtain ⟨hsba, hsbb⟩ := hsb
      clear hbV1 hbV2 hbw
      go_wp2_with (go_at_call 31; refine (floor1_any _ _ _).mono ?_; rintro e w' ⟨rfl, hww⟩; rw [hww]; clear hww)
      go_roundw
      case rel => exact ⟨k + 1, by go_num, by omega, by rw [hnx.out], HT2⟩
      case measure => simp [intOf]; omega
    · have hkI : ¬ (k : Int) < (m.goal.length : Int) := by omega
      have hte : m.goal.take k = m.goal := List.take_of_length_le (by omega)
      rw [hte]
      go_wp2_with fail
      go_ret
      exact ⟨ret_int hres.out.symm, HB.out.trans (hT.out.mono HB.out.size)⟩

set_option maxRecDepth 10000 in
set_option maxHeartbeats 2000000 in
theorem bound_ceil (m : Md.Mo) (vv vc vg : Value) (w : World) (h : MoAt w m vv vc vg) : Calls Try.prog 30 #[moVal m vv vc vg, .func (.func 32) #[] #[]] w fun e w' => e = .returned (.int .i64 (Md.ceil m)) ∧ Below w.heap.size w w' := by
  obtain ⟨W, hW⟩ : ∃ W, w.alloc (.cells #[vv, vc, .bool m.has, vg] 26) = W := ⟨_, rfl⟩
  have hbW : Below w.heap.size w W := by rw [← hW]; exact (Below.refl _ _).alloc (Nat.le_refl _) _
  have hN : W.heap[w.heap.size]? = some (.cells #[vv, vc, .bool m.has, vg] 26) := by rw [← hW]; exact heap_alloc_new w _
  have HB : Hid (Below w.heap.size w W) := hbW
  have HM : Hid (∀ w', Below W.heap.size W w' → MoAt w' m vv vc vg) := fun w' hb => (h.below hbW).below hb
  have HN : Hid (∀ w', Below W.heap.size W w' → w'.heap[w.heap.size]? = some (.cells #[vv, vc, .bool m.has, vg] 26)) := fun w' hb => (hb.block _ (Array.getElem?_eq_some_iff.1 hN).1).trans hN
  have HNL : Hid (w.heap.size < W.heap.size) := (Array.getElem?_eq_some_iff.1 hN).1
  obtain ⟨va, vp, rfl, hvm⟩ := h.v.form
  obtain ⟨ca, cp, rfl, hcm⟩ := h.c.form
  obtain ⟨ga, gp, rfl, hgm⟩ := h.g.form
  unfold maxLen at hvm hcm hgm
  obtain ⟨⟨p0, p1, p2, p3⟩, _⟩ := box4 hN
  have H42 : Hid (Calls Try.prog 26 #[.agg #[.slice va m.vars.length vp, .slice ca m.cons.length cp, .bool m.has, .slice ga m.goal.length gp]] W fun e w' => e = .returned (.bool (Md.rightB m)) ∧ Below W.heap.size W w') := right_any m _ _ _ W (HM.out W (Below.refl _ _))
  unfold moVal
  clear hbW hN
  cases hr : Md.rightB m
  · have hres : Hid (Md.ceil m = 0) := by show _ = _; unfold Md.ceil; rw [if_neg (by simpa [Md.rightB] using hr)]
    rw [hr] at H42
    clear hr h
    go_enter Try.func30, Try.ntmps30
    go_wp2_with (go_at_call 26; refine calls_at H42.out (by with_reducible rfl) (by with_reducible rfl) ?_; rintro e w1 ⟨rfl, hb1⟩)
    go_ret
    exact ⟨ret_int hres.out.symm, HB.out.trans (hb1.mono HB.out.size)⟩
  have HR : Hid (Md.Right m) := Md.rightB_of hr
  have hres : Hid (Md.ceil m = Md.topS m.vars m.goal) := by show _ = _; unfold Md.ceil; rw [if_pos (by simpa [Md.rightB] using hr)]
  rw [hr] at H42
  obtain ⟨a', c', hve, _, _, hvo⟩ := h.v
  injection hve with e1 e2 e3
  subst e1 e3
  obtain ⟨a', c', hge, _, hgo⟩ := h.g
  injection hge with e4 e5 e6
  subst e4 e6
  have HVO : Hid (0 < m.vars.length → ∃ b off, va = some ⟨b, off, none⟩ ∧ b < w.heap.size ∧ ∀ j (h : j < m.vars.length), w.cell? ⟨b, off + j * 3, none⟩ = some (.string m.vars[j].name) ∧ w.cell? ⟨b, off + j * 3 + 1, none⟩ = some (.int .i64 m.vars[j].lo) ∧ w.cell? ⟨b, off + j * 3 + 2, none⟩ = some (.int .i64 m.vars[j].hi)) := hvo
  have HGO : Hid (0 < m.goal.length → ∃ b off, ga = some ⟨b, off, none⟩ ∧ b < w.heap.size ∧ ∀ j (h : j < m.goal.length), w.cell? ⟨b, off + j * 2, none⟩ = some (.int .i64 m.goal[j].1) ∧ w.cell? ⟨b, off + j * 2 + 1, none⟩ = some (.int .i64 m.goal[j].2)) := hgo
  have HG : Hid ((∀ t ∈ m.goal, 0 ≤ t.2 ∧ t.2 < m.vars.length) ∧ (∀ t ∈ m.goal, -1000000 ≤ t.1 ∧ t.1 ≤ 1000000) ∧ m.goal.length ≤ 64) := by
    have := Md.goal_of HR.out.goal
    exact ⟨this.2.2.1, fun t ht => (this.2.2.2 t ht).2, this.2.1⟩
  have HV : Hid (∀ v ∈ m.vars, Md.boundsB v.lo v.hi = true) := fun v hv => (HR.out.var v hv).2
  clear hr h hvo hgo e2 e5
  go_enter Try.func30, Try.ntmps30
  go_wp2_with (go_at_call 26; refine calls_at H42.out (by with_reducible rfl) (by with_reducible rfl) ?_; rintro e w1 ⟨rfl, hb1⟩; have HB1 : Hid (Below W.heap.size W w1) := hb1; clear hb1 p0 p1 p2 p3; obtain ⟨⟨p0, p1, p2, p3⟩, _⟩ := box4 (HN.out _ HB1.out))
  go_loopw [5, 15] (fun sv iv wr => ∃ k : Nat, iv = .int .i64 (k : Int) ∧ k ≤ m.goal.length ∧ sv = .int .i64 (Md.topS m.vars (m.goal.take k)) ∧ Hid (Below W.heap.size W wr)) (fun _ iv _ => m.goal.length - (intOf iv).toNat)
  case atStart => exact ⟨0, rfl, Nat.zero_le _, by simp [Md.topS], HB1⟩
  case round =>
    obtain ⟨k, rfl, hk, rfl, hT⟩ := hrel
    clear p0 p1 p2 p3
    obtain ⟨⟨p0, p1, p2, p3⟩, _⟩ := box4 (HN.out _ hT.out)
    by_cases hlt : k < m.goal.length
    · have hkI : (k : Int) < (m.goal.length : Int) := by omega
      obtain ⟨b, off, rfl, hb, hc⟩ := HGO.out (by omega)
      obtain ⟨c1, c2⟩ := hc k hlt
      have hbw : Below w.heap.size w wr := HB.out.trans (hT.out.mono HB.out.size)
      have d1 := (hbw.cell (p := ⟨b, off + k * 2, none⟩) hb).trans c1
      have d2 := (hbw.cell (p := ⟨b, off + k * 2 + 1, none⟩) hb).trans c2
      obtain ⟨x, hx, hxl⟩ := nat_of (HG.out.1 _ (List.getElem_mem hlt))
      have hxI : (x : Int) < (m.vars.length : Int) := by omega
      obtain ⟨bv, ov, rfl, hbv, hcv⟩ := HVO.out (by omega)
      obtain ⟨v0, v1, v2⟩ := hcv x hxl
      have f0 := (hbw.cell (p := ⟨bv, ov + x * 3, none⟩) hbv).trans v0
      have f1 := (hbw.cell (p := ⟨bv, ov + x * 3 + 1, none⟩) hbv).trans v1
      have f2 := (hbw.cell (p := ⟨bv, ov + x * 3 + 2, none⟩) hbv).trans v2
      have hck := HG.out.2.1 _ (List.getElem_mem hlt)
      have hvb := Md.bounds_of (HV.out _ (List.getElem_mem hxl))
      have hm1 := Md.mul_bd hck.1 hck.2 hvb.1.1 hvb.1.2
      have hm2 := Md.mul_bd hck.1 hck.2 hvb.2.1.1 hvb.2.1.2
      have hsb := Md.top_bd HV.out HG.out.2.1 k (by omega)
      have hk64 : k < 64 := Nat.lt_of_lt_of_le hlt HG.out.2.2
      have hpk := max_is (c := m.goal[k].1) hvb.2.2.1
      have hnx : Hid (Md.topS m.vars (m.goal.take (k + 1)) = Md.topS m.vars (m.goal.take k) + max (m.goal[k].1 * m.vars[x].lo) (m.goal[k].1 * m.vars[x].hi)) := by
        show _ = _
        rw [Md.top_next hlt, hx, Md.varAt_get hxl, hpk]
      rw [hx] at d2
      have hmm : -1000000000000000 ≤ max (m.goal[k].1 * m.vars[x].lo) (m.goal[k].1 * m.vars[x].hi) ∧ max (m.goal[k].1 * m.vars[x].lo) (m.goal[k].1 * m.vars[x].hi) ≤ 1000000000000000 := by rw [hpk]; split <;> omega
      clear hc c1 c2 hcv v0 v1 v2 hx hpk hvb hck
      generalize m.goal[k].1 = tc at *
      generalize m.vars[x] = v at *
      generalize Md.topS m.vars (m.goal.take k) = s at *
      obtain ⟨V1, hV1⟩ : ∃ V, wr.alloc (.cells #[.int .i64 tc, .int .i64 (x : Int)] 35) = V := ⟨_, rfl⟩
      have hbV1 : Below wr.heap.size wr V1 := by rw [← hV1]; exact (Below.refl _ _).alloc (Nat.le_refl _) _
      have hsV1 : V1.heap.size = wr.heap.size + 1 := by rw [← hV1]; simp
      have r0 : V1.cell? ⟨wr.heap.size, 0, none⟩ = some (.int .i64 tc) := by rw [← hV1]; simp
      have r1 : V1.cell? ⟨wr.heap.size, 1, none⟩ = some (.int .i64 (x : Int)) := by rw [← hV1]; simp
      have g0 := one_next hbV1 f0
      have g1 := one_next hbV1 f1
      have g2 := one_next hbV1 f2
      have gp0 := one_next hbV1 p0
      obtain ⟨V2, hV2⟩ : ∃ V, V1.alloc (.cells #[.string v.name, .int .i64 v.lo, .int .i64 v.hi] 37) = V := ⟨_, rfl⟩
      have hbV2 : Below V1.heap.size V1 V2 := by rw [← hV2]; exact (Below.refl _ _).alloc (Nat.le_refl _) _
      have s0 := one_next hbV2 r0
      have s1 : V2.cell? ⟨wr.heap.size + 1, 1, none⟩ = some (.int .i64 v.lo) := by rw [← hsV1, ← hV2]; simp
      have s2 : V2.cell? ⟨wr.heap.size + 1, 2, none⟩ = some (.int .i64 v.hi) := by rw [← hsV1, ← hV2]; simp
      have HT2 : Hid (Below W.heap.size W V2) := (hT.out.trans (hbV1.mono hT.out.size)).trans (hbV2.mono (hT.out.trans (hbV1.mono hT.out.size)).size)
      obtain ⟨hm1a, hm1b⟩ := hm1
      obtain ⟨hm2a, hm2b⟩ := hm2
      obtain ⟨hmma, hmmb⟩ := hmm
      obtain ⟨hsba, hsbb⟩ := hsb
      clear hbV1 hbV2 hbw
      go_wp2_with (go_at_call 32; refine (ceil1_any _ _ _).mono ?_; rintro e w' ⟨rfl, hww⟩; rw [hww]; clear hww)
      go_roundw
      case rel => exact ⟨k + 1, by go_num, by omega, by rw [hnx.out], HT2⟩
      case measure => simp [intOf]; omega
    · have hkI : ¬ (k : Int) < (m.goal.length : Int) := by omega
      have hte : m.goal.take k = m.goal := List.take_of_length_le (by omega)
      rw [hte]
      go_wp2_with fail
      go_ret
      exact ⟨ret_int hres.out.symm, HB.out.trans (hT.out.mono HB.out.size)⟩

set_option maxRecDepth 10000 in
set_option maxHeartbeats 400000 in
theorem floor_any (m : Md.Mo) (vv vc vg : Value) (w : World) (h : MoAt w m vv vc vg) : Calls Try.prog 11 #[moVal m vv vc vg] w fun e w' => e = .returned (.int .i64 (Md.floor m)) ∧ Below w.heap.size w w' := by
  obtain ⟨W, hW⟩ : ∃ W, w.alloc (.cells #[vv, vc, .bool m.has, vg] 26) = W := ⟨_, rfl⟩
  have hbW : Below w.heap.size w W := by rw [← hW]; exact (Below.refl _ _).alloc (Nat.le_refl _) _
  have hN : W.heap[w.heap.size]? = some (.cells #[vv, vc, .bool m.has, vg] 26) := by rw [← hW]; exact heap_alloc_new w _
  have HB : Hid (Below w.heap.size w W) := hbW
  have HM : Hid (∀ w', Below W.heap.size W w' → MoAt w' m vv vc vg) := fun w' hb => (h.below hbW).below hb
  have HN : Hid (∀ w', Below W.heap.size W w' → w'.heap[w.heap.size]? = some (.cells #[vv, vc, .bool m.has, vg] 26)) := fun w' hb => (hb.block _ (Array.getElem?_eq_some_iff.1 hN).1).trans hN
  have HNL : Hid (w.heap.size < W.heap.size) := (Array.getElem?_eq_some_iff.1 hN).1
  obtain ⟨va, vp, rfl, hvm⟩ := h.v.form
  obtain ⟨ca, cp, rfl, hcm⟩ := h.c.form
  obtain ⟨ga, gp, rfl, hgm⟩ := h.g.form
  unfold maxLen at hvm hcm hgm
  obtain ⟨⟨p0, p1, p2, p3⟩, _⟩ := box4 hN
  have H43 : Hid (Calls Try.prog 30 #[.agg #[.slice va m.vars.length vp, .slice ca m.cons.length cp, .bool m.has, .slice ga m.goal.length gp], .func (.func 31) #[] #[]] W fun e w' => e = .returned (.int .i64 (Md.floor m)) ∧ Below W.heap.size W w') := bound_floor m _ _ _ W (HM.out W (Below.refl _ _))
  unfold moVal
  clear h hbW hN
  go_enter Try.func11, Try.ntmps11
  go_wp2_with (go_at_call 30; refine calls_at H43.out (by with_reducible rfl) (by with_reducible rfl) ?_; rintro e w1 ⟨rfl, hb1⟩)
  go_ret
  exact ⟨rfl, HB.out.trans (hb1.mono HB.out.size)⟩

set_option maxRecDepth 10000 in
set_option maxHeartbeats 400000 in
theorem ceil_any (m : Md.Mo) (vv vc vg : Value) (w : World) (h : MoAt w m vv vc vg) : Calls Try.prog 12 #[moVal m vv vc vg] w fun e w' => e = .returned (.int .i64 (Md.ceil m)) ∧ Below w.heap.size w w' := by
  obtain ⟨W, hW⟩ : ∃ W, w.alloc (.cells #[vv, vc, .bool m.has, vg] 26) = W := ⟨_, rfl⟩
  have hbW : Below w.heap.size w W := by rw [← hW]; exact (Below.refl _ _).alloc (Nat.le_refl _) _
  have hN : W.heap[w.heap.size]? = some (.cells #[vv, vc, .bool m.has, vg] 26) := by rw [← hW]; exact heap_alloc_new w _
  have HB : Hid (Below w.heap.size w W) := hbW
  have HM : Hid (∀ w', Below W.heap.size W w' → MoAt w' m vv vc vg) := fun w' hb => (h.below hbW).below hb
  have HN : Hid (∀ w', Below W.heap.size W w' → w'.heap[w.heap.size]? = some (.cells #[vv, vc, .bool m.has, vg] 26)) := fun w' hb => (hb.block _ (Array.getElem?_eq_some_iff.1 hN).1).trans hN
  have HNL : Hid (w.heap.size < W.heap.size) := (Array.getElem?_eq_some_iff.1 hN).1
  obtain ⟨va, vp, rfl, hvm⟩ := h.v.form
  obtain ⟨ca, cp, rfl, hcm⟩ := h.c.form
  obtain ⟨ga, gp, rfl, hgm⟩ := h.g.form
  unfold maxLen at hvm hcm hgm
  obtain ⟨⟨p0, p1, p2, p3⟩, _⟩ := box4 hN
  have H43 : Hid (Calls Try.prog 30 #[.agg #[.slice va m.vars.length vp, .slice ca m.cons.length cp, .bool m.has, .slice ga m.goal.length gp], .func (.func 32) #[] #[]] W fun e w' => e = .returned (.int .i64 (Md.ceil m)) ∧ Below W.heap.size W w') := bound_ceil m _ _ _ W (HM.out W (Below.refl _ _))
  unfold moVal
  clear h hbW hN
  go_enter Try.func12, Try.ntmps12
  go_wp2_with (go_at_call 30; refine calls_at H43.out (by with_reducible rfl) (by with_reducible rfl) ?_; rintro e w1 ⟨rfl, hb1⟩)
  go_ret
  exact ⟨rfl, HB.out.trans (hb1.mono HB.out.size)⟩
end Go.Proofs.Ytmhfabnpfkkbcaa
