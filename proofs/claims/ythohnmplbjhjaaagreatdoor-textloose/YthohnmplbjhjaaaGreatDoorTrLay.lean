/-
  A line that is read: what it says is laid to the problem.
-/
import Derived.Test.YthohnmplbjhjaaaGreatDoorJ35
namespace Go.Proofs.YthohnmplbjhjaaaGreatDoor
open Go Go.RowKit Go.Shelf Go.Lib
attribute [local go_sem] Oper.semAt_some

set_option maxRecDepth 100000 in
set_option maxHeartbeats 4000000 in
theorem lay_any {m : Md.Mo} {y : Sy} {B P : Nat} {vv vc vg vt vx vb vr : Value} (w : World) (h : MoIs B P m vv vc vg w) (hs : SyV B y vt vx vb vr w) (hnv : m.vars.length ≤ 1000) (hnc : m.cons.length ≤ 1000) : Calls Tryz.prog 50 #[.pointer (some ⟨P, 0, none⟩), .agg (sayC y.v.name y.v.lo y.v.hi y.c.kind y.c.op vt y.c.k y.c.v y.c.x y.c.y vx vb vr)] w fun e w' => e = .returned (.tuple #[]) ∧ MoI B P (layT m y) w' ∧ Ofw (fun k => k = P ∨ vv.ownBlock = some k ∨ vc.ownBlock = some k) w w' := by
  obtain ⟨at1, ct1, hvt⟩ := own_slice hs.t
  obtain ⟨ax1, cx1, hvx⟩ := own_slice hs.x
  obtain ⟨ab1, cb1, hvb⟩ := own_slice hs.b
  obtain ⟨vs, D, hr, hrs⟩ := hs.r
  obtain ⟨ar1, cr1, hvr⟩ := own_slice hr
  subst hvt hvx hvb hvr
  obtain ⟨av, cv, hvv⟩ := own_slice h.v
  obtain ⟨L, hL, hk, hsL⟩ := h.k
  obtain ⟨ac, cc, hvc⟩ := own_slice hk
  subst hvv hvc
  obtain ⟨W1, hW1⟩ : ∃ W1, w.alloc (.cells (sayC y.v.name y.v.lo y.v.hi y.c.kind y.c.op (.slice at1 y.c.terms.length ct1) y.c.k y.c.v y.c.x y.c.y (.slice ax1 y.c.xs.length cx1) (.slice ab1 y.c.table.length cb1) (.slice ar1 y.c.rows.length cr1)) 74) = W1 := ⟨_, rfl⟩
  obtain ⟨N, hN⟩ : ∃ N, w.heap.size = N := ⟨_, rfl⟩
  have hb1 : Below w.heap.size w W1 := hW1 ▸ (Below.refl _ _).alloc (Nat.le_refl _) _
  have hs1 : W1.heap.size = N + 1 := by rw [← hW1, ← hN]; simp
  have hN1 : W1.heap[N]? = some (.cells (sayC y.v.name y.v.lo y.v.hi y.c.kind y.c.op (.slice at1 y.c.terms.length ct1) y.c.k y.c.v y.c.x y.c.y (.slice ax1 y.c.xs.length cx1) (.slice ab1 y.c.table.length cb1) (.slice ar1 y.c.rows.length cr1)) 74) := by rw [← hW1, ← hN]; exact heap_alloc_new w _
  have hPl := (Array.getElem?_eq_some_iff.1 h.o).1
  have hlo := h.lo
  have hPN : P < N := by omega
  have hP1 : W1.heap[P]? = some (.cells #[.slice av m.vars.length cv, .slice ac m.cons.length cc, .bool m.has, vg] 26 (0, 0)) := (hb1.block _ hPl).trans h.o
  have ob : Ofw (fun _ => False) w W1 := Ofw.of_below hb1
  have HM1 : Hid (MoIs B P m (.slice av m.vars.length cv) (.slice ac m.cons.length cc) vg W1) := h.off ob (fun _ f => f.elim)
  have HY1 : Hid (SyV B y (.slice at1 y.c.terms.length ct1) (.slice ax1 y.c.xs.length cx1) (.slice ab1 y.c.table.length cb1) (.slice ar1 y.c.rows.length cr1) W1) := hs.off ob (fun _ f => f.elim)
  have HO1 : Hid (Ofw (fun _ => False) w W1) := ob
  have hm : Tryz.prog.follows .mixedOrders = true := by kernel_rfl
  clear h hs hk hsL hL hr hrs
  refine (callsIn_wide (n := 5)).1 ?_
  refine callsIn_of_wp_marks Tryz.func50 rfl trivial ?_ rfl
  unfold sayC at hW1
  have e0 : Value.agg (sayC y.v.name y.v.lo y.v.hi y.c.kind y.c.op (.slice at1 y.c.terms.length ct1) y.c.k y.c.v y.c.x y.c.y (.slice ax1 y.c.xs.length cx1) (.slice ab1 y.c.table.length cb1) (.slice ar1 y.c.rows.length cr1)) = .agg #[.string y.v.name, .int .i64 y.v.lo, .int .i64 y.v.hi, .int .i64 y.c.kind, .int .i64 y.c.op, .slice at1 y.c.terms.length ct1, .int .i64 y.c.k, .int .i64 y.c.v, .int .i64 y.c.x, .int .i64 y.c.y, .slice ax1 y.c.xs.length cx1, .slice ab1 y.c.table.length cb1, .slice ar1 y.c.rows.length cr1] := rfl
  rw [e0]
  clear e0
  simp only [Tryz.ntmps50, List.size_toArray, List.length_cons, List.length_nil, Nat.reduceAdd, Nat.reduceSub, Array.replicate_succ, Array.replicate_zero, List.push_toArray, List.append_toArray, List.nil_append, List.cons_append]
  have c3 : W1.cell? ⟨N, 3, none⟩ = some (.int .i64 y.c.kind) := by rw [cell_of hN1 3]; rfl
  by_cases k10 : y.c.kind = 10
  · have k10' : (y.c.kind == 10) = true := by simp [k10]
    have he : layT m y = { m with vars := m.vars ++ [y.v] } := by unfold layT; rw [if_pos k10]
    rw [he]
    clear he k10
    gi_wp2
    try rw [hN]
    refine wpIn_region_FT (fun w' => w'.cell? ⟨N, 0, none⟩ = some (.string y.v.name) ∧ w'.cell? ⟨N, 1, none⟩ = some (.int .i64 y.v.lo) ∧ w'.cell? ⟨N, 2, none⟩ = some (.int .i64 y.v.hi)) (fun w' => w'.cell? ⟨P, 0, none⟩ = some (.slice av m.vars.length cv)) [11] hm ⟨⟨by (show World.cell? _ _ = _); rw [cell_of (show W1.drew.heap[N]? = _ from hN1) 0]; rfl, by (show World.cell? _ _ = _); rw [cell_of (show W1.drew.heap[N]? = _ from hN1) 1]; rfl, by (show World.cell? _ _ = _); rw [cell_of (show W1.drew.heap[N]? = _ from hN1) 2]; rfl⟩, by (show World.cell? _ _ = _); rw [cell_of (show W1.drew.heap[P]? = _ from hP1) 0]; rfl⟩ (fun hHeld => ?_)
    obtain ⟨W2, hW2⟩ : ∃ W2, W1.drew = W2 := ⟨_, rfl⟩
    rw [hW2] at hHeld ⊢
    have hN2 : W2.heap[N]? = some (.cells (sayC y.v.name y.v.lo y.v.hi y.c.kind y.c.op (.slice at1 y.c.terms.length ct1) y.c.k y.c.v y.c.x y.c.y (.slice ax1 y.c.xs.length cx1) (.slice ab1 y.c.table.length cb1) (.slice ar1 y.c.rows.length cr1)) 74) := hW2 ▸ hN1
    have hP2 : W2.heap[P]? = some (.cells #[.slice av m.vars.length cv, .slice ac m.cons.length cc, .bool m.has, vg] 26 (0, 0)) := hW2 ▸ hP1
    have od : Ofw (fun _ => False) W1 W2 := hW2 ▸ Ofw.of_below (Below.refl _ _).drew
    have HM2 : Hid (MoIs B P m (.slice av m.vars.length cv) (.slice ac m.cons.length cc) vg W2) := HM1.out.off od (fun _ f => f.elim)
    have HY2 : Hid (SyV B y (.slice at1 y.c.terms.length ct1) (.slice ax1 y.c.xs.length cx1) (.slice ab1 y.c.table.length cb1) (.slice ar1 y.c.rows.length cr1) W2) := HY1.out.off od (fun _ f => f.elim)
    have HO2 : Hid (Ofw (fun _ => False) w W2) := HO1.out.trans od
    have hs2 : Hid (W2.heap.size = N + 1) := by rw [← hW2]; exact hs1
    clear hW2 od HM1 HY1 HO1
    have hown := HM2.out.v
    refine wpAnyFT_takeB (i := 0) (oi := ⟨some 20, .move (.tmp 0), _, _, _, none⟩) (v := ?vv0) rfl (by kernel_rfl) (by kernel_rfl) (by kernel_rfl) (by kernel_rfl) (by kernel_rfl) qn_panic ⟨Or.inl ⟨by rfl, ?hv0⟩, fun _ => rfl, fun _ e => by cases e⟩ (by assumption) ?rv0
    case hv0 => (intro w hSw; (try dsimp only at hSw); go_simp; try (with_reducible rfl))
    try simp only [Act.put, List.setIfInBounds_toArray, List.set_cons_zero, List.set_cons_succ]
    refine wpAnyFT_takeB (i := 1) (oi := ⟨some 21, .move (.tmp 0), _, _, _, none⟩) (v := ?vv1) rfl (by kernel_rfl) (by kernel_rfl) (by kernel_rfl) (by kernel_rfl) (by kernel_rfl) qn_panic ⟨Or.inl ⟨by rfl, ?hv1⟩, fun _ => rfl, fun _ e => by cases e⟩ (by assumption) ?rv1
    case hv1 => (intro w hSw; (try dsimp only at hSw); go_simp; try (with_reducible rfl))
    try simp only [Act.put, List.setIfInBounds_toArray, List.set_cons_zero, List.set_cons_succ]
    refine wpAnyFT_takeB (i := 2) (oi := ⟨some 22, .nilCheck (.tmp 21), _, _, _, none⟩) (v := ?vv2) rfl (by kernel_rfl) (by kernel_rfl) (by kernel_rfl) (by kernel_rfl) (by kernel_rfl) qn_panic ⟨Or.inl ⟨by rfl, ?hv2⟩, fun _ => rfl, fun _ e => by cases e⟩ (by assumption) ?rv2
    case hv2 => (intro w hSw; (try dsimp only at hSw); go_simp; try (with_reducible rfl))
    try simp only [Act.put, List.setIfInBounds_toArray, List.set_cons_zero, List.set_cons_succ]
    refine wpAnyFT_takeB (i := 3) (oi := ⟨some 23, .fieldAddr 26 (.tmp 22) 0, _, _, _, none⟩) (v := ?vv3) rfl (by kernel_rfl) (by kernel_rfl) (by kernel_rfl) (by kernel_rfl) (by kernel_rfl) qn_panic ⟨Or.inl ⟨by rfl, ?hv3⟩, fun _ => rfl, fun _ e => by cases e⟩ (by assumption) ?rv3
    case hv3 => (intro w hSw; (try dsimp only at hSw); go_simp; try (with_reducible rfl))
    try simp only [Act.put, List.setIfInBounds_toArray, List.set_cons_zero, List.set_cons_succ]
    refine wpAnyFT_take (i := 4) (oi := ⟨some 24, .load 22 (.tmp 23), _, _, _, none⟩) (v := ?vv4) rfl (by kernel_rfl) (by kernel_rfl) (by kernel_rfl) (by kernel_rfl) (by kernel_rfl) (by kernel_rfl) qn_panic ⟨Or.inl ⟨by rfl, ?hv4⟩, fun _ => rfl, fun _ e => by cases e⟩ (by assumption) ?rv4
    case hv4 => (intro w hSw; (try dsimp only at hSw); go_simp; try (with_reducible rfl))
    try simp only [Act.put, List.setIfInBounds_toArray, List.set_cons_zero, List.set_cons_succ]
    refine wpAnyFT_takeB (i := 5) (oi := ⟨some 25, .fieldAddr 74 (.tmp 3) 0, _, _, _, none⟩) (v := ?vv5) rfl (by kernel_rfl) (by kernel_rfl) (by kernel_rfl) (by kernel_rfl) (by kernel_rfl) qn_panic ⟨Or.inl ⟨by rfl, ?hv5⟩, fun _ => rfl, fun _ e => by cases e⟩ (by assumption) ?rv5
    case hv5 => (intro w hSw; (try dsimp only at hSw); go_simp; try (with_reducible rfl))
    try simp only [Act.put, List.setIfInBounds_toArray, List.set_cons_zero, List.set_cons_succ]
    refine wpAnyFT_takeB (i := 6) (oi := ⟨some 26, .load 56 (.tmp 25), _, _, _, none⟩) (v := ?vv6) rfl (by kernel_rfl) (by kernel_rfl) (by kernel_rfl) (by kernel_rfl) (by kernel_rfl) qn_panic ⟨Or.inl ⟨by rfl, ?hv6⟩, fun _ => rfl, fun _ e => by cases e⟩ (by assumption) ?rv6
    case hv6 => (intro w hSw; (try dsimp only at hSw); go_simp; try (with_reducible rfl))
    try simp only [Act.put, List.setIfInBounds_toArray, List.set_cons_zero, List.set_cons_succ]
    refine wpAnyFT_one (i := 7) (o := ⟨some 27, .buildSlice 22 1 #[(0, .tmp 26)], _, _, _, none⟩) (by kernel_rfl) rfl (fun K hK => ?_)
    obtain ⟨V1, hV1⟩ : ∃ V1, W2.alloc (.cells #[.string y.v.name, .int .i64 y.v.lo, .int .i64 y.v.hi] 56) = V1 := ⟨_, rfl⟩
    have bV : Below W2.heap.size W2 V1 := hV1 ▸ (Below.refl _ _).alloc (Nat.le_refl _) _
    have hNV := (bV.block _ (Array.getElem?_eq_some_iff.1 hN2).1).trans hN2
    have hPV := (bV.block _ (Array.getElem?_eq_some_iff.1 hP2).1).trans hP2
    go_simp
    try rw [hV1]
    refine hK.out _ _ ⟨⟨by (show World.cell? _ _ = _); rw [cell_of hNV 0]; rfl, by (show World.cell? _ _ = _); rw [cell_of hNV 1]; rfl, by (show World.cell? _ _ = _); rw [cell_of hNV 2]; rfl⟩, fun _ => by (show World.cell? _ _ = _); rw [cell_of hPV 0]; rfl⟩ ?_
    clear hK K
    try simp only [Act.put, List.setIfInBounds_toArray, List.set_cons_zero, List.set_cons_succ]
    refine wpAnyFT_one (i := 8) (o := ⟨some 28, .call { callee := .builtin .append, args := #[.tmp 24, .tmp 27], argTypes := #[22, 22] }, _, _, _, none⟩) (by kernel_rfl) rfl (fun K hK => ?_)
    refine opIn_push W2 V1 (.tmp 24) (.tmp 27) 22 56 (.agg #[.string ⟨#[]⟩, .int .i64 0, .int .i64 0]) 3 32 rfl Tryz.underlying22 (by kernel_rfl) rfl (by decide) B (.slice av m.vars.length cv) m.vars.length _ #[.string y.v.name, .int .i64 y.v.lo, .int .i64 y.v.hi] (by rfl) (by rfl) hV1 hown rfl (by intro u hu; simp at hu; rcases hu with rfl | rfl | rfl <;> rfl) (by unfold maxLen; omega) (by omega) (by have := hs2.out; omega) (by rfl) ?_
    intro v5 w5 g1 g2 g3
    obtain ⟨ad5, cp5, hv5⟩ := own_slice g1
    subst hv5
    have hN5 := (g2.block _ (Array.getElem?_eq_some_iff.1 hN2).1 (fun e => by obtain ⟨_, cur, hc⟩ := own_type hown e; exact absurd (one_type hN2 hc) (by decide))).trans hN2
    have hP5 := (g2.block _ (Array.getElem?_eq_some_iff.1 hP2).1 (fun e => by obtain ⟨_, cur, hc⟩ := own_type hown e; exact absurd (one_type hP2 hc) (by decide))).trans hP2
    have zP5 := frozen_of hP5 0
    have cP5 := cell_of hP5 0
    have hH5 : (w5.cell? ⟨N, 0, none⟩ = some (.string y.v.name) ∧ w5.cell? ⟨N, 1, none⟩ = some (.int .i64 y.v.lo) ∧ w5.cell? ⟨N, 2, none⟩ = some (.int .i64 y.v.hi)) ∧ w5.cell? ⟨P, 0, none⟩ = some (.slice av m.vars.length cv) := ⟨⟨by (show World.cell? _ _ = _); rw [cell_of hN5 0]; rfl, by (show World.cell? _ _ = _); rw [cell_of hN5 1]; rfl, by (show World.cell? _ _ = _); rw [cell_of hN5 2]; rfl⟩, by (show World.cell? _ _ = _); rw [cell_of hP5 0]; rfl⟩
    refine hK.out _ _ ⟨hH5.1, fun _ => hH5.2⟩ ?_
    clear hK K
    try simp only [Act.put, List.setIfInBounds_toArray, List.set_cons_zero, List.set_cons_succ]
    refine wpAnyFT_takeB (i := 9) (oi := ⟨some 29, .nilCheck (.tmp 20), _, _, _, none⟩) (v := ?vv9) rfl (by kernel_rfl) (by kernel_rfl) (by kernel_rfl) (by kernel_rfl) (by kernel_rfl) qn_panic ⟨Or.inl ⟨by rfl, ?hv9⟩, fun _ => rfl, fun _ e => by cases e⟩ (by assumption) ?rv9
    case hv9 => (intro w hSw; (try dsimp only at hSw); go_simp; try (with_reducible rfl))
    try simp only [Act.put, List.setIfInBounds_toArray, List.set_cons_zero, List.set_cons_succ]
    refine wpAnyFT_takeB (i := 10) (oi := ⟨some 30, .fieldAddr 26 (.tmp 29) 0, _, _, _, none⟩) (v := ?vv10) rfl (by kernel_rfl) (by kernel_rfl) (by kernel_rfl) (by kernel_rfl) (by kernel_rfl) qn_panic ⟨Or.inl ⟨by rfl, ?hv10⟩, fun _ => rfl, fun _ e => by cases e⟩ (by assumption) ?rv10
    case hv10 => (intro w hSw; (try dsimp only at hSw); go_simp; try (with_reducible rfl))
    try simp only [Act.put, List.setIfInBounds_toArray, List.set_cons_zero, List.set_cons_succ]
    refine wpAnyFT_late (i := 11) (o := ⟨none, .store 22 (.tmp 30) (.tmp 28), _, _, _, none⟩) (by kernel_rfl) rfl (by kernel_rfl) (fun K hK => ?_)
    go_simp
    have hN6 : (w5.setCell ⟨P, 0, none⟩ (.slice ad5 (m.vars.length + 1) cp5)).heap[N]? = some (.cells (sayC y.v.name y.v.lo y.v.hi y.c.kind y.c.op (.slice at1 y.c.terms.length ct1) y.c.k y.c.v y.c.x y.c.y (.slice ax1 y.c.xs.length cx1) (.slice ab1 y.c.table.length cb1) (.slice ar1 y.c.rows.length cr1)) 74) := (Below.heap_setCell _ ⟨P, 0, none⟩ _ _ (by simp only; omega)).trans hN5
    refine hK.out _ _ ⟨by (show World.cell? _ _ = _); rw [cell_of hN6 0]; rfl, by (show World.cell? _ _ = _); rw [cell_of hN6 1]; rfl, by (show World.cell? _ _ = _); rw [cell_of hN6 2]; rfl⟩ ?_
    clear hK K
    try simp only [Act.put, List.setIfInBounds_toArray, List.set_cons_zero, List.set_cons_succ]
    refine wpAnyFT_done (by kernel_rfl) ⟨rfl, ?_⟩ _
    gi_wp2
    refine ⟨_, results_none rfl _ _ _, rfl, ?_⟩
    obtain ⟨q1, q2⟩ := HM2.out.more_v y.v g1 (g2.less fun k hk => hk)
    exact ⟨⟨_, _, _, q1⟩, (HO2.out.less fun k hk => hk.elim).trans (q2.less fun k hk => by
      rcases hk with hk | hk
      · exact .inl hk
      · exact .inr (.inl hk))⟩
  · have k10' : (y.c.kind == 10) = false := by simp [k10]
    by_cases k11 : y.c.kind = 11
    · have k11' : (y.c.kind == 11) = true := by simp [k11]
      have he : layT m y = { m with has := true, goal := y.c.terms } := by unfold layT; rw [if_neg k10, if_pos k11]
      rw [he]
      clear he k10 k11
      gi_wp2
      try rw [hN]
      refine wpIn_region_FT (fun w' => w'.cell? ⟨N, 5, none⟩ = some (.slice at1 y.c.terms.length ct1)) (fun _ => True) [] hm ⟨by (show World.cell? _ _ = _); rw [cell_of (show W1.drew.heap[N]? = _ from hN1) 5]; rfl, trivial⟩ (fun hHeld => ?_)
      obtain ⟨W2, hW2⟩ : ∃ W2, W1.drew = W2 := ⟨_, rfl⟩
      rw [hW2] at hHeld ⊢
      have hN2 : W2.heap[N]? = some (.cells (sayC y.v.name y.v.lo y.v.hi y.c.kind y.c.op (.slice at1 y.c.terms.length ct1) y.c.k y.c.v y.c.x y.c.y (.slice ax1 y.c.xs.length cx1) (.slice ab1 y.c.table.length cb1) (.slice ar1 y.c.rows.length cr1)) 74) := hW2 ▸ hN1
      have hP2 : W2.heap[P]? = some (.cells #[.slice av m.vars.length cv, .slice ac m.cons.length cc, .bool m.has, vg] 26 (0, 0)) := hW2 ▸ hP1
      have od : Ofw (fun _ => False) W1 W2 := hW2 ▸ Ofw.of_below (Below.refl _ _).drew
      have HM2 : Hid (MoIs B P m (.slice av m.vars.length cv) (.slice ac m.cons.length cc) vg W2) := HM1.out.off od (fun _ f => f.elim)
      have HY2 : Hid (SyV B y (.slice at1 y.c.terms.length ct1) (.slice ax1 y.c.xs.length cx1) (.slice ab1 y.c.table.length cb1) (.slice ar1 y.c.rows.length cr1) W2) := HY1.out.off od (fun _ f => f.elim)
      have HO2 : Hid (Ofw (fun _ => False) w W2) := HO1.out.trans od
      clear hW2 od HM1 HY1 HO1
      refine wpAnyFT_takeB (i := 0) (oi := ⟨some 33, .move (.tmp 0), _, _, _, none⟩) (v := ?vg0) rfl (by kernel_rfl) (by kernel_rfl) (by kernel_rfl) (by kernel_rfl) (by kernel_rfl) qn_panic ⟨Or.inl ⟨by rfl, ?hg0⟩, fun _ => rfl, fun _ e => by cases e⟩ (by assumption) ?rg0
      case hg0 => (intro w hSw; (try dsimp only at hSw); go_simp; try (with_reducible rfl))
      try simp only [Act.put, List.setIfInBounds_toArray, List.set_cons_zero, List.set_cons_succ]
      refine wpAnyFT_takeB (i := 1) (oi := ⟨some 34, .move (.tmp 0), _, _, _, none⟩) (v := ?vg1) rfl (by kernel_rfl) (by kernel_rfl) (by kernel_rfl) (by kernel_rfl) (by kernel_rfl) qn_panic ⟨Or.inl ⟨by rfl, ?hg1⟩, fun _ => rfl, fun _ e => by cases e⟩ (by assumption) ?rg1
      case hg1 => (intro w hSw; (try dsimp only at hSw); go_simp; try (with_reducible rfl))
      try simp only [Act.put, List.setIfInBounds_toArray, List.set_cons_zero, List.set_cons_succ]
      refine wpAnyFT_takeB (i := 2) (oi := ⟨some 35, .fieldAddr 74 (.tmp 3) 1, _, _, _, none⟩) (v := ?vg2) rfl (by kernel_rfl) (by kernel_rfl) (by kernel_rfl) (by kernel_rfl) (by kernel_rfl) qn_panic ⟨Or.inl ⟨by rfl, ?hg2⟩, fun _ => rfl, fun _ e => by cases e⟩ (by assumption) ?rg2
      case hg2 => (intro w hSw; (try dsimp only at hSw); go_simp; try (with_reducible rfl))
      try simp only [Act.put, List.setIfInBounds_toArray, List.set_cons_zero, List.set_cons_succ]
      refine wpAnyFT_takeB (i := 3) (oi := ⟨some 36, .fieldAddr 61 (.tmp 35) 2, _, _, _, none⟩) (v := ?vg3) rfl (by kernel_rfl) (by kernel_rfl) (by kernel_rfl) (by kernel_rfl) (by kernel_rfl) qn_panic ⟨Or.inl ⟨by rfl, ?hg3⟩, fun _ => rfl, fun _ e => by cases e⟩ (by assumption) ?rg3
      case hg3 => (intro w hSw; (try dsimp only at hSw); go_simp; try (with_reducible rfl))
      try simp only [Act.put, List.setIfInBounds_toArray, List.set_cons_zero, List.set_cons_succ]
      refine wpAnyFT_takeB (i := 4) (oi := ⟨some 37, .load 24 (.tmp 36), _, _, _, none⟩) (v := ?vg4) rfl (by kernel_rfl) (by kernel_rfl) (by kernel_rfl) (by kernel_rfl) (by kernel_rfl) qn_panic ⟨Or.inl ⟨by rfl, ?hg4⟩, fun _ => rfl, fun _ e => by cases e⟩ (by assumption) ?rg4
      case hg4 => (intro w hSw; (try dsimp only at hSw); go_simp; try (with_reducible rfl))
      try simp only [Act.put, List.setIfInBounds_toArray, List.set_cons_zero, List.set_cons_succ]
      refine wpAnyFT_takeB (i := 5) (oi := ⟨some 38, .nilCheck (.tmp 33), _, _, _, none⟩) (v := ?vg5) rfl (by kernel_rfl) (by kernel_rfl) (by kernel_rfl) (by kernel_rfl) (by kernel_rfl) qn_panic ⟨Or.inl ⟨by rfl, ?hg5⟩, fun _ => rfl, fun _ e => by cases e⟩ (by assumption) ?rg5
      case hg5 => (intro w hSw; (try dsimp only at hSw); go_simp; try (with_reducible rfl))
      try simp only [Act.put, List.setIfInBounds_toArray, List.set_cons_zero, List.set_cons_succ]
      refine wpAnyFT_takeB (i := 6) (oi := ⟨some 39, .fieldAddr 26 (.tmp 38) 2, _, _, _, none⟩) (v := ?vg6) rfl (by kernel_rfl) (by kernel_rfl) (by kernel_rfl) (by kernel_rfl) (by kernel_rfl) qn_panic ⟨Or.inl ⟨by rfl, ?hg6⟩, fun _ => rfl, fun _ e => by cases e⟩ (by assumption) ?rg6
      case hg6 => (intro w hSw; (try dsimp only at hSw); go_simp; try (with_reducible rfl))
      try simp only [Act.put, List.setIfInBounds_toArray, List.set_cons_zero, List.set_cons_succ]
      have cP2 := cell_of hP2 2
      have zP2 := frozen_of hP2 2
      refine wpAnyFT_one (i := 7) (o := ⟨none, .store 4 (.tmp 39) (.const (.bool true)), _, _, _, none⟩) (by kernel_rfl) rfl (fun K hK => ?_)
      go_simp
      obtain ⟨W3, hW3⟩ : ∃ W3, W2.setCell ⟨P, 2, none⟩ (.bool true) = W3 := ⟨_, rfl⟩
      try rw [hW3]
      have hN3 : W3.heap[N]? = some (.cells (sayC y.v.name y.v.lo y.v.hi y.c.kind y.c.op (.slice at1 y.c.terms.length ct1) y.c.k y.c.v y.c.x y.c.y (.slice ax1 y.c.xs.length cx1) (.slice ab1 y.c.table.length cb1) (.slice ar1 y.c.rows.length cr1)) 74) := hW3 ▸ (Below.heap_setCell W2 ⟨P, 2, none⟩ _ _ (by simp only; omega)).trans hN2
      have hP3 : W3.heap[P]? = some (.cells #[.slice av m.vars.length cv, .slice ac m.cons.length cc, .bool true, vg] 26 (0, 0)) := hW3 ▸ set_of hP2 2 _
      have o3 : Ofw (fun k => k = P) W2 W3 := hW3 ▸ Ofw.set _ rfl
      clear hW3 cP2 zP2
      have hH3 : (W3.cell? ⟨N, 5, none⟩ = some (.slice at1 y.c.terms.length ct1)) ∧ True := ⟨by (show World.cell? _ _ = _); rw [cell_of hN3 5]; rfl, trivial⟩
      refine hK.out _ _ ⟨hH3.1, fun _ => trivial⟩ ?_
      clear hK K
      try simp only [Act.put, List.setIfInBounds_toArray, List.set_cons_zero, List.set_cons_succ]
      refine wpAnyFT_takeB (i := 8) (oi := ⟨some 40, .nilCheck (.tmp 34), _, _, _, none⟩) (v := ?vg8) rfl (by kernel_rfl) (by kernel_rfl) (by kernel_rfl) (by kernel_rfl) (by kernel_rfl) qn_panic ⟨Or.inl ⟨by rfl, ?hg8⟩, fun _ => rfl, fun _ e => by cases e⟩ (by assumption) ?rg8
      case hg8 => (intro w hSw; (try dsimp only at hSw); go_simp; try (with_reducible rfl))
      try simp only [Act.put, List.setIfInBounds_toArray, List.set_cons_zero, List.set_cons_succ]
      refine wpAnyFT_takeB (i := 9) (oi := ⟨some 41, .fieldAddr 26 (.tmp 40) 3, _, _, _, none⟩) (v := ?vg9) rfl (by kernel_rfl) (by kernel_rfl) (by kernel_rfl) (by kernel_rfl) (by kernel_rfl) qn_panic ⟨Or.inl ⟨by rfl, ?hg9⟩, fun _ => rfl, fun _ e => by cases e⟩ (by assumption) ?rg9
      case hg9 => (intro w hSw; (try dsimp only at hSw); go_simp; try (with_reducible rfl))
      try simp only [Act.put, List.setIfInBounds_toArray, List.set_cons_zero, List.set_cons_succ]
      have cP3 := cell_of hP3 3
      have zP3 := frozen_of hP3 3
      refine wpAnyFT_one (i := 10) (o := ⟨none, .store 24 (.tmp 41) (.tmp 37), _, _, _, none⟩) (by kernel_rfl) rfl (fun K hK => ?_)
      go_simp
      obtain ⟨W4, hW4⟩ : ∃ W4, W3.setCell ⟨P, 3, none⟩ (.slice at1 y.c.terms.length ct1) = W4 := ⟨_, rfl⟩
      try rw [hW4]
      have hN4 : W4.heap[N]? = some (.cells (sayC y.v.name y.v.lo y.v.hi y.c.kind y.c.op (.slice at1 y.c.terms.length ct1) y.c.k y.c.v y.c.x y.c.y (.slice ax1 y.c.xs.length cx1) (.slice ab1 y.c.table.length cb1) (.slice ar1 y.c.rows.length cr1)) 74) := hW4 ▸ (Below.heap_setCell W3 ⟨P, 3, none⟩ _ _ (by simp only; omega)).trans hN3
      have hP4 : W4.heap[P]? = some (.cells #[.slice av m.vars.length cv, .slice ac m.cons.length cc, .bool true, .slice at1 y.c.terms.length ct1] 26 (0, 0)) := hW4 ▸ set_of hP3 3 _
      have o4 : Ofw (fun k => k = P) W2 W4 := o3.trans (hW4 ▸ Ofw.set _ rfl)
      clear hW4 cP3 zP3
      refine hK.out _ _ ⟨by (show World.cell? _ _ = _); rw [cell_of hN4 5]; rfl, fun _ => trivial⟩ ?_
      clear hK K
      try simp only [Act.put, List.setIfInBounds_toArray, List.set_cons_zero, List.set_cons_succ]
      refine wpAnyFT_done (by kernel_rfl) ⟨rfl, ?_⟩ _
      gi_wp2
      refine ⟨_, results_none rfl _ _ _, rfl, ⟨_, _, _, HM2.out.goal HY2.out.t hP4 o4⟩, (HO2.out.less fun k hk => hk.elim).trans (o4.less fun k hk => .inl hk)⟩
    · have k11' : (y.c.kind == 11) = false := by simp [k11]
      have he : layT m y = { m with cons := m.cons ++ [y.c] } := by unfold layT; rw [if_neg k10, if_neg k11]
      rw [he]
      clear he k10 k11
      gi_wp2
      try rw [hN]
      refine wpIn_region_FT (fun w' => w'.cell? ⟨N, 3, none⟩ = some (.int .i64 y.c.kind) ∧ w'.cell? ⟨N, 4, none⟩ = some (.int .i64 y.c.op) ∧ w'.cell? ⟨N, 5, none⟩ = some (.slice at1 y.c.terms.length ct1) ∧ w'.cell? ⟨N, 6, none⟩ = some (.int .i64 y.c.k) ∧ w'.cell? ⟨N, 7, none⟩ = some (.int .i64 y.c.v) ∧ w'.cell? ⟨N, 8, none⟩ = some (.int .i64 y.c.x) ∧ w'.cell? ⟨N, 9, none⟩ = some (.int .i64 y.c.y) ∧ w'.cell? ⟨N, 10, none⟩ = some (.slice ax1 y.c.xs.length cx1) ∧ w'.cell? ⟨N, 11, none⟩ = some (.slice ab1 y.c.table.length cb1) ∧ w'.cell? ⟨N, 12, none⟩ = some (.slice ar1 y.c.rows.length cr1)) (fun w' => w'.cell? ⟨P, 1, none⟩ = some (.slice ac m.cons.length cc)) [11] hm ⟨⟨by (show World.cell? _ _ = _); rw [cell_of (show W1.drew.heap[N]? = _ from hN1) 3]; rfl, by (show World.cell? _ _ = _); rw [cell_of (show W1.drew.heap[N]? = _ from hN1) 4]; rfl, by (show World.cell? _ _ = _); rw [cell_of (show W1.drew.heap[N]? = _ from hN1) 5]; rfl, by (show World.cell? _ _ = _); rw [cell_of (show W1.drew.heap[N]? = _ from hN1) 6]; rfl, by (show World.cell? _ _ = _); rw [cell_of (show W1.drew.heap[N]? = _ from hN1) 7]; rfl, by (show World.cell? _ _ = _); rw [cell_of (show W1.drew.heap[N]? = _ from hN1) 8]; rfl, by (show World.cell? _ _ = _); rw [cell_of (show W1.drew.heap[N]? = _ from hN1) 9]; rfl, by (show World.cell? _ _ = _); rw [cell_of (show W1.drew.heap[N]? = _ from hN1) 10]; rfl, by (show World.cell? _ _ = _); rw [cell_of (show W1.drew.heap[N]? = _ from hN1) 11]; rfl, by (show World.cell? _ _ = _); rw [cell_of (show W1.drew.heap[N]? = _ from hN1) 12]; rfl⟩, by (show World.cell? _ _ = _); rw [cell_of (show W1.drew.heap[P]? = _ from hP1) 1]; rfl⟩ (fun hHeld => ?_)
      obtain ⟨W2, hW2⟩ : ∃ W2, W1.drew = W2 := ⟨_, rfl⟩
      rw [hW2] at hHeld ⊢
      have hN2 : W2.heap[N]? = some (.cells (sayC y.v.name y.v.lo y.v.hi y.c.kind y.c.op (.slice at1 y.c.terms.length ct1) y.c.k y.c.v y.c.x y.c.y (.slice ax1 y.c.xs.length cx1) (.slice ab1 y.c.table.length cb1) (.slice ar1 y.c.rows.length cr1)) 74) := hW2 ▸ hN1
      have hP2 : W2.heap[P]? = some (.cells #[.slice av m.vars.length cv, .slice ac m.cons.length cc, .bool m.has, vg] 26 (0, 0)) := hW2 ▸ hP1
      have od : Ofw (fun _ => False) W1 W2 := hW2 ▸ Ofw.of_below (Below.refl _ _).drew
      have HM2 : Hid (MoIs B P m (.slice av m.vars.length cv) (.slice ac m.cons.length cc) vg W2) := HM1.out.off od (fun _ f => f.elim)
      have HY2 : Hid (SyV B y (.slice at1 y.c.terms.length ct1) (.slice ax1 y.c.xs.length cx1) (.slice ab1 y.c.table.length cb1) (.slice ar1 y.c.rows.length cr1) W2) := HY1.out.off od (fun _ f => f.elim)
      have HO2 : Hid (Ofw (fun _ => False) w W2) := HO1.out.trans od
      have hs2 : Hid (W2.heap.size = N + 1) := by rw [← hW2]; exact hs1
      clear hW2 od HM1 HY1 HO1
      obtain ⟨xs0, hown⟩ : ∃ xs, W2.ownsRow B 61 10 (.slice ac m.cons.length cc) m.cons.length xs := (by obtain ⟨L, _, h, _⟩ := HM2.out.k; exact ⟨_, h⟩)
      refine wpAnyFT_takeB (i := 0) (oi := ⟨some 7, .move (.tmp 0), _, _, _, none⟩) (v := ?vc0) rfl (by kernel_rfl) (by kernel_rfl) (by kernel_rfl) (by kernel_rfl) (by kernel_rfl) qn_panic ⟨Or.inl ⟨by rfl, ?hc0⟩, fun _ => rfl, fun _ e => by cases e⟩ (by assumption) ?rc0
      case hc0 => (intro w hSw; (try dsimp only at hSw); go_simp; try (with_reducible rfl))
      try simp only [Act.put, List.setIfInBounds_toArray, List.set_cons_zero, List.set_cons_succ]
      refine wpAnyFT_takeB (i := 1) (oi := ⟨some 8, .move (.tmp 0), _, _, _, none⟩) (v := ?vc1) rfl (by kernel_rfl) (by kernel_rfl) (by kernel_rfl) (by kernel_rfl) (by kernel_rfl) qn_panic ⟨Or.inl ⟨by rfl, ?hc1⟩, fun _ => rfl, fun _ e => by cases e⟩ (by assumption) ?rc1
      case hc1 => (intro w hSw; (try dsimp only at hSw); go_simp; try (with_reducible rfl))
      try simp only [Act.put, List.setIfInBounds_toArray, List.set_cons_zero, List.set_cons_succ]
      refine wpAnyFT_takeB (i := 2) (oi := ⟨some 9, .nilCheck (.tmp 8), _, _, _, none⟩) (v := ?vc2) rfl (by kernel_rfl) (by kernel_rfl) (by kernel_rfl) (by kernel_rfl) (by kernel_rfl) qn_panic ⟨Or.inl ⟨by rfl, ?hc2⟩, fun _ => rfl, fun _ e => by cases e⟩ (by assumption) ?rc2
      case hc2 => (intro w hSw; (try dsimp only at hSw); go_simp; try (with_reducible rfl))
      try simp only [Act.put, List.setIfInBounds_toArray, List.set_cons_zero, List.set_cons_succ]
      refine wpAnyFT_takeB (i := 3) (oi := ⟨some 10, .fieldAddr 26 (.tmp 9) 1, _, _, _, none⟩) (v := ?vc3) rfl (by kernel_rfl) (by kernel_rfl) (by kernel_rfl) (by kernel_rfl) (by kernel_rfl) qn_panic ⟨Or.inl ⟨by rfl, ?hc3⟩, fun _ => rfl, fun _ e => by cases e⟩ (by assumption) ?rc3
      case hc3 => (intro w hSw; (try dsimp only at hSw); go_simp; try (with_reducible rfl))
      try simp only [Act.put, List.setIfInBounds_toArray, List.set_cons_zero, List.set_cons_succ]
      refine wpAnyFT_take (i := 4) (oi := ⟨some 11, .load 23 (.tmp 10), _, _, _, none⟩) (v := ?vc4) rfl (by kernel_rfl) (by kernel_rfl) (by kernel_rfl) (by kernel_rfl) (by kernel_rfl) (by kernel_rfl) qn_panic ⟨Or.inl ⟨by rfl, ?hc4⟩, fun _ => rfl, fun _ e => by cases e⟩ (by assumption) ?rc4
      case hc4 => (intro w hSw; (try dsimp only at hSw); go_simp; try (with_reducible rfl))
      try simp only [Act.put, List.setIfInBounds_toArray, List.set_cons_zero, List.set_cons_succ]
      refine wpAnyFT_takeB (i := 5) (oi := ⟨some 12, .fieldAddr 74 (.tmp 3) 1, _, _, _, none⟩) (v := ?vc5) rfl (by kernel_rfl) (by kernel_rfl) (by kernel_rfl) (by kernel_rfl) (by kernel_rfl) qn_panic ⟨Or.inl ⟨by rfl, ?hc5⟩, fun _ => rfl, fun _ e => by cases e⟩ (by assumption) ?rc5
      case hc5 => (intro w hSw; (try dsimp only at hSw); go_simp; try (with_reducible rfl))
      try simp only [Act.put, List.setIfInBounds_toArray, List.set_cons_zero, List.set_cons_succ]
      refine wpAnyFT_takeB (i := 6) (oi := ⟨some 13, .load 61 (.tmp 12), _, _, _, none⟩) (v := ?vc6) rfl (by kernel_rfl) (by kernel_rfl) (by kernel_rfl) (by kernel_rfl) (by kernel_rfl) qn_panic ⟨Or.inl ⟨by rfl, ?hc6⟩, fun _ => rfl, fun _ e => by cases e⟩ (by assumption) ?rc6
      case hc6 => (intro w hSw; (try dsimp only at hSw); go_simp; try (with_reducible rfl))
      try simp only [Act.put, List.setIfInBounds_toArray, List.set_cons_zero, List.set_cons_succ]
      refine wpAnyFT_one (i := 7) (o := ⟨some 14, .buildSlice 23 1 #[(0, .tmp 13)], _, _, _, none⟩) (by kernel_rfl) rfl (fun K hK => ?_)
      obtain ⟨V1, hV1⟩ : ∃ V1, W2.alloc (.cells #[.int .i64 y.c.kind, .int .i64 y.c.op, .slice at1 y.c.terms.length ct1, .int .i64 y.c.k, .int .i64 y.c.v, .int .i64 y.c.x, .int .i64 y.c.y, .slice ax1 y.c.xs.length cx1, .slice ab1 y.c.table.length cb1, .slice ar1 y.c.rows.length cr1] 61) = V1 := ⟨_, rfl⟩
      have bV : Below W2.heap.size W2 V1 := hV1 ▸ (Below.refl _ _).alloc (Nat.le_refl _) _
      have hNV := (bV.block _ (Array.getElem?_eq_some_iff.1 hN2).1).trans hN2
      have hPV := (bV.block _ (Array.getElem?_eq_some_iff.1 hP2).1).trans hP2
      go_simp
      try rw [hV1]
      refine hK.out _ _ ⟨⟨by (show World.cell? _ _ = _); rw [cell_of hNV 3]; rfl, by (show World.cell? _ _ = _); rw [cell_of hNV 4]; rfl, by (show World.cell? _ _ = _); rw [cell_of hNV 5]; rfl, by (show World.cell? _ _ = _); rw [cell_of hNV 6]; rfl, by (show World.cell? _ _ = _); rw [cell_of hNV 7]; rfl, by (show World.cell? _ _ = _); rw [cell_of hNV 8]; rfl, by (show World.cell? _ _ = _); rw [cell_of hNV 9]; rfl, by (show World.cell? _ _ = _); rw [cell_of hNV 10]; rfl, by (show World.cell? _ _ = _); rw [cell_of hNV 11]; rfl, by (show World.cell? _ _ = _); rw [cell_of hNV 12]; rfl⟩, fun _ => by (show World.cell? _ _ = _); rw [cell_of hPV 1]; rfl⟩ ?_
      clear hK K
      try simp only [Act.put, List.setIfInBounds_toArray, List.set_cons_zero, List.set_cons_succ]
      refine wpAnyFT_one (i := 8) (o := ⟨some 15, .call { callee := .builtin .append, args := #[.tmp 11, .tmp 14], argTypes := #[23, 23] }, _, _, _, none⟩) (by kernel_rfl) rfl (fun K hK => ?_)
      refine opIn_push W2 V1 (.tmp 11) (.tmp 14) 23 61 (.agg #[.int .i64 0, .int .i64 0, .slice none 0 0, .int .i64 0, .int .i64 0, .int .i64 0, .int .i64 0, .slice none 0 0, .slice none 0 0, .slice none 0 0]) 10 144 rfl Tryz.underlying23 (by kernel_rfl) rfl (by decide) B (.slice ac m.cons.length cc) m.cons.length _ #[.int .i64 y.c.kind, .int .i64 y.c.op, .slice at1 y.c.terms.length ct1, .int .i64 y.c.k, .int .i64 y.c.v, .int .i64 y.c.x, .int .i64 y.c.y, .slice ax1 y.c.xs.length cx1, .slice ab1 y.c.table.length cb1, .slice ar1 y.c.rows.length cr1] (by rfl) (by rfl) hV1 hown rfl (by intro u hu; simp at hu; rcases hu with rfl | rfl | rfl | rfl | rfl | rfl | rfl | rfl | rfl | rfl <;> rfl) (by unfold maxLen; omega) (by omega) (by have := hs2.out; omega) (by rfl) ?_
      intro v5 w5 g1 g2 g3
      obtain ⟨ad5, cp5, hv5⟩ := own_slice g1
      subst hv5
      have hN5 := (g2.block _ (Array.getElem?_eq_some_iff.1 hN2).1 (fun e => by obtain ⟨_, cur, hc⟩ := own_type hown e; exact absurd (one_type hN2 hc) (by decide))).trans hN2
      have hP5 := (g2.block _ (Array.getElem?_eq_some_iff.1 hP2).1 (fun e => by obtain ⟨_, cur, hc⟩ := own_type hown e; exact absurd (one_type hP2 hc) (by decide))).trans hP2
      have zP5 := frozen_of hP5 1
      have cP5 := cell_of hP5 1
      have hH5 : (w5.cell? ⟨N, 3, none⟩ = some (.int .i64 y.c.kind) ∧ w5.cell? ⟨N, 4, none⟩ = some (.int .i64 y.c.op) ∧ w5.cell? ⟨N, 5, none⟩ = some (.slice at1 y.c.terms.length ct1) ∧ w5.cell? ⟨N, 6, none⟩ = some (.int .i64 y.c.k) ∧ w5.cell? ⟨N, 7, none⟩ = some (.int .i64 y.c.v) ∧ w5.cell? ⟨N, 8, none⟩ = some (.int .i64 y.c.x) ∧ w5.cell? ⟨N, 9, none⟩ = some (.int .i64 y.c.y) ∧ w5.cell? ⟨N, 10, none⟩ = some (.slice ax1 y.c.xs.length cx1) ∧ w5.cell? ⟨N, 11, none⟩ = some (.slice ab1 y.c.table.length cb1) ∧ w5.cell? ⟨N, 12, none⟩ = some (.slice ar1 y.c.rows.length cr1)) ∧ w5.cell? ⟨P, 1, none⟩ = some (.slice ac m.cons.length cc) := ⟨⟨by (show World.cell? _ _ = _); rw [cell_of hN5 3]; rfl, by (show World.cell? _ _ = _); rw [cell_of hN5 4]; rfl, by (show World.cell? _ _ = _); rw [cell_of hN5 5]; rfl, by (show World.cell? _ _ = _); rw [cell_of hN5 6]; rfl, by (show World.cell? _ _ = _); rw [cell_of hN5 7]; rfl, by (show World.cell? _ _ = _); rw [cell_of hN5 8]; rfl, by (show World.cell? _ _ = _); rw [cell_of hN5 9]; rfl, by (show World.cell? _ _ = _); rw [cell_of hN5 10]; rfl, by (show World.cell? _ _ = _); rw [cell_of hN5 11]; rfl, by (show World.cell? _ _ = _); rw [cell_of hN5 12]; rfl⟩, by (show World.cell? _ _ = _); rw [cell_of hP5 1]; rfl⟩
      refine hK.out _ _ ⟨hH5.1, fun _ => hH5.2⟩ ?_
      clear hK K
      try simp only [Act.put, List.setIfInBounds_toArray, List.set_cons_zero, List.set_cons_succ]
      refine wpAnyFT_takeB (i := 9) (oi := ⟨some 16, .nilCheck (.tmp 7), _, _, _, none⟩) (v := ?vc9) rfl (by kernel_rfl) (by kernel_rfl) (by kernel_rfl) (by kernel_rfl) (by kernel_rfl) qn_panic ⟨Or.inl ⟨by rfl, ?hc9⟩, fun _ => rfl, fun _ e => by cases e⟩ (by assumption) ?rc9
      case hc9 => (intro w hSw; (try dsimp only at hSw); go_simp; try (with_reducible rfl))
      try simp only [Act.put, List.setIfInBounds_toArray, List.set_cons_zero, List.set_cons_succ]
      refine wpAnyFT_takeB (i := 10) (oi := ⟨some 17, .fieldAddr 26 (.tmp 16) 1, _, _, _, none⟩) (v := ?vc10) rfl (by kernel_rfl) (by kernel_rfl) (by kernel_rfl) (by kernel_rfl) (by kernel_rfl) qn_panic ⟨Or.inl ⟨by rfl, ?hc10⟩, fun _ => rfl, fun _ e => by cases e⟩ (by assumption) ?rc10
      case hc10 => (intro w hSw; (try dsimp only at hSw); go_simp; try (with_reducible rfl))
      try simp only [Act.put, List.setIfInBounds_toArray, List.set_cons_zero, List.set_cons_succ]
      refine wpAnyFT_late (i := 11) (o := ⟨none, .store 23 (.tmp 17) (.tmp 15), _, _, _, none⟩) (by kernel_rfl) rfl (by kernel_rfl) (fun K hK => ?_)
      go_simp
      have hN6 : (w5.setCell ⟨P, 1, none⟩ (.slice ad5 (m.cons.length + 1) cp5)).heap[N]? = some (.cells (sayC y.v.name y.v.lo y.v.hi y.c.kind y.c.op (.slice at1 y.c.terms.length ct1) y.c.k y.c.v y.c.x y.c.y (.slice ax1 y.c.xs.length cx1) (.slice ab1 y.c.table.length cb1) (.slice ar1 y.c.rows.length cr1)) 74) := (Below.heap_setCell _ ⟨P, 1, none⟩ _ _ (by simp only; omega)).trans hN5
      refine hK.out _ _ ⟨by (show World.cell? _ _ = _); rw [cell_of hN6 3]; rfl, by (show World.cell? _ _ = _); rw [cell_of hN6 4]; rfl, by (show World.cell? _ _ = _); rw [cell_of hN6 5]; rfl, by (show World.cell? _ _ = _); rw [cell_of hN6 6]; rfl, by (show World.cell? _ _ = _); rw [cell_of hN6 7]; rfl, by (show World.cell? _ _ = _); rw [cell_of hN6 8]; rfl, by (show World.cell? _ _ = _); rw [cell_of hN6 9]; rfl, by (show World.cell? _ _ = _); rw [cell_of hN6 10]; rfl, by (show World.cell? _ _ = _); rw [cell_of hN6 11]; rfl, by (show World.cell? _ _ = _); rw [cell_of hN6 12]; rfl⟩ ?_
      clear hK K
      try simp only [Act.put, List.setIfInBounds_toArray, List.set_cons_zero, List.set_cons_succ]
      refine wpAnyFT_done (by kernel_rfl) ⟨rfl, ?_⟩ _
      gi_wp2
      refine ⟨_, results_none rfl _ _ _, rfl, ?_⟩
      obtain ⟨q1, q2⟩ := HM2.out.more_c ⟨y.c, _, _, _, _⟩ ⟨HY2.out.t, HY2.out.x, HY2.out.b, HY2.out.r⟩ (fun xs hxs => by
        have e2 : xs0 = xs := own_eq hown hxs
        rw [← e2]; exact g1) (g2.less fun k hk => hk)
      exact ⟨⟨_, _, _, q1⟩, (HO2.out.less fun k hk => hk.elim).trans (q2.less fun k hk => by
        rcases hk with hk | hk
        · exact .inl hk
        · exact .inr (.inr hk))⟩
end Go.Proofs.YthohnmplbjhjaaaGreatDoor
