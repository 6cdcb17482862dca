/-
  Put together: TrLay, TrBad, TrMem, TrEnds.
-/
import Derived.Test.YthohnmplbjhjaaaGreatDoorJ34
import Derived.Test.YthohnmplbjhjaaaGreatDoorJ27
namespace Go.Proofs.YthohnmplbjhjaaaGreatDoor
open Go Go.RowKit Go.Shelf Go.Lib
attribute [local go_sem] Oper.semAt_some
set_option maxRecDepth 100000 in
set_option maxHeartbeats 4000000 in
theorem Qp {m : Md.Mo} {y : Sy} {B P : Nat} {vv vc vg vt vx vb vr : Value} (w : World) (h : MoIs B P m vv vc vg w) (hs : SyV B y vt vx vb vr w) (hnv : m.vars.length ≤ 1000) (hnc : m.cons.length ≤ 1000) : Calls Tryz.prog 50 #[.pointer (some ⟨P, 0, none⟩), .agg (sayC y.v.name y.v.lo y.v.hi y.c.kind y.c.op vt y.c.k y.c.v y.c.x y.c.y vx vb vr)] w fun e w' => e = .returned (.tuple #[]) ∧ MoI B P (layT m y) w' ∧ Ofw (fun k => k = P ∨ vv.ownBlock = some k ∨ vc.ownBlock = some k) w w' := by
  obtain ⟨at1, ct1, hvt⟩ := yA hs.t
  obtain ⟨ax1, cx1, hvx⟩ := yA hs.x
  obtain ⟨ab1, cb1, hvb⟩ := yA hs.b
  obtain ⟨vs, D, hr, hrs⟩ := hs.r
  obtain ⟨ar1, cr1, hvr⟩ := yA hr
  subst hvt hvx hvb hvr
  obtain ⟨av, cv, hvv⟩ := yA h.v
  obtain ⟨L, hL, hk, hsL⟩ := h.k
  obtain ⟨ac, cc, hvc⟩ := yA hk
  subst hvv hvc
  obtain ⟨W1, hW1⟩ : ∃ W1, w.alloc (.cells (sayC y.v.name y.v.lo y.v.hi y.c.kind y.c.op (.slice at1 y.c.terms.length ct1) y.c.k y.c.v y.c.x y.c.y (.slice ax1 y.c.xs.length cx1) (.slice ab1 y.c.table.length cb1) (.slice ar1 y.c.rows.length cr1)) 74) = W1 := ⟨_, rfl⟩
  obtain ⟨N, hN⟩ : ∃ N, w.heap.size = N := ⟨_, rfl⟩
  have hb1 : Below w.heap.size w W1 := hW1 ▸ (Below.refl _ _).alloc (Nat.le_refl _) _
  have hs1 : W1.heap.size = N + 1 := by rw [← hW1, ← hN]; simp
  have hN1 : W1.heap[N]? = some (.cells (sayC y.v.name y.v.lo y.v.hi y.c.kind y.c.op (.slice at1 y.c.terms.length ct1) y.c.k y.c.v y.c.x y.c.y (.slice ax1 y.c.xs.length cx1) (.slice ab1 y.c.table.length cb1) (.slice ar1 y.c.rows.length cr1)) 74) := by rw [← hW1, ← hN]; exact heap_alloc_new w _
  have hPl := (Array.getElem?_eq_some_iff.1 h.o).1
  have hlo := h.lo
  have hPN : P < N := by omega
  have hP1 : W1.heap[P]? = some (.cells #[.slice av m.vars.length cv, .slice ac m.cons.length cc, .bool m.has, vg] 26 (0, 0)) := (hb1.block _ hPl).trans h.o
  have ob : Ofw (fun _ => False) w W1 := Ofw.of_below hb1
  have HM1 : Hid (MoIs B P m (.slice av m.vars.length cv) (.slice ac m.cons.length cc) vg W1) := h.off ob (fun _ f => f.elim)
  have HY1 : Hid (SyV B y (.slice at1 y.c.terms.length ct1) (.slice ax1 y.c.xs.length cx1) (.slice ab1 y.c.table.length cb1) (.slice ar1 y.c.rows.length cr1) W1) := hs.off ob (fun _ f => f.elim)
  have HO1 : Hid (Ofw (fun _ => False) w W1) := ob
  have hm : Tryz.prog.follows .mixedOrders = true := by kernel_rfl
  clear h hs hk hsL hL hr hrs
  refine (callsIn_wide (n := 5)).1 ?_
  refine callsIn_of_wp_marks Tryz.func50 rfl trivial ?_ rfl
  unfold sayC at hW1
  have e0 : Value.agg (sayC y.v.name y.v.lo y.v.hi y.c.kind y.c.op (.slice at1 y.c.terms.length ct1) y.c.k y.c.v y.c.x y.c.y (.slice ax1 y.c.xs.length cx1) (.slice ab1 y.c.table.length cb1) (.slice ar1 y.c.rows.length cr1)) = .agg #[.string y.v.name, .int .i64 y.v.lo, .int .i64 y.v.hi, .int .i64 y.c.kind, .int .i64 y.c.op, .slice at1 y.c.terms.length ct1, .int .i64 y.c.k, .int .i64 y.c.v, .int .i64 y.c.x, .int .i64 y.c.y, .slice ax1 y.c.xs.length cx1, .slice ab1 y.c.table.length cb1, .slice ar1 y.c.rows.length cr1] := rfl
  rw [e0]
  clear e0
  simp only [Tryz.ntmps50, List.size_toArray, List.length_cons, List.length_nil, Nat.reduceAdd, Nat.reduceSub, Array.replicate_succ, Array.replicate_zero, List.push_toArray, List.append_toArray, List.nil_append, List.cons_append]
  have c3 : W1.cell? ⟨N, 3, none⟩ = some (.int .i64 y.c.kind) := by rw [yc hN1 3]; rfl
  by_cases k10 : y.c.kind = 10
  · have k10' : (y.c.kind == 10) = true := by simp [k10]
    have he : layT m y = { m with vars := m.vars ++ [y.v] } := by unfold layT; rw [if_pos k10]
    rw [he]
    clear he k10
    gi_wp2
    try rw [hN]
    refine zQ (fun w' => w'.cell? ⟨N, 0, none⟩ = some (.string y.v.name) ∧ w'.cell? ⟨N, 1, none⟩ = some (.int .i64 y.v.lo) ∧ w'.cell? ⟨N, 2, none⟩ = some (.int .i64 y.v.hi)) (fun w' => w'.cell? ⟨P, 0, none⟩ = some (.slice av m.vars.length cv)) [11] hm ⟨⟨by (show World.cell? _ _ = _); rw [yc (show W1.drew.heap[N]? = _ from hN1) 0]; rfl, by (show World.cell? _ _ = _); rw [yc (show W1.drew.heap[N]? = _ from hN1) 1]; rfl, by (show World.cell? _ _ = _); rw [yc (show W1.drew.heap[N]? = _ from hN1) 2]; rfl⟩, by (show World.cell? _ _ = _); rw [yc (show W1.drew.heap[P]? = _ from hP1) 0]; rfl⟩ (fun hHeld => ?_)
    obtain ⟨W2, hW2⟩ : ∃ W2, W1.drew = W2 := ⟨_, rfl⟩
    rw [hW2] at hHeld ⊢
    have hN2 : W2.heap[N]? = some (.cells (sayC y.v.name y.v.lo y.v.hi y.c.kind y.c.op (.slice at1 y.c.terms.length ct1) y.c.k y.c.v y.c.x y.c.y (.slice ax1 y.c.xs.length cx1) (.slice ab1 y.c.table.length cb1) (.slice ar1 y.c.rows.length cr1)) 74) := hW2 ▸ hN1
    have hP2 : W2.heap[P]? = some (.cells #[.slice av m.vars.length cv, .slice ac m.cons.length cc, .bool m.has, vg] 26 (0, 0)) := hW2 ▸ hP1
    have od : Ofw (fun _ => False) W1 W2 := hW2 ▸ Ofw.of_below (Below.refl _ _).drew
    have HM2 : Hid (MoIs B P m (.slice av m.vars.length cv) (.slice ac m.cons.length cc) vg W2) := HM1.out.off od (fun _ f => f.elim)
    have HY2 : Hid (SyV B y (.slice at1 y.c.terms.length ct1) (.slice ax1 y.c.xs.length cx1) (.slice ab1 y.c.table.length cb1) (.slice ar1 y.c.rows.length cr1) W2) := HY1.out.off od (fun _ f => f.elim)
    have HO2 : Hid (Ofw (fun _ => False) w W2) := HO1.out.trans od
    have hs2 : Hid (W2.heap.size = N + 1) := by rw [← hW2]; exact hs1
    clear hW2 od HM1 HY1 HO1
    have hown := HM2.out.v
    refine yt (i := 0) (oi := ⟨some 20, .move (.tmp 0), _, _, _, none⟩) (v := ?vv0) rfl (by kernel_rfl) (by kernel_rfl) (by kernel_rfl) (by kernel_rfl) (by kernel_rfl) yp ⟨Or.inl ⟨by rfl, ?hv0⟩, fun _ => rfl, fun _ e => by cases e⟩ (by assumption) ?rv0
    case hv0 => (intro w hSw; (try dsimp only at hSw); go_simp; try (with_reducible rfl))
    try simp only [Act.put, List.setIfInBounds_toArray, List.set_cons_zero, List.set_cons_succ]
    refine yt (i := 1) (oi := ⟨some 21, .move (.tmp 0), _, _, _, none⟩) (v := ?vv1) rfl (by kernel_rfl) (by kernel_rfl) (by kernel_rfl) (by kernel_rfl) (by kernel_rfl) yp ⟨Or.inl ⟨by rfl, ?hv1⟩, fun _ => rfl, fun _ e => by cases e⟩ (by assumption) ?rv1
    case hv1 => (intro w hSw; (try dsimp only at hSw); go_simp; try (with_reducible rfl))
    try simp only [Act.put, List.setIfInBounds_toArray, List.set_cons_zero, List.set_cons_succ]
    refine yt (i := 2) (oi := ⟨some 22, .nilCheck (.tmp 21), _, _, _, none⟩) (v := ?vv2) rfl (by kernel_rfl) (by kernel_rfl) (by kernel_rfl) (by kernel_rfl) (by kernel_rfl) yp ⟨Or.inl ⟨by rfl, ?hv2⟩, fun _ => rfl, fun _ e => by cases e⟩ (by assumption) ?rv2
    case hv2 => (intro w hSw; (try dsimp only at hSw); go_simp; try (with_reducible rfl))
    try simp only [Act.put, List.setIfInBounds_toArray, List.set_cons_zero, List.set_cons_succ]
    refine yt (i := 3) (oi := ⟨some 23, .fieldAddr 26 (.tmp 22) 0, _, _, _, none⟩) (v := ?vv3) rfl (by kernel_rfl) (by kernel_rfl) (by kernel_rfl) (by kernel_rfl) (by kernel_rfl) yp ⟨Or.inl ⟨by rfl, ?hv3⟩, fun _ => rfl, fun _ e => by cases e⟩ (by assumption) ?rv3
    case hv3 => (intro w hSw; (try dsimp only at hSw); go_simp; try (with_reducible rfl))
    try simp only [Act.put, List.setIfInBounds_toArray, List.set_cons_zero, List.set_cons_succ]
    refine xM (i := 4) (oi := ⟨some 24, .load 22 (.tmp 23), _, _, _, none⟩) (v := ?vv4) rfl (by kernel_rfl) (by kernel_rfl) (by kernel_rfl) (by kernel_rfl) (by kernel_rfl) (by kernel_rfl) yp ⟨Or.inl ⟨by rfl, ?hv4⟩, fun _ => rfl, fun _ e => by cases e⟩ (by assumption) ?rv4
    case hv4 => (intro w hSw; (try dsimp only at hSw); go_simp; try (with_reducible rfl))
    try simp only [Act.put, List.setIfInBounds_toArray, List.set_cons_zero, List.set_cons_succ]
    refine yt (i := 5) (oi := ⟨some 25, .fieldAddr 74 (.tmp 3) 0, _, _, _, none⟩) (v := ?vv5) rfl (by kernel_rfl) (by kernel_rfl) (by kernel_rfl) (by kernel_rfl) (by kernel_rfl) yp ⟨Or.inl ⟨by rfl, ?hv5⟩, fun _ => rfl, fun _ e => by cases e⟩ (by assumption) ?rv5
    case hv5 => (intro w hSw; (try dsimp only at hSw); go_simp; try (with_reducible rfl))
    try simp only [Act.put, List.setIfInBounds_toArray, List.set_cons_zero, List.set_cons_succ]
    refine yt (i := 6) (oi := ⟨some 26, .load 56 (.tmp 25), _, _, _, none⟩) (v := ?vv6) rfl (by kernel_rfl) (by kernel_rfl) (by kernel_rfl) (by kernel_rfl) (by kernel_rfl) yp ⟨Or.inl ⟨by rfl, ?hv6⟩, fun _ => rfl, fun _ e => by cases e⟩ (by assumption) ?rv6
    case hv6 => (intro w hSw; (try dsimp only at hSw); go_simp; try (with_reducible rfl))
    try simp only [Act.put, List.setIfInBounds_toArray, List.set_cons_zero, List.set_cons_succ]
    refine yn (i := 7) (o := ⟨some 27, .buildSlice 22 1 #[(0, .tmp 26)], _, _, _, none⟩) (by kernel_rfl) rfl (fun K hK => ?_)
    obtain ⟨V1, hV1⟩ : ∃ V1, W2.alloc (.cells #[.string y.v.name, .int .i64 y.v.lo, .int .i64 y.v.hi] 56) = V1 := ⟨_, rfl⟩
    have bV : Below W2.heap.size W2 V1 := hV1 ▸ (Below.refl _ _).alloc (Nat.le_refl _) _
    have hNV := (bV.block _ (Array.getElem?_eq_some_iff.1 hN2).1).trans hN2
    have hPV := (bV.block _ (Array.getElem?_eq_some_iff.1 hP2).1).trans hP2
    go_simp
    try rw [hV1]
    refine hK.out _ _ ⟨⟨by (show World.cell? _ _ = _); rw [yc hNV 0]; rfl, by (show World.cell? _ _ = _); rw [yc hNV 1]; rfl, by (show World.cell? _ _ = _); rw [yc hNV 2]; rfl⟩, fun _ => by (show World.cell? _ _ = _); rw [yc hPV 0]; rfl⟩ ?_
    clear hK K
    try simp only [Act.put, List.setIfInBounds_toArray, List.set_cons_zero, List.set_cons_succ]
    refine yn (i := 8) (o := ⟨some 28, .call { callee := .builtin .append, args := #[.tmp 24, .tmp 27], argTypes := #[22, 22] }, _, _, _, none⟩) (by kernel_rfl) rfl (fun K hK => ?_)
    refine xN W2 V1 (.tmp 24) (.tmp 27) 22 56 (.agg #[.string ⟨#[]⟩, .int .i64 0, .int .i64 0]) 3 32 rfl Tryz.underlying22 (by kernel_rfl) rfl (by decide) B (.slice av m.vars.length cv) m.vars.length _ #[.string y.v.name, .int .i64 y.v.lo, .int .i64 y.v.hi] (by rfl) (by rfl) hV1 hown rfl (by intro u hu; simp at hu; rcases hu with rfl | rfl | rfl <;> rfl) (by unfold maxLen; omega) (by omega) (by have := hs2.out; omega) (by rfl) ?_
    intro v5 w5 g1 g2 g3
    obtain ⟨ad5, cp5, hv5⟩ := yA g1
    subst hv5
    have hN5 := (g2.block _ (Array.getElem?_eq_some_iff.1 hN2).1 (fun e => by obtain ⟨_, cur, hc⟩ := yr hown e; exact absurd (zl hN2 hc) (by decide))).trans hN2
    have hP5 := (g2.block _ (Array.getElem?_eq_some_iff.1 hP2).1 (fun e => by obtain ⟨_, cur, hc⟩ := yr hown e; exact absurd (zl hP2 hc) (by decide))).trans hP2
    have zP5 := yq hP5 0
    have cP5 := yc hP5 0
    have hH5 : (w5.cell? ⟨N, 0, none⟩ = some (.string y.v.name) ∧ w5.cell? ⟨N, 1, none⟩ = some (.int .i64 y.v.lo) ∧ w5.cell? ⟨N, 2, none⟩ = some (.int .i64 y.v.hi)) ∧ w5.cell? ⟨P, 0, none⟩ = some (.slice av m.vars.length cv) := ⟨⟨by (show World.cell? _ _ = _); rw [yc hN5 0]; rfl, by (show World.cell? _ _ = _); rw [yc hN5 1]; rfl, by (show World.cell? _ _ = _); rw [yc hN5 2]; rfl⟩, by (show World.cell? _ _ = _); rw [yc hP5 0]; rfl⟩
    refine hK.out _ _ ⟨hH5.1, fun _ => hH5.2⟩ ?_
    clear hK K
    try simp only [Act.put, List.setIfInBounds_toArray, List.set_cons_zero, List.set_cons_succ]
    refine yt (i := 9) (oi := ⟨some 29, .nilCheck (.tmp 20), _, _, _, none⟩) (v := ?vv9) rfl (by kernel_rfl) (by kernel_rfl) (by kernel_rfl) (by kernel_rfl) (by kernel_rfl) yp ⟨Or.inl ⟨by rfl, ?hv9⟩, fun _ => rfl, fun _ e => by cases e⟩ (by assumption) ?rv9
    case hv9 => (intro w hSw; (try dsimp only at hSw); go_simp; try (with_reducible rfl))
    try simp only [Act.put, List.setIfInBounds_toArray, List.set_cons_zero, List.set_cons_succ]
    refine yt (i := 10) (oi := ⟨some 30, .fieldAddr 26 (.tmp 29) 0, _, _, _, none⟩) (v := ?vv10) rfl (by kernel_rfl) (by kernel_rfl) (by kernel_rfl) (by kernel_rfl) (by kernel_rfl) yp ⟨Or.inl ⟨by rfl, ?hv10⟩, fun _ => rfl, fun _ e => by cases e⟩ (by assumption) ?rv10
    case hv10 => (intro w hSw; (try dsimp only at hSw); go_simp; try (with_reducible rfl))
    try simp only [Act.put, List.setIfInBounds_toArray, List.set_cons_zero, List.set_cons_succ]
    refine xO (i := 11) (o := ⟨none, .store 22 (.tmp 30) (.tmp 28), _, _, _, none⟩) (by kernel_rfl) rfl (by kernel_rfl) (fun K hK => ?_)
    go_simp
    have hN6 : (w5.setCell ⟨P, 0, none⟩ (.slice ad5 (m.vars.length + 1) cp5)).heap[N]? = some (.cells (sayC y.v.name y.v.lo y.v.hi y.c.kind y.c.op (.slice at1 y.c.terms.length ct1) y.c.k y.c.v y.c.x y.c.y (.slice ax1 y.c.xs.length cx1) (.slice ab1 y.c.table.length cb1) (.slice ar1 y.c.rows.length cr1)) 74) := (Below.heap_setCell _ ⟨P, 0, none⟩ _ _ (by simp only; omega)).trans hN5
    refine hK.out _ _ ⟨by (show World.cell? _ _ = _); rw [yc hN6 0]; rfl, by (show World.cell? _ _ = _); rw [yc hN6 1]; rfl, by (show World.cell? _ _ = _); rw [yc hN6 2]; rfl⟩ ?_
    clear hK K
    try simp only [Act.put, List.setIfInBounds_toArray, List.set_cons_zero, List.set_cons_succ]
    refine yV (by kernel_rfl) ⟨rfl, ?_⟩ _
    gi_wp2
    refine ⟨_, results_none rfl _ _ _, rfl, ?_⟩
    obtain ⟨q1, q2⟩ := HM2.out.more_v y.v g1 (g2.less fun k hk => hk)
    exact ⟨⟨_, _, _, q1⟩, (HO2.out.less fun k hk => hk.elim).trans (q2.less fun k hk => by
      rcases hk with hk | hk
      · exact .inl hk
      · exact .inr (.inl hk))⟩
  · have k10' : (y.c.kind == 10) = false := by simp [k10]
    by_cases k11 : y.c.kind = 11
    · have k11' : (y.c.kind == 11) = true := by simp [k11]
      have he : layT m y = { m with has := true, goal := y.c.terms } := by unfold layT; rw [if_neg k10, if_pos k11]
      rw [he]
      clear he k10 k11
      gi_wp2
      try rw [hN]
      refine zQ (fun w' => w'.cell? ⟨N, 5, none⟩ = some (.slice at1 y.c.terms.length ct1)) (fun _ => True) [] hm ⟨by (show World.cell? _ _ = _); rw [yc (show W1.drew.heap[N]? = _ from hN1) 5]; rfl, trivial⟩ (fun hHeld => ?_)
      obtain ⟨W2, hW2⟩ : ∃ W2, W1.drew = W2 := ⟨_, rfl⟩
      rw [hW2] at hHeld ⊢
      have hN2 : W2.heap[N]? = some (.cells (sayC y.v.name y.v.lo y.v.hi y.c.kind y.c.op (.slice at1 y.c.terms.length ct1) y.c.k y.c.v y.c.x y.c.y (.slice ax1 y.c.xs.length cx1) (.slice ab1 y.c.table.length cb1) (.slice ar1 y.c.rows.length cr1)) 74) := hW2 ▸ hN1
      have hP2 : W2.heap[P]? = some (.cells #[.slice av m.vars.length cv, .slice ac m.cons.length cc, .bool m.has, vg] 26 (0, 0)) := hW2 ▸ hP1
      have od : Ofw (fun _ => False) W1 W2 := hW2 ▸ Ofw.of_below (Below.refl _ _).drew
      have HM2 : Hid (MoIs B P m (.slice av m.vars.length cv) (.slice ac m.cons.length cc) vg W2) := HM1.out.off od (fun _ f => f.elim)
      have HY2 : Hid (SyV B y (.slice at1 y.c.terms.length ct1) (.slice ax1 y.c.xs.length cx1) (.slice ab1 y.c.table.length cb1) (.slice ar1 y.c.rows.length cr1) W2) := HY1.out.off od (fun _ f => f.elim)
      have HO2 : Hid (Ofw (fun _ => False) w W2) := HO1.out.trans od
      clear hW2 od HM1 HY1 HO1
      refine yt (i := 0) (oi := ⟨some 33, .move (.tmp 0), _, _, _, none⟩) (v := ?vg0) rfl (by kernel_rfl) (by kernel_rfl) (by kernel_rfl) (by kernel_rfl) (by kernel_rfl) yp ⟨Or.inl ⟨by rfl, ?hg0⟩, fun _ => rfl, fun _ e => by cases e⟩ (by assumption) ?rg0
      case hg0 => (intro w hSw; (try dsimp only at hSw); go_simp; try (with_reducible rfl))
      try simp only [Act.put, List.setIfInBounds_toArray, List.set_cons_zero, List.set_cons_succ]
      refine yt (i := 1) (oi := ⟨some 34, .move (.tmp 0), _, _, _, none⟩) (v := ?vg1) rfl (by kernel_rfl) (by kernel_rfl) (by kernel_rfl) (by kernel_rfl) (by kernel_rfl) yp ⟨Or.inl ⟨by rfl, ?hg1⟩, fun _ => rfl, fun _ e => by cases e⟩ (by assumption) ?rg1
      case hg1 => (intro w hSw; (try dsimp only at hSw); go_simp; try (with_reducible rfl))
      try simp only [Act.put, List.setIfInBounds_toArray, List.set_cons_zero, List.set_cons_succ]
      refine yt (i := 2) (oi := ⟨some 35, .fieldAddr 74 (.tmp 3) 1, _, _, _, none⟩) (v := ?vg2) rfl (by kernel_rfl) (by kernel_rfl) (by kernel_rfl) (by kernel_rfl) (by kernel_rfl) yp ⟨Or.inl ⟨by rfl, ?hg2⟩, fun _ => rfl, fun _ e => by cases e⟩ (by assumption) ?rg2
      case hg2 => (intro w hSw; (try dsimp only at hSw); go_simp; try (with_reducible rfl))
      try simp only [Act.put, List.setIfInBounds_toArray, List.set_cons_zero, List.set_cons_succ]
      refine yt (i := 3) (oi := ⟨some 36, .fieldAddr 61 (.tmp 35) 2, _, _, _, none⟩) (v := ?vg3) rfl (by kernel_rfl) (by kernel_rfl) (by kernel_rfl) (by kernel_rfl) (by kernel_rfl) yp ⟨Or.inl ⟨by rfl, ?hg3⟩, fun _ => rfl, fun _ e => by cases e⟩ (by assumption) ?rg3
      case hg3 => (intro w hSw; (try dsimp only at hSw); go_simp; try (with_reducible rfl))
      try simp only [Act.put, List.setIfInBounds_toArray, List.set_cons_zero, List.set_cons_succ]
      refine yt (i := 4) (oi := ⟨some 37, .load 24 (.tmp 36), _, _, _, none⟩) (v := ?vg4) rfl (by kernel_rfl) (by kernel_rfl) (by kernel_rfl) (by kernel_rfl) (by kernel_rfl) yp ⟨Or.inl ⟨by rfl, ?hg4⟩, fun _ => rfl, fun _ e => by cases e⟩ (by assumption) ?rg4
      case hg4 => (intro w hSw; (try dsimp only at hSw); go_simp; try (with_reducible rfl))
      try simp only [Act.put, List.setIfInBounds_toArray, List.set_cons_zero, List.set_cons_succ]
      refine yt (i := 5) (oi := ⟨some 38, .nilCheck (.tmp 33), _, _, _, none⟩) (v := ?vg5) rfl (by kernel_rfl) (by kernel_rfl) (by kernel_rfl) (by kernel_rfl) (by kernel_rfl) yp ⟨Or.inl ⟨by rfl, ?hg5⟩, fun _ => rfl, fun _ e => by cases e⟩ (by assumption) ?rg5
      case hg5 => (intro w hSw; (try dsimp only at hSw); go_simp; try (with_reducible rfl))
      try simp only [Act.put, List.setIfInBounds_toArray, List.set_cons_zero, List.set_cons_succ]
      refine yt (i := 6) (oi := ⟨some 39, .fieldAddr 26 (.tmp 38) 2, _, _, _, none⟩) (v := ?vg6) rfl (by kernel_rfl) (by kernel_rfl) (by kernel_rfl) (by kernel_rfl) (by kernel_rfl) yp ⟨Or.inl ⟨by rfl, ?hg6⟩, fun _ => rfl, fun _ e => by cases e⟩ (by assumption) ?rg6
      case hg6 => (intro w hSw; (try dsimp only at hSw); go_simp; try (with_reducible rfl))
      try simp only [Act.put, List.setIfInBounds_toArray, List.set_cons_zero, List.set_cons_succ]
      have cP2 := yc hP2 2
      have zP2 := yq hP2 2
      refine yn (i := 7) (o := ⟨none, .store 4 (.tmp 39) (.const (.bool true)), _, _, _, none⟩) (by kernel_rfl) rfl (fun K hK => ?_)
      go_simp
      obtain ⟨W3, hW3⟩ : ∃ W3, W2.setCell ⟨P, 2, none⟩ (.bool true) = W3 := ⟨_, rfl⟩
      try rw [hW3]
      have hN3 : W3.heap[N]? = some (.cells (sayC y.v.name y.v.lo y.v.hi y.c.kind y.c.op (.slice at1 y.c.terms.length ct1) y.c.k y.c.v y.c.x y.c.y (.slice ax1 y.c.xs.length cx1) (.slice ab1 y.c.table.length cb1) (.slice ar1 y.c.rows.length cr1)) 74) := hW3 ▸ (Below.heap_setCell W2 ⟨P, 2, none⟩ _ _ (by simp only; omega)).trans hN2
      have hP3 : W3.heap[P]? = some (.cells #[.slice av m.vars.length cv, .slice ac m.cons.length cc, .bool true, vg] 26 (0, 0)) := hW3 ▸ yC hP2 2 _
      have o3 : Ofw (fun k => k = P) W2 W3 := hW3 ▸ Ofw.set _ rfl
      clear hW3 cP2 zP2
      have hH3 : (W3.cell? ⟨N, 5, none⟩ = some (.slice at1 y.c.terms.length ct1)) ∧ True := ⟨by (show World.cell? _ _ = _); rw [yc hN3 5]; rfl, trivial⟩
      refine hK.out _ _ ⟨hH3.1, fun _ => trivial⟩ ?_
      clear hK K
      try simp only [Act.put, List.setIfInBounds_toArray, List.set_cons_zero, List.set_cons_succ]
      refine yt (i := 8) (oi := ⟨some 40, .nilCheck (.tmp 34), _, _, _, none⟩) (v := ?vg8) rfl (by kernel_rfl) (by kernel_rfl) (by kernel_rfl) (by kernel_rfl) (by kernel_rfl) yp ⟨Or.inl ⟨by rfl, ?hg8⟩, fun _ => rfl, fun _ e => by cases e⟩ (by assumption) ?rg8
      case hg8 => (intro w hSw; (try dsimp only at hSw); go_simp; try (with_reducible rfl))
      try simp only [Act.put, List.setIfInBounds_toArray, List.set_cons_zero, List.set_cons_succ]
      refine yt (i := 9) (oi := ⟨some 41, .fieldAddr 26 (.tmp 40) 3, _, _, _, none⟩) (v := ?vg9) rfl (by kernel_rfl) (by kernel_rfl) (by kernel_rfl) (by kernel_rfl) (by kernel_rfl) yp ⟨Or.inl ⟨by rfl, ?hg9⟩, fun _ => rfl, fun _ e => by cases e⟩ (by assumption) ?rg9
      case hg9 => (intro w hSw; (try dsimp only at hSw); go_simp; try (with_reducible rfl))
      try simp only [Act.put, List.setIfInBounds_toArray, List.set_cons_zero, List.set_cons_succ]
      have cP3 := yc hP3 3
      have zP3 := yq hP3 3
      refine yn (i := 10) (o := ⟨none, .store 24 (.tmp 41) (.tmp 37), _, _, _, none⟩) (by kernel_rfl) rfl (fun K hK => ?_)
      go_simp
      obtain ⟨W4, hW4⟩ : ∃ W4, W3.setCell ⟨P, 3, none⟩ (.slice at1 y.c.terms.length ct1) = W4 := ⟨_, rfl⟩
      try rw [hW4]
      have hN4 : W4.heap[N]? = some (.cells (sayC y.v.name y.v.lo y.v.hi y.c.kind y.c.op (.slice at1 y.c.terms.length ct1) y.c.k y.c.v y.c.x y.c.y (.slice ax1 y.c.xs.length cx1) (.slice ab1 y.c.table.length cb1) (.slice ar1 y.c.rows.length cr1)) 74) := hW4 ▸ (Below.heap_setCell W3 ⟨P, 3, none⟩ _ _ (by simp only; omega)).trans hN3
      have hP4 : W4.heap[P]? = some (.cells #[.slice av m.vars.length cv, .slice ac m.cons.length cc, .bool true, .slice at1 y.c.terms.length ct1] 26 (0, 0)) := hW4 ▸ yC hP3 3 _
      have o4 : Ofw (fun k => k = P) W2 W4 := o3.trans (hW4 ▸ Ofw.set _ rfl)
      clear hW4 cP3 zP3
      refine hK.out _ _ ⟨by (show World.cell? _ _ = _); rw [yc hN4 5]; rfl, fun _ => trivial⟩ ?_
      clear hK K
      try simp only [Act.put, List.setIfInBounds_toArray, List.set_cons_zero, List.set_cons_succ]
      refine yV (by kernel_rfl) ⟨rfl, ?_⟩ _
      gi_wp2
      refine ⟨_, results_none rfl _ _ _, rfl, ⟨_, _, _, HM2.out.goal HY2.out.t hP4 o4⟩, (HO2.out.less fun k hk => hk.elim).trans (o4.less fun k hk => .inl hk)⟩
    · have k11' : (y.c.kind == 11) = false := by simp [k11]
      have he : layT m y = { m with cons := m.cons ++ [y.c] } := by unfold layT; rw [if_neg k10, if_neg k11]
      rw [he]
      clear he k10 k11
      gi_wp2
      try rw [hN]
      refine zQ (fun w' => w'.cell? ⟨N, 3, none⟩ = some (.int .i64 y.c.kind) ∧ w'.cell? ⟨N, 4, none⟩ = some (.int .i64 y.c.op) ∧ w'.cell? ⟨N, 5, none⟩ = some (.slice at1 y.c.terms.length ct1) ∧ w'.cell? ⟨N, 6, none⟩ = some (.int .i64 y.c.k) ∧ w'.cell? ⟨N, 7, none⟩ = some (.int .i64 y.c.v) ∧ w'.cell? ⟨N, 8, none⟩ = some (.int .i64 y.c.x) ∧ w'.cell? ⟨N, 9, none⟩ = some (.int .i64 y.c.y) ∧ w'.cell? ⟨N, 10, none⟩ = some (.slice ax1 y.c.xs.length cx1) ∧ w'.cell? ⟨N, 11, none⟩ = some (.slice ab1 y.c.table.length cb1) ∧ w'.cell? ⟨N, 12, none⟩ = some (.slice ar1 y.c.rows.length cr1)) (fun w' => w'.cell? ⟨P, 1, none⟩ = some (.slice ac m.cons.length cc)) [11] hm ⟨⟨by (show World.cell? _ _ = _); rw [yc (show W1.drew.heap[N]? = _ from hN1) 3]; rfl, by (show World.cell? _ _ = _); rw [yc (show W1.drew.heap[N]? = _ from hN1) 4]; rfl, by (show World.cell? _ _ = _); rw [yc (show W1.drew.heap[N]? = _ from hN1) 5]; rfl, by (show World.cell? _ _ = _); rw [yc (show W1.drew.heap[N]? = _ from hN1) 6]; rfl, by (show World.cell? _ _ = _); rw [yc (show W1.drew.heap[N]? = _ from hN1) 7]; rfl, by (show World.cell? _ _ = _); rw [yc (show W1.drew.heap[N]? = _ from hN1) 8]; rfl, by (show World.cell? _ _ = _); rw [yc (show W1.drew.heap[N]? = _ from hN1) 9]; rfl, by (show World.cell? _ _ = _); rw [yc (show W1.drew.heap[N]? = _ from hN1) 10]; rfl, by (show World.cell? _ _ = _); rw [yc (show W1.drew.heap[N]? = _ from hN1) 11]; rfl, by (show World.cell? _ _ = _); rw [yc (show W1.drew.heap[N]? = _ from hN1) 12]; rfl⟩, by (show World.cell? _ _ = _); rw [yc (show W1.drew.heap[P]? = _ from hP1) 1]; rfl⟩ (fun hHeld => ?_)
      obtain ⟨W2, hW2⟩ : ∃ W2, W1.drew = W2 := ⟨_, rfl⟩
      rw [hW2] at hHeld ⊢
      have hN2 : W2.heap[N]? = some (.cells (sayC y.v.name y.v.lo y.v.hi y.c.kind y.c.op (.slice at1 y.c.terms.length ct1) y.c.k y.c.v y.c.x y.c.y (.slice ax1 y.c.xs.length cx1) (.slice ab1 y.c.table.length cb1) (.slice ar1 y.c.rows.length cr1)) 74) := hW2 ▸ hN1
      have hP2 : W2.heap[P]? = some (.cells #[.slice av m.vars.length cv, .slice ac m.cons.length cc, .bool m.has, vg] 26 (0, 0)) := hW2 ▸ hP1
      have od : Ofw (fun _ => False) W1 W2 := hW2 ▸ Ofw.of_below (Below.refl _ _).drew
      have HM2 : Hid (MoIs B P m (.slice av m.vars.length cv) (.slice ac m.cons.length cc) vg W2) := HM1.out.off od (fun _ f => f.elim)
      have HY2 : Hid (SyV B y (.slice at1 y.c.terms.length ct1) (.slice ax1 y.c.xs.length cx1) (.slice ab1 y.c.table.length cb1) (.slice ar1 y.c.rows.length cr1) W2) := HY1.out.off od (fun _ f => f.elim)
      have HO2 : Hid (Ofw (fun _ => False) w W2) := HO1.out.trans od
      have hs2 : Hid (W2.heap.size = N + 1) := by rw [← hW2]; exact hs1
      clear hW2 od HM1 HY1 HO1
      obtain ⟨xs0, hown⟩ : ∃ xs, W2.ownsRow B 61 10 (.slice ac m.cons.length cc) m.cons.length xs := (by obtain ⟨L, _, h, _⟩ := HM2.out.k; exact ⟨_, h⟩)
      refine yt (i := 0) (oi := ⟨some 7, .move (.tmp 0), _, _, _, none⟩) (v := ?vc0) rfl (by kernel_rfl) (by kernel_rfl) (by kernel_rfl) (by kernel_rfl) (by kernel_rfl) yp ⟨Or.inl ⟨by rfl, ?hc0⟩, fun _ => rfl, fun _ e => by cases e⟩ (by assumption) ?rc0
      case hc0 => (intro w hSw; (try dsimp only at hSw); go_simp; try (with_reducible rfl))
      try simp only [Act.put, List.setIfInBounds_toArray, List.set_cons_zero, List.set_cons_succ]
      refine yt (i := 1) (oi := ⟨some 8, .move (.tmp 0), _, _, _, none⟩) (v := ?vc1) rfl (by kernel_rfl) (by kernel_rfl) (by kernel_rfl) (by kernel_rfl) (by kernel_rfl) yp ⟨Or.inl ⟨by rfl, ?hc1⟩, fun _ => rfl, fun _ e => by cases e⟩ (by assumption) ?rc1
      case hc1 => (intro w hSw; (try dsimp only at hSw); go_simp; try (with_reducible rfl))
      try simp only [Act.put, List.setIfInBounds_toArray, List.set_cons_zero, List.set_cons_succ]
      refine yt (i := 2) (oi := ⟨some 9, .nilCheck (.tmp 8), _, _, _, none⟩) (v := ?vc2) rfl (by kernel_rfl) (by kernel_rfl) (by kernel_rfl) (by kernel_rfl) (by kernel_rfl) yp ⟨Or.inl ⟨by rfl, ?hc2⟩, fun _ => rfl, fun _ e => by cases e⟩ (by assumption) ?rc2
      case hc2 => (intro w hSw; (try dsimp only at hSw); go_simp; try (with_reducible rfl))
      try simp only [Act.put, List.setIfInBounds_toArray, List.set_cons_zero, List.set_cons_succ]
      refine yt (i := 3) (oi := ⟨some 10, .fieldAddr 26 (.tmp 9) 1, _, _, _, none⟩) (v := ?vc3) rfl (by kernel_rfl) (by kernel_rfl) (by kernel_rfl) (by kernel_rfl) (by kernel_rfl) yp ⟨Or.inl ⟨by rfl, ?hc3⟩, fun _ => rfl, fun _ e => by cases e⟩ (by assumption) ?rc3
      case hc3 => (intro w hSw; (try dsimp only at hSw); go_simp; try (with_reducible rfl))
      try simp only [Act.put, List.setIfInBounds_toArray, List.set_cons_zero, List.set_cons_succ]
      refine xM (i := 4) (oi := ⟨some 11, .load 23 (.tmp 10), _, _, _, none⟩) (v := ?vc4) rfl (by kernel_rfl) (by kernel_rfl) (by kernel_rfl) (by kernel_rfl) (by kernel_rfl) (by kernel_rfl) yp ⟨Or.inl ⟨by rfl, ?hc4⟩, fun _ => rfl, fun _ e => by cases e⟩ (by assumption) ?rc4
      case hc4 => (intro w hSw; (try dsimp only at hSw); go_simp; try (with_reducible rfl))
      try simp only [Act.put, List.setIfInBounds_toArray, List.set_cons_zero, List.set_cons_succ]
      refine yt (i := 5) (oi := ⟨some 12, .fieldAddr 74 (.tmp 3) 1, _, _, _, none⟩) (v := ?vc5) rfl (by kernel_rfl) (by kernel_rfl) (by kernel_rfl) (by kernel_rfl) (by kernel_rfl) yp ⟨Or.inl ⟨by rfl, ?hc5⟩, fun _ => rfl, fun _ e => by cases e⟩ (by assumption) ?rc5
      case hc5 => (intro w hSw; (try dsimp only at hSw); go_simp; try (with_reducible rfl))
      try simp only [Act.put, List.setIfInBounds_toArray, List.set_cons_zero, List.set_cons_succ]
      refine yt (i := 6) (oi := ⟨some 13, .load 61 (.tmp 12), _, _, _, none⟩) (v := ?vc6) rfl (by kernel_rfl) (by kernel_rfl) (by kernel_rfl) (by kernel_rfl) (by kernel_rfl) yp ⟨Or.inl ⟨by rfl, ?hc6⟩, fun _ => rfl, fun _ e => by cases e⟩ (by assumption) ?rc6
      case hc6 => (intro w hSw; (try dsimp only at hSw); go_simp; try (with_reducible rfl))
      try simp only [Act.put, List.setIfInBounds_toArray, List.set_cons_zero, List.set_cons_succ]
      refine yn (i := 7) (o := ⟨some 14, .buildSlice 23 1 #[(0, .tmp 13)], _, _, _, none⟩) (by kernel_rfl) rfl (fun K hK => ?_)
      obtain ⟨V1, hV1⟩ : ∃ V1, W2.alloc (.cells #[.int .i64 y.c.kind, .int .i64 y.c.op, .slice at1 y.c.terms.length ct1, .int .i64 y.c.k, .int .i64 y.c.v, .int .i64 y.c.x, .int .i64 y.c.y, .slice ax1 y.c.xs.length cx1, .slice ab1 y.c.table.length cb1, .slice ar1 y.c.rows.length cr1] 61) = V1 := ⟨_, rfl⟩
      have bV : Below W2.heap.size W2 V1 := hV1 ▸ (Below.refl _ _).alloc (Nat.le_refl _) _
      have hNV := (bV.block _ (Array.getElem?_eq_some_iff.1 hN2).1).trans hN2
      have hPV := (bV.block _ (Array.getElem?_eq_some_iff.1 hP2).1).trans hP2
      go_simp
      try rw [hV1]
      refine hK.out _ _ ⟨⟨by (show World.cell? _ _ = _); rw [yc hNV 3]; rfl, by (show World.cell? _ _ = _); rw [yc hNV 4]; rfl, by (show World.cell? _ _ = _); rw [yc hNV 5]; rfl, by (show World.cell? _ _ = _); rw [yc hNV 6]; rfl, by (show World.cell? _ _ = _); rw [yc hNV 7]; rfl, by (show World.cell? _ _ = _); rw [yc hNV 8]; rfl, by (show World.cell? _ _ = _); rw [yc hNV 9]; rfl, by (show World.cell? _ _ = _); rw [yc hNV 10]; rfl, by (show World.cell? _ _ = _); rw [yc hNV 11]; rfl, by (show World.cell? _ _ = _); rw [yc hNV 12]; rfl⟩, fun _ => by (show World.cell? _ _ = _); rw [yc hPV 1]; rfl⟩ ?_
      clear hK K
      try simp only [Act.put, List.setIfInBounds_toArray, List.set_cons_zero, List.set_cons_succ]
      refine yn (i := 8) (o := ⟨some 15, .call { callee := .builtin .append, args := #[.tmp 11, .tmp 14], argTypes := #[23, 23] }, _, _, _, none⟩) (by kernel_rfl) rfl (fun K hK => ?_)
      refine xN W2 V1 (.tmp 11) (.tmp 14) 23 61 (.agg #[.int .i64 0, .int .i64 0, .slice none 0 0, .int .i64 0, .int .i64 0, .int .i64 0, .int .i64 0, .slice none 0 0, .slice none 0 0, .slice none 0 0]) 10 144 rfl Tryz.underlying23 (by kernel_rfl) rfl (by decide) B (.slice ac m.cons.length cc) m.cons.length _ #[.int .i64 y.c.kind, .int .i64 y.c.op, .slice at1 y.c.terms.length ct1, .int .i64 y.c.k, .int .i64 y.c.v, .int .i64 y.c.x, .int .i64 y.c.y, .slice ax1 y.c.xs.length cx1, .slice ab1 y.c.table.length cb1, .slice ar1 y.c.rows.length cr1] (by rfl) (by rfl) hV1 hown rfl (by intro u hu; simp at hu; rcases hu with rfl | rfl | rfl | rfl | rfl | rfl | rfl | rfl | rfl | rfl <;> rfl) (by unfold maxLen; omega) (by omega) (by have := hs2.out; omega) (by rfl) ?_
      intro v5 w5 g1 g2 g3
      obtain ⟨ad5, cp5, hv5⟩ := yA g1
      subst hv5
      have hN5 := (g2.block _ (Array.getElem?_eq_some_iff.1 hN2).1 (fun e => by obtain ⟨_, cur, hc⟩ := yr hown e; exact absurd (zl hN2 hc) (by decide))).trans hN2
      have hP5 := (g2.block _ (Array.getElem?_eq_some_iff.1 hP2).1 (fun e => by obtain ⟨_, cur, hc⟩ := yr hown e; exact absurd (zl hP2 hc) (by decide))).trans hP2
      have zP5 := yq hP5 1
      have cP5 := yc hP5 1
      have hH5 : (w5.cell? ⟨N, 3, none⟩ = some (.int .i64 y.c.kind) ∧ w5.cell? ⟨N, 4, none⟩ = some (.int .i64 y.c.op) ∧ w5.cell? ⟨N, 5, none⟩ = some (.slice at1 y.c.terms.length ct1) ∧ w5.cell? ⟨N, 6, none⟩ = some (.int .i64 y.c.k) ∧ w5.cell? ⟨N, 7, none⟩ = some (.int .i64 y.c.v) ∧ w5.cell? ⟨N, 8, none⟩ = some (.int .i64 y.c.x) ∧ w5.cell? ⟨N, 9, none⟩ = some (.int .i64 y.c.y) ∧ w5.cell? ⟨N, 10, none⟩ = some (.slice ax1 y.c.xs.length cx1) ∧ w5.cell? ⟨N, 11, none⟩ = some (.slice ab1 y.c.table.length cb1) ∧ w5.cell? ⟨N, 12, none⟩ = some (.slice ar1 y.c.rows.length cr1)) ∧ w5.cell? ⟨P, 1, none⟩ = some (.slice ac m.cons.length cc) := ⟨⟨by (show World.cell? _ _ = _); rw [yc hN5 3]; rfl, by (show World.cell? _ _ = _); rw [yc hN5 4]; rfl, by (show World.cell? _ _ = _); rw [yc hN5 5]; rfl, by (show World.cell? _ _ = _); rw [yc hN5 6]; rfl, by (show World.cell? _ _ = _); rw [yc hN5 7]; rfl, by (show World.cell? _ _ = _); rw [yc hN5 8]; rfl, by (show World.cell? _ _ = _); rw [yc hN5 9]; rfl, by (show World.cell? _ _ = _); rw [yc hN5 10]; rfl, by (show World.cell? _ _ = _); rw [yc hN5 11]; rfl, by (show World.cell? _ _ = _); rw [yc hN5 12]; rfl⟩, by (show World.cell? _ _ = _); rw [yc hP5 1]; rfl⟩
      refine hK.out _ _ ⟨hH5.1, fun _ => hH5.2⟩ ?_
      clear hK K
      try simp only [Act.put, List.setIfInBounds_toArray, List.set_cons_zero, List.set_cons_succ]
      refine yt (i := 9) (oi := ⟨some 16, .nilCheck (.tmp 7), _, _, _, none⟩) (v := ?vc9) rfl (by kernel_rfl) (by kernel_rfl) (by kernel_rfl) (by kernel_rfl) (by kernel_rfl) yp ⟨Or.inl ⟨by rfl, ?hc9⟩, fun _ => rfl, fun _ e => by cases e⟩ (by assumption) ?rc9
      case hc9 => (intro w hSw; (try dsimp only at hSw); go_simp; try (with_reducible rfl))
      try simp only [Act.put, List.setIfInBounds_toArray, List.set_cons_zero, List.set_cons_succ]
      refine yt (i := 10) (oi := ⟨some 17, .fieldAddr 26 (.tmp 16) 1, _, _, _, none⟩) (v := ?vc10) rfl (by kernel_rfl) (by kernel_rfl) (by kernel_rfl) (by kernel_rfl) (by kernel_rfl) yp ⟨Or.inl ⟨by rfl, ?hc10⟩, fun _ => rfl, fun _ e => by cases e⟩ (by assumption) ?rc10
      case hc10 => (intro w hSw; (try dsimp only at hSw); go_simp; try (with_reducible rfl))
      try simp only [Act.put, List.setIfInBounds_toArray, List.set_cons_zero, List.set_cons_succ]
      refine xO (i := 11) (o := ⟨none, .store 23 (.tmp 17) (.tmp 15), _, _, _, none⟩) (by kernel_rfl) rfl (by kernel_rfl) (fun K hK => ?_)
      go_simp
      have hN6 : (w5.setCell ⟨P, 1, none⟩ (.slice ad5 (m.cons.length + 1) cp5)).heap[N]? = some (.cells (sayC y.v.name y.v.lo y.v.hi y.c.kind y.c.op (.slice at1 y.c.terms.length ct1) y.c.k y.c.v y.c.x y.c.y (.slice ax1 y.c.xs.length cx1) (.slice ab1 y.c.table.length cb1) (.slice ar1 y.c.rows.length cr1)) 74) := (Below.heap_setCell _ ⟨P, 1, none⟩ _ _ (by simp only; omega)).trans hN5
      refine hK.out _ _ ⟨by (show World.cell? _ _ = _); rw [yc hN6 3]; rfl, by (show World.cell? _ _ = _); rw [yc hN6 4]; rfl, by (show World.cell? _ _ = _); rw [yc hN6 5]; rfl, by (show World.cell? _ _ = _); rw [yc hN6 6]; rfl, by (show World.cell? _ _ = _); rw [yc hN6 7]; rfl, by (show World.cell? _ _ = _); rw [yc hN6 8]; rfl, by (show World.cell? _ _ = _); rw [yc hN6 9]; rfl, by (show World.cell? _ _ = _); rw [yc hN6 10]; rfl, by (show World.cell? _ _ = _); rw [yc hN6 11]; rfl, by (show World.cell? _ _ = _); rw [yc hN6 12]; rfl⟩ ?_
      clear hK K
      try simp only [Act.put, List.setIfInBounds_toArray, List.set_cons_zero, List.set_cons_succ]
      refine yV (by kernel_rfl) ⟨rfl, ?_⟩ _
      gi_wp2
      refine ⟨_, results_none rfl _ _ _, rfl, ?_⟩
      obtain ⟨q1, q2⟩ := HM2.out.more_c ⟨y.c, _, _, _, _⟩ ⟨HY2.out.t, HY2.out.x, HY2.out.b, HY2.out.r⟩ (fun xs hxs => by
        have e2 : xs0 = xs := y3H hown hxs
        rw [← e2]; exact g1) (g2.less fun k hk => hk)
      exact ⟨⟨_, _, _, q1⟩, (HO2.out.less fun k hk => hk.elim).trans (q2.less fun k hk => by
        rcases hk with hk | hk
        · exact .inl hk
        · exact .inr (.inr hk))⟩
end Go.Proofs.YthohnmplbjhjaaaGreatDoor

namespace Go.Proofs.YthohnmplbjhjaaaGreatDoor
open Go Go.RowKit
theorem ZK {s : St} {p : Prop} [Decidable p] (e : Int) (h : s.2 ≠ 0) : (if p then yh e s else s) = s := by split; exact xI h; rfl
theorem YF {s : St} {p : Prop} [Decidable p] (e : Int) (h : s.2 ≠ 0) : (if p then s else yh e s) = s := by split; rfl; exact xI h
theorem Qi {V : List Md.Vr} {w : List UInt8} {s : St} (h : s.2 ≠ 0) : (yE V w s).2 = s := by
  unfold yE
  simp only [YF 54 h]
  exact ZK 56 h
theorem Y1 {V : List Md.Vr} {s : St} (h : s.2 ≠ 0) : (yx V s).2 = s := by unfold yx; rw [xB h]; exact Qi h
theorem y3i {V : List Md.Vr} {s : St} (h : s.2 ≠ 0) : (newT V s).2 = s := by
  unfold newT
  rw [xB h]
  simp only [YF 54 h]
  exact ZK 55 h
theorem Qj {s : St} (h : s.2 ≠ 0) : (rdOp s).2 = s := by
  unfold rdOp
  rw [xB h]
  simp only
  split
  · exact xI h
  · rfl
theorem y3j {s : St} (h : s.2 ≠ 0) : (rdLo s).2 = s := by
  unfold rdLo
  rw [xB h]
  simp only [Z6 h]
  exact YF 42 h
theorem y3k {s : St} (lo : Int) (h : s.2 ≠ 0) : (rdHi lo s).2 = s := by
  unfold rdHi
  rw [xB h]
  simp only [Z6 h]
  exact YF 42 h
theorem y3l {s : St} (h : s.2 ≠ 0) : (zP s).2 = s := by unfold zP; simp only [y3j h]; exact y3k _ h
theorem y3m {V : List Md.Vr} {x : List UInt8} {s : St} (h : s.2 ≠ 0) : (yM V x s).2 = s := by
  unfold yM cfT
  simp only [Z6 h, ZK 45 h]
  exact Y1 h
theorem y3n {α : Type} {rd : List UInt8 → St → α × St} (k : Nat) (all : List α) {s : St} (h : s.2 ≠ 0) : (yI rd k all s).2 = s := by cases k <;> (unfold yI; rw [xf h])
theorem xJ {α : Type} {rd : List UInt8 → St → α × St} (hr : ∀ x s, s.2 ≠ 0 → (rd x s).2 = s) {s : St} (h : s.2 ≠ 0) : (yo rd s).2 = s := by
  unfold yo
  rw [xB h, hr _ _ h]
  exact y3n _ _ h
theorem Qk {s : St} (h : s.2 ≠ 0) : endT s = s := by unfold endT; rw [xf h]
theorem y3o {x y : List UInt8} {s : St} (h : s.2 ≠ 0) : zj x y s = s := by unfold zj; exact YF 51 h
theorem y3p {V : List Md.Vr} {s : St} (h : s.2 ≠ 0) : (zt V s).2 = s := by
  unfold zt
  rw [Y1 h]
  unfold yP
  rw [xf h]
  exact xI h
theorem y3q {n : Nat} {s : St} (h : s.2 ≠ 0) : (zS n s).2 = s := by
  unfold zS
  rw [xB h, ZL h]
  unfold yW
  rw [xf h]
theorem y3r {V : List Md.Vr} {k : Nat} {s : St} (h : s.2 ≠ 0) : (zo V k s).2 = s := by
  have hk := fun (x : List UInt8) (s : St) (h : s.2 ≠ 0) => Qi (V := V) (w := x) h
  have ht := fun (x : List UInt8) (s : St) (h : s.2 ≠ 0) => y3m (V := V) (x := x) h
  have hv := fun (x : List UInt8) (s : St) (h : s.2 ≠ 0) => ZM (x := x) h
  unfold zo
  split
  · unfold fLin; simp only [Qj h, YG h]; exact xJ ht h
  split
  · unfold fNe; simp only [Y1 h, YG h]; exact Qk h
  split
  · unfold fAll; exact xJ hk h
  split
  · unfold fEl; simp only [Y1 h]; exact xJ hv h
  split
  · unfold fMax; simp only [Y1 h]; exact xJ hk h
  split
  · unfold fMax; simp only [Y1 h]; exact xJ hk h
  split
  · unfold xg; simp only [Y1 h, xB h, y3o h, YG h]; exact xJ ht h
  split
  · unfold fTable; simp only [y3p h]; exact y3q h
  split
  · unfold Y2; simp only [Qj h, YG h]; exact xJ hk h
  split
  · unfold fVar; simp only [y3i h, y3l h]; exact Qk h
  · unfold Y3; exact xJ ht h
theorem y3s {V : List Md.Vr} {k : Nat} {s : St} (h1 : 1 ≤ k) (h2 : k ≤ 11) : (zo V k s).1.c.kind = (k : Int) := by
  rcases (by omega : k = 1 ∨ k = 2 ∨ k = 3 ∨ k = 4 ∨ k = 5 ∨ k = 6 ∨ k = 7 ∨ k = 8 ∨ k = 9 ∨ k = 10 ∨ k = 11) with rfl | rfl | rfl | rfl | rfl | rfl | rfl | rfl | rfl | rfl | rfl <;> rfl
theorem y3t (w : List UInt8) : zF w ≤ 11 := by
  unfold zF
  repeat (split; · omega)
  omega
structure Good (m : Md.Mo) : Prop where
  v : m.vars.length ≤ 32
  c : m.cons.length ≤ 64
  n : ∀ x ∈ m.vars, x.name.size ≤ 70000
theorem y3u (s : St) : (ye s).1.length ≤ s.1.length := (zT (Nat.le_refl _)).1
theorem y3v {V : List Md.Vr} {s : St} (hs : s.1.length ≤ 70000) : (fVar V s).1.v.name.size ≤ 70000 := by
  show (yd (newT V s).1).size ≤ 70000
  exact Nat.le_trans (by show (newT V s).1.length ≤ s.1.length; exact y3u s) hs
theorem y3w {m : Md.Mo} {w : List UInt8} {s : St} (hg : Good m) (hs : s.1.length ≤ 70000) (h0 : (sayT m w s).2.2 = 0) : Good (layT m (sayT m w s).1) := by
  unfold sayT at h0 ⊢
  by_cases hk : zF w = 0
  · rw [if_pos hk] at h0
    unfold yh at h0
    split at h0
    · exact absurd (show (51 : Int) = 0 from h0) (by decide)
    · rename_i h; exact absurd h0 h
  · rw [if_neg hk] at h0 ⊢
    obtain ⟨k, hkk⟩ : ∃ k, zF w = k := ⟨_, rfl⟩
    have hle := y3t w
    rw [hkk] at h0 hk hle ⊢
    have hf : (yh (yU k m) s).2 = 0 := by
      by_cases h : (yh (yU k m) s).2 = 0
      · exact h
      · rw [y3r h] at h0; exact h0
    have hz : yU k m = 0 := by
      unfold yh at hf
      split at hf
      · exact hf
      · rename_i h; exact absurd hf h
    have hkd := y3s (V := m.vars) (s := yh (yU k m) s) (by omega : 1 ≤ k) hle
    unfold layT
    rw [hkd]
    by_cases k10 : k = 10
    · subst k10
      rw [if_pos (by decide)]
      have hv : m.vars.length ≠ 32 := fun e => by unfold yU at hz; rw [if_pos ⟨rfl, e⟩] at hz; exact absurd hz (by decide)
      refine ⟨by have := hg.v; simp; omega, hg.c, fun x hx => ?_⟩
      rcases List.mem_append.1 hx with hx | hx
      · exact hg.n x hx
      · rw [List.mem_singleton.1 hx]
        exact y3v (by rw [yR]; exact hs)
    · rw [if_neg (by omega)]
      by_cases k11 : k = 11
      · rw [if_pos (by omega)]
        exact ⟨hg.v, hg.c, hg.n⟩
      · rw [if_neg (by omega)]
        have hc : m.cons.length ≠ 64 := fun e => by
          unfold yU at hz
          rw [if_neg (by omega), if_neg (by omega), if_pos ⟨by omega, e⟩] at hz
          exact absurd hz (by decide)
        exact ⟨hg.v, by have := hg.c; simp; omega, hg.n⟩
theorem y3x {m : Md.Mo} {l : List UInt8} (hg : Good m) (hl : l.length ≤ 70000) : Good (yO m l).1 := by
  unfold yO
  split
  · exact hg
  · rename_i p hp
    split
    · exact hg
    · split
      · rename_i h0
        have h1 := (za hp).1
        have h2 : (l, (0 : Int)).1 = l := rfl
        rw [h2] at h1
        exact y3w hg (by omega) h0
      · exact hg
end Go.Proofs.YthohnmplbjhjaaaGreatDoor

namespace Go.Proofs.YthohnmplbjhjaaaGreatDoor
open Go Go.RowKit
theorem Yq {w : World} {B : Nat} {e : TypeId} {size : Nat} {v : Value} {n : Nat} {xs : List Value} (h : w.ownsRow B e size v n xs) :
    (v = .slice none 0 0 ∧ n = 0) ∨ ∃ g cap, v = .slice (some ⟨g, 0, none⟩) n cap ∧ B ≤ g ∧ g < w.heap.size ∧ n ≤ cap ∧ ∀ j u, xs[j]? = some u → w.cell? ⟨g, j, none⟩ = some u := by
  have hl := h.1
  rcases h.2 with h1 | ⟨g, cap, cur, hv, hB, hc, hn, _, _, ht⟩
  · exact .inl h1
  · refine .inr ⟨g, cap, hv, hB, (Array.getElem?_eq_some_iff.1 hc).1, hn, fun j u hj => ?_⟩
    have hjl : j < n * size := by rw [← hl]; exact (List.getElem?_eq_some_iff.1 hj).1
    rw [← ht, List.getElem?_take, if_pos hjl] at hj
    have hj3 : cur[j]? = some u := by simpa using hj
    simp [World.cell?, hc, hj3]
theorem xS {α : Type} (f : α → List Value) (n : Nat) (hf : ∀ a, (f a).length = n) : ∀ (l : List α) (j : Nat) (hj : j < l.length) (i : Nat), i < n → (l.flatMap f)[j * n + i]? = (f l[j])[i]?
  | [], j, hj, _, _ => by simp at hj
  | a :: l, 0, _, i, hi => by
    simp only [List.flatMap_cons, List.getElem_cons_zero, Nat.zero_mul, Nat.zero_add]
    exact List.getElem?_append_left (by rw [hf]; exact hi)
  | a :: l, j + 1, hj, i, hi => by
    simp only [List.flatMap_cons, List.getElem_cons_succ]
    have h := xS f n hf l j (by simpa using hj) i hi
    rw [List.getElem?_append_right (by rw [hf, Nat.add_mul]; omega), ← h, hf]
    congr 1
    rw [Nat.add_mul]
    omega
theorem YJ {α : Type} {w : World} {B : Nat} {e : TypeId} {size : Nat} {v : Value} {l : List α} {xs : List Value} (h : w.ownsRow B e size v l.length xs) : l.length ≤ maxLen := by
  rcases h.2 with ⟨_, h0⟩ | ⟨g, cap, cur, _, _, _, h1, h2, _⟩
  · omega
  · omega
theorem ZV {w : World} {B : Nat} {e : TypeId} {v : Value} {l : List Int} (h : w.ownsRow B e 1 v l.length (encL encI l)) : IntsAt w v l := by
  have hm := YJ h
  rcases Yq h with ⟨rfl, hn⟩ | ⟨g, cap, rfl, _, hg, _, hc⟩
  · exact ⟨none, 0, by rw [hn], hm, fun h0 => by omega⟩
  · exact ⟨_, cap, rfl, hm, fun _ => ⟨g, 0, rfl, hg, fun j hj => hc (0 + j) _ (by have := xS encI 1 (fun _ => rfl) l j hj 0 (by omega); rw [Nat.mul_one, Nat.add_zero] at this; rw [Nat.zero_add]; exact this)⟩⟩
theorem Qv {w : World} {B : Nat} {e : TypeId} {v : Value} {l : List (Int × Int)} (h : w.ownsRow B e 2 v l.length (encL encT l)) : TermsAt w v l := by
  have hm := YJ h
  rcases Yq h with ⟨rfl, hn⟩ | ⟨g, cap, rfl, _, hg, _, hc⟩
  · exact ⟨none, 0, by rw [hn], hm, fun h0 => by omega⟩
  · exact ⟨_, cap, rfl, hm, fun _ => ⟨g, 0, rfl, hg, fun j hj => by
      rw [Nat.zero_add]
      exact ⟨hc _ _ (xS encT 2 (fun _ => rfl) l j hj 0 (by omega)), hc _ _ (xS encT 2 (fun _ => rfl) l j hj 1 (by omega))⟩⟩⟩
theorem y3V {w : World} {B : Nat} {e : TypeId} {v : Value} {l : List Md.Vr} (h : w.ownsRow B e 3 v l.length (encL encV l)) (hn : ∀ x ∈ l, x.name.size ≤ maxLen) : VarsAt w v l := by
  have hm := YJ h
  rcases Yq h with ⟨rfl, h0⟩ | ⟨g, cap, rfl, _, hg, _, hc⟩
  · exact ⟨none, 0, by rw [h0], hm, hn, fun h1 => by omega⟩
  · exact ⟨_, cap, rfl, hm, hn, fun _ => ⟨g, 0, rfl, hg, fun j hj => by
      rw [Nat.zero_add]
      exact ⟨hc _ _ (xS encV 3 (fun _ => rfl) l j hj 0 (by omega)), hc _ _ (xS encV 3 (fun _ => rfl) l j hj 1 (by omega)), hc _ _ (xS encV 3 (fun _ => rfl) l j hj 2 (by omega))⟩⟩⟩
theorem Qw {w : World} {B : Nat} {e : TypeId} {size : Nat} {v : Value} {n : Nat} {xs : List Value} (h : w.ownsRow B e size v n xs) : ∀ a k cp, v = .slice a k cp → k ≤ cp := by
  intro a k cp hv
  rcases Yq h with ⟨rfl, _⟩ | ⟨g, cap, rfl, _, _, hm, _⟩
  · injection hv with _ e2 e3; omega
  · injection hv with _ e2 e3; omega
theorem y3W {w : World} {B D : Nat} {e : TypeId} {v : Value} {l : List (List Int)} {vs : List Value} (h : w.ownsRow B e 1 v l.length vs) (hr : RowsW w B D vs l) : RowsAt w v l := by
  have hm := YJ h
  have hl := hr.1
  rcases Yq h with ⟨rfl, hn⟩ | ⟨g, cap, rfl, _, hg, _, hc⟩
  · exact ⟨none, 0, by rw [hn], hm, fun h0 => by omega⟩
  · refine ⟨_, cap, rfl, hm, fun _ => ⟨g, 0, rfl, hg, fun j hj => ?_⟩⟩
    have hj2 : j < vs.length := by omega
    exact ⟨vs[j], hc (0 + j) _ (by rw [Nat.zero_add]; exact List.getElem?_eq_getElem hj2), ZV (hr.2 j _ _ (List.getElem?_eq_getElem hj2) (List.getElem?_eq_getElem hj)).1⟩
theorem y3X {w : World} {B : Nat} {c : Md.Cn} {vt vx vb vr : Value} (h : SyV B ⟨zv, c⟩ vt vx vb vr w) : CnAt w c vt vx vb vr := by
  obtain ⟨vs, D, hr, hrs⟩ := h.r
  exact ⟨Qv h.t, ZV h.x, Qw h.x, ZV h.b, y3W hr hrs⟩
theorem y3Y {w : World} {B : Nat} {v : Value} {L : List CnL} {l : List Md.Cn} (hl : l = L.map (·.c)) (h : w.ownsRow B 61 10 v l.length (L.flatMap CnL.cells)) (hs : ∀ d ∈ L, SyV B ⟨zv, d.c⟩ d.t d.x d.b d.r w) : ConsAt w v l := by
  have hm := YJ h
  subst hl
  rcases Yq h with ⟨rfl, hn⟩ | ⟨g, cap, rfl, _, hg, _, hc⟩
  · exact ⟨none, 0, by rw [hn], hm, fun h0 => by omega⟩
  · refine ⟨_, cap, rfl, hm, fun _ => ⟨g, 0, rfl, hg, fun j hj => ?_⟩⟩
    have hj2 : j < L.length := by simpa using hj
    have he : (L.map (·.c))[j] = L[j].c := by simp
    have hx := fun i hi u (hu : (L[j].cells)[i]? = some u) => hc (j * 10 + i) u ((xS CnL.cells 10 (fun _ => rfl) L j hj2 i hi).trans hu)
    rw [he]
    refine ⟨L[j].t, L[j].x, L[j].b, L[j].r, y3X (hs _ (List.getElem_mem hj2)), ?_⟩
    rw [Nat.zero_add]
    exact ⟨hx 0 (by omega) _ rfl, hx 1 (by omega) _ rfl, hx 2 (by omega) _ rfl, hx 3 (by omega) _ rfl, hx 4 (by omega) _ rfl, hx 5 (by omega) _ rfl, hx 6 (by omega) _ rfl, hx 7 (by omega) _ rfl, hx 8 (by omega) _ rfl, hx 9 (by omega) _ rfl⟩
theorem MoIs.at {B P : Nat} {m : Md.Mo} {vv vc vg : Value} {w : World} (h : MoIs B P m vv vc vg w) (hg : Good m) : MoAt w m vv vc vg := by
  obtain ⟨L, hL, hk, hs⟩ := h.k
  exact ⟨y3V h.v (fun x hx => Nat.le_trans (hg.n x hx) (by decide)), Qw h.v, y3Y hL hk hs, Qv h.g⟩
theorem y2h {w0 w : World} (h : Way w0 w) : Way w w := by
  obtain ⟨mx, hmx⟩ := h.mx
  have hb := h.big
  refine ⟨Below.refl _ _, ?_, Nat.le_trans h.big h.low.size, ⟨mx, (h.low.cell (p := ⟨1, 0, none⟩) (by simp only; omega)).trans hmx⟩, h.opw1, h.opw2, h.opw3⟩
  have ht := h.tab
  have hg : Tryz.prog.globalNamed "internal/strconv.uint64pow10" = some 4 := by kernel_rfl
  unfold Lib.TabIs World.var? at ht ⊢
  rw [hg] at ht ⊢
  simp only [Option.bind_some] at ht ⊢
  rw [h.low.block 4 (by omega)]
  exact ht
theorem Qx {w w' : World} {B : Nat} (h : Way w w) (o : Ofw (fun k => B ≤ k) w w') (hB : 5 ≤ B) : Way w' w' := by
  obtain ⟨mx, hmx⟩ := h.mx
  have hb := h.big
  have hk : ∀ k, k < 5 → w'.heap[k]? = w.heap[k]? := fun k hk => o.block k (by omega) (by omega)
  have hc : ∀ k i u, k < 5 → w.cell? ⟨k, i, none⟩ = some u → w'.cell? ⟨k, i, none⟩ = some u := fun k i u h1 h2 => (World.cell?_of_block (a := ⟨k, i, none⟩) (hk k h1)).trans h2
  refine ⟨Below.refl _ _, ?_, Nat.le_trans hb o.size, ⟨mx, hc 1 0 _ (by omega) hmx⟩, hc 0 1 _ (by omega) h.opw.1, hc 0 2 _ (by omega) h.opw.2.1, hc 0 3 _ (by omega) h.opw.2.2⟩
  have ht := h.tab
  have hg : Tryz.prog.globalNamed "internal/strconv.uint64pow10" = some 4 := by kernel_rfl
  unfold Lib.TabIs World.var? at ht ⊢
  rw [hg] at ht ⊢
  simp only [Option.bind_some] at ht ⊢
  rw [hk 4 (by omega)]
  exact ht
theorem y3Z (x : List UInt8) : Lib.hasPrefix x [35] = decide (x.headD 0 = 35) := by
  cases x with
  | nil => rfl
  | cons c l =>
    by_cases h : c = 35
    · subst h; simp [Lib.hasPrefix]
    · have h' : ¬ 35 = c := fun e => h e.symm
      have h2 : ((35 : UInt8) == c) = false := by simp [h']
      simp [Lib.hasPrefix, List.isPrefixOf, h2, h]
end Go.Proofs.YthohnmplbjhjaaaGreatDoor

namespace Go.Proofs.YthohnmplbjhjaaaGreatDoor
open Go Go.RowKit
theorem ZQ {e : Int} (he : e ≠ 0) (s : St) : yl (yh e s) = none := by
  refine xf ?_
  unfold yh
  split
  · exact he
  · assumption
theorem Qm (s : St) : yl (endT s) = none := by
  unfold endT
  cases h : yl s with
  | none => exact h
  | some p => exact ZQ (by decide) _
theorem Qn {α : Type} (rd : List UInt8 → St → α × St) : ∀ (k : Nat) (all : List α) (s : St), yl (yI rd k all s).2 = none
  | 0, all, s => by
    unfold yI
    cases h : yl s with
    | none => exact h
    | some p => exact ZQ (by decide) _
  | k + 1, all, s => by
    unfold yI
    cases h : yl s with
    | none => exact h
    | some p => exact Qn rd k _ _
theorem xP {α : Type} (rd : List UInt8 → St → α × St) (s : St) : yl (yo rd s).2 = none := Qn rd _ _ _
theorem Qo (n : Nat) : ∀ (k : Nat) (all : List (List Int)) (s : St), yl (yW n k all s).2 = none
  | 0, all, s => by
    unfold yW
    cases h : yl s with
    | none => exact h
    | some p =>
      have hb : (yh 47 (ye (zj p.1 [58] p.2)).2).2 ≠ 0 := by
        unfold yh
        split
        · show (47 : Int) ≠ 0; decide
        · assumption
      show yl (yS n _ (yh 47 (ye (zj p.1 [58] p.2)).2)).2 = none
      rw [ZL hb]
      exact xf hb
  | k + 1, all, s => by
    unfold yW
    cases h : yl s with
    | none => exact h
    | some p => exact Qo n k _ _
theorem y3D (V : List Md.Vr) (k : Nat) (s : St) : yl (zo V k s).2 = none := by
  unfold zo
  split
  · exact xP _ _
  split
  · exact Qm _
  split
  · exact xP _ _
  split
  · exact xP _ _
  split
  · exact xP _ _
  split
  · exact xP _ _
  split
  · exact xP _ _
  split
  · exact Qo _ _ _ _
  split
  · exact xP _ _
  split
  · exact Qm _
  · exact xP _ _
theorem y3E (m : Md.Mo) (w : List UInt8) (s : St) : yl (sayT m w s).2 = none := by
  unfold sayT
  split
  · exact ZQ (by decide) _
  · exact y3D _ _ _
def FinAt (S : Nat → Prop) (B P : Nat) (RR : Md.Mo × Int) (D N : Nat) (w : World) (b : Nat) (s : St) (W : World) : Prop :=
  RR.2 = s.2 ∧ ∃ Wx, MoI B P RR.1 Wx ∧ Ofw S w Wx ∧ D + 2 ≤ Wx.heap.size ∧ (∀ k, (k = D ∨ k = D + 1) → ∀ c t z, Wx.heap[k]? ≠ some (.cells c t z)) ∧ Ofw (fun k => k = D ∨ k = D + 1) Wx W ∧ Wx.heap[N]? = some (.cells #[.pointer (some ⟨b, 0, none⟩)] 113 (0, 0))
theorem FinAt.on {S : Nat → Prop} {B P : Nat} {RR : Md.Mo × Int} {D N b : Nat} {w : World} {s : St} {W W' : World} (h : FinAt S B P RR D N w b s W) (o : Ofw (fun k => k = D ∨ k = D + 1) W W') : FinAt S B P RR D N w b s W' := by
  obtain ⟨h1, Wx, h2, h3, h4, h5, h6, h7⟩ := h
  exact ⟨h1, Wx, h2, h3, h4, h5, h6.trans o, h7⟩
theorem FinAt.fin {S : Nat → Prop} {B P : Nat} {RR : Md.Mo × Int} {D N b : Nat} {w : World} {s : St} {W : World} (h : FinAt S B P RR D N w b s W) (hPD : P < D) (hBD : w.heap.size ≤ D) (hN : N < D) : RR.2 = s.2 ∧ MoI B P RR.1 W ∧ Ofw S w W ∧ W.heap[N]? = some (.cells #[.pointer (some ⟨b, 0, none⟩)] 113 (0, 0)) := by
  obtain ⟨h1, Wx, ⟨vv, vc, vg, hm⟩, h3, h4, h5, h6, h7⟩ := h
  refine ⟨h1, ⟨vv, vc, vg, hm.off h6 (fun k hk => ⟨by omega, fun c t e => absurd e (h5 k hk c t (0, 0))⟩)⟩, h3.new h6 (fun k hk => by omega), (h6.block N (Array.getElem?_eq_some_iff.1 h7).1 (by omega)).trans h7⟩
end Go.Proofs.YthohnmplbjhjaaaGreatDoor
