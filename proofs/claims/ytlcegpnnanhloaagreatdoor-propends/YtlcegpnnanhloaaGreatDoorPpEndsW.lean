/-
  PropEnds: the walk.
-/
import Derived.Test.YtlcegpnnanhloaaGreatDoorJ48
import Derived.Test.YtlcegpnnanhloaaGreatDoorPpLawM
namespace Go.Proofs.YtlcegpnnanhloaaGreatDoor
open Go.RowKit

theorem st_vars : (List.range 32).all (fun j => Md.varFault (nmV j) ((List.range j).map nmV) == 0) = true := by kernel_rfl
theorem st_check {c : Md.Cn} {n : Nat} (h1 : 1 ≤ n) (h2 : n ≤ 32) : (Md.check (stM c n)).2 = Md.fault (c0 c) n := by
  have hl : (stM c n).vars.length = n := by simp [stM]
  have hf : Md.fewB (stM c n).vars.length 32 = false := by rw [hl]; simp [Md.fewB]; omega
  have hv : Md.firstBad (stM c n).vars.length (Md.vFault (stM c n).vars) = none := Md.firstBad_none fun j hj => by
    rw [hl] at hj
    rw [Md.vFault_get (by rw [hl]; exact hj)]
    have e1 : (stM c n).vars[j]'(by rw [hl]; exact hj) = nmV j := by simp [stM]
    have e2 : (stM c n).vars.take j = (List.range j).map nmV := by simp [stM, ← List.map_take, List.take_range, Nat.min_eq_left (Nat.le_of_lt hj)]
    rw [e1, e2]
    have := List.all_eq_true.1 st_vars j (List.mem_range.2 (by omega))
    simpa using this
  have hc : ¬ 64 < (stM c n).cons.length := by simp [stM]
  have hg : Md.goalFault (stM c n) = 0 := by simp [Md.goalFault, stM]
  unfold Md.check
  rw [if_neg (by rw [hf]; simp), hv]
  simp only [if_neg hc]
  by_cases h0 : Md.fault (c0 c) n = 0
  · have hk : Md.firstBad (stM c n).cons.length (Md.cFault (stM c n).cons (stM c n).vars.length) = none := Md.firstBad_none fun j hj => by
      have hj0 : j = 0 := by simp [stM] at hj; exact hj
      subst hj0
      rw [Md.cFault_get hj, hl]
      exact h0
    rw [hk]
    simp only [hg, if_true, h0]
  · have hk : Md.firstBad (stM c n).cons.length (Md.cFault (stM c n).cons (stM c n).vars.length) = some 0 := Md.firstBad_some (by simp [stM]) (by rw [Md.cFault_get (by simp [stM]), hl]; exact h0) (fun j hj => absurd hj (Nat.not_lt_zero _))
    rw [hk]
    simp only []
    rw [Md.cFault_get (by simp [stM]), hl]
    rfl
def mayB (c : Md.Cn) (n : Nat) : Bool := decide (1 ≤ (n : Int) ∧ (n : Int) ≤ 32 ∧ Md.fault c n = 0)
/-- P12.11, at a store with one value each. -/
theorem ends_fin (m : Md.Mo) (c : Md.Cn) (vs : List Int) (s t : St) (hse : s = newS m) (hl : Lies s.now vs) (hte : t = oneS s vs s.now.length) : ((c.kind = 3 ∨ mayB (c0 c) vs.length = false) → cutR t.now c = ([], true)) ∧ (c.kind ≠ 3 → mayB (c0 c) vs.length = true → mayB c vs.length = true → Md.holds c vs = ((cutR t.now c).2 && decide ((cutR t.now c).1 = []))) := by
  subst hse
  obtain ⟨l1, o1, a1, n1⟩ := one_lies (alls_new m) hl
  rw [← hte] at l1 o1 a1 n1
  have hf := fines_alls a1
  have hlen : vs.length = t.now.length := l1.len
  constructor
  · rintro (h | h)
    · exact cutR_diff hf l1 o1 h
    · refine cutR_none fun hck => ?_
      have hR := Md.right_of hck
      have hlv : (stM c t.now.length).vars.length = t.now.length := by simp [stM]
      have hnv := hR.nv
      rw [hlv] at hnv
      have hcc := hR.con (c0 c) (by simp [stM])
      rw [hlv] at hcc
      unfold mayB at h
      rw [decide_eq_false_iff_not, hlen] at h
      exact h ⟨by omega, by omega, hcc⟩
  · intro h3 hk hc
    unfold mayB at hk hc
    rw [decide_eq_true_eq, hlen] at hk hc
    have hck : (Md.check (stM c t.now.length)).2 = 0 := by
      rw [st_check (by omega) (by omega)]
      exact hk.2.2
    rw [cutR_tells hf l1 o1 h3 hck hc.2.2]
    unfold Md.holds
    rw [hlen, decide_eq_true hc.2.2, new_nums hl]
    rfl

set_option maxRecDepth 10000 in
set_option maxHeartbeats 8000000 in
theorem propEnds_walk (m : Md.Mo) (vv vc vg : Value) (c : Md.Cn) (vt vx vb vr : Value) (ia : Option Addr) (ic : Nat) (ins : List Int) (w : World) (hM : MoAt w m vv vc vg) (hC : CnAt w c vt vx vb vr) (hI : IntsAt w (.slice ia ins.length ic) ins) (hn : ins.length ≤ 9223372036854775000) (hT : Tz w) (hs : 0 < w.heap.size) : Calls Tryz.prog 4 #[moVal m vv vc vg, cnVal c vt vx vb vr, .slice ia ins.length ic] w fun e w' => e = .returned (.bool true) ∧ Below w.heap.size w w' := by
  obtain ⟨ta, tc, rfl, _⟩ := hC.t.form
  obtain ⟨xa, xc, rfl, _⟩ := hC.x.form
  obtain ⟨ba, bc, rfl, _⟩ := hC.b.form
  obtain ⟨ra, rc, rfl, _⟩ := hC.r.form
  obtain ⟨W, hW⟩ : ∃ W, (w.alloc (.cells #[vv, vc, .bool m.has, vg] 26)).alloc (.cells #[.int .i64 c.kind, .int .i64 c.op, (.slice ta c.terms.length tc), .int .i64 c.k, .int .i64 c.v, .int .i64 c.x, .int .i64 c.y, (.slice xa c.xs.length xc), (.slice ba c.table.length bc), (.slice ra c.rows.length rc)] 31) = W := ⟨_, rfl⟩
  have hb0 : Below w.heap.size w W := by rw [← hW]; exact ((Below.refl _ _).alloc (Nat.le_refl _) _).alloc (by simp) _
  have g0 : W.heap[w.heap.size]? = some (.cells #[vv, vc, .bool m.has, vg] 26 (0, 0)) := by rw [← hW, heap_alloc_old (w.alloc _) _ (by simp)]; exact heap_alloc_new w _
  have g1 : W.heap[w.heap.size + 1]? = some (.cells #[.int .i64 c.kind, .int .i64 c.op, (.slice ta c.terms.length tc), .int .i64 c.k, .int .i64 c.v, .int .i64 c.x, .int .i64 c.y, (.slice xa c.xs.length xc), (.slice ba c.table.length bc), (.slice ra c.rows.length rc)] 31 (0, 0)) := by rw [← hW]; exact heap_alloc2_new w _ _
  have HWs : Hid (∀ w', Below W.heap.size W w' → Below w.heap.size w w') := fun w' hb => hb0.trans (hb.mono hb0.size)
  have hsW : 0 < W.heap.size := Nat.lt_of_lt_of_le hs hb0.size
  have HF : Hid (Calls Tryz.prog 6 #[.agg #[vv, vc, .bool m.has, vg], .agg #[.int .i64 c.kind, .int .i64 c.op, (.slice ta c.terms.length tc), .int .i64 c.k, .int .i64 c.v, .int .i64 c.x, .int .i64 c.y, (.slice xa c.xs.length xc), (.slice ba c.table.length bc), (.slice ra c.rows.length rc)], .slice none 0 0, .slice ia ins.length ic] W fun e w' => (∃ b : Bool, e = .returned (.bool b) ∧ (b = true → 0 + ins.length ≤ 20000)) ∧ Below W.heap.size W w') := few_any m vv vc vg c (.slice ta c.terms.length tc) (.slice xa c.xs.length xc) (.slice ba c.table.length bc) (.slice ra c.rows.length rc) none ia 0 ins.length 0 ic W (hM.below hb0) (hC.below hb0) (by omega)
  have HK : Hid (∀ w', Below W.heap.size W w' → Calls Tryz.prog 7 #[] w' fun e w2 => e = .returned (.bool true) ∧ Below w'.heap.size w' w2) := fun w' hb => known_any w' ((hT.below hb0 hs).below hb hsW) (Nat.lt_of_lt_of_le hsW hb.size)
  have HNw : Hid (∀ w', Below W.heap.size W w' → Calls Tryz.prog 13 #[.agg #[vv, vc, .bool m.has, vg]] w' (NewOut m w')) := fun w' hb => new_any m vv vc vg w' (hM.below (HWs.out w' hb)) (Nat.lt_of_lt_of_le hsW hb.size)
  have HTz : Hid (∀ w', Below W.heap.size W w' → Tz w') := fun w' hb => (hT.below hb0 hs).below hb hsW
  have HWi : Hid (∀ B p nv mv s w', Below W.heap.size W w' → StAt B w' p nv mv s → Calls Tryz.prog 9 #[.pointer (some ⟨p, 0, none⟩), .slice ia ins.length ic] w' (VsOut (wiL s.now ins s.now.length) w')) := fun B p nv mv s w' hb hS => within_any B p nv mv s w' hS (HTz.out w' hb) (Nat.lt_of_lt_of_le hsW hb.size) _ ins (hI.below (HWs.out w' hb))
  have HCu : Hid (∀ B p nv mv s w', Below W.heap.size W w' → StAt B w' p nv mv s → Calls Tryz.prog 10 #[.agg #[.int .i64 c.kind, .int .i64 c.op, (.slice ta c.terms.length tc), .int .i64 c.k, .int .i64 c.v, .int .i64 c.x, .int .i64 c.y, (.slice xa c.xs.length xc), (.slice ba c.table.length bc), (.slice ra c.rows.length rc)], .pointer (some ⟨p, 0, none⟩)] w' fun e w3 => ∃ a cap, e = .returned (.tuple #[.slice a (cutR s.now c).1.length cap, .bool (cutR s.now c).2]) ∧ CtsAt w3 a (cutR s.now c).1 ∧ Below w'.heap.size w' w3) := fun B p nv mv s w' hb hS => cuts_lit hS (HTz.out w' hb) (Nat.lt_of_lt_of_le hsW hb.size) (Below.refl _ _) (hC.below (HWs.out w' hb)) rfl rfl
  have HH : Hid (∀ v vs w', Below W.heap.size W w' → IntsAt w' v vs → Calls Tryz.prog 11 #[.agg #[.int .i64 c.kind, .int .i64 c.op, (.slice ta c.terms.length tc), .int .i64 c.k, .int .i64 c.v, .int .i64 c.x, .int .i64 c.y, (.slice xa c.xs.length xc), (.slice ba c.table.length bc), (.slice ra c.rows.length rc)], v] w' fun e w2 => e = .returned (.bool (Md.holds c vs)) ∧ Below w'.heap.size w' w2) := fun v vs w' hb hv => Holds_any c (.slice ta c.terms.length tc) (.slice xa c.xs.length xc) (.slice ba c.table.length bc) (.slice ra c.rows.length rc) v vs w' (hC.below (HWs.out w' hb)) hv
  have HMy : Hid (∀ (n : Nat) w', Below W.heap.size W w' → Calls Tryz.prog 15 #[.agg #[.int .i64 c.kind, .int .i64 c.op, (.slice ta c.terms.length tc), .int .i64 c.k, .int .i64 c.v, .int .i64 c.x, .int .i64 c.y, (.slice xa c.xs.length xc), (.slice ba c.table.length bc), (.slice ra c.rows.length rc)], .int .i64 (n : Int)] w' fun e w2 => e = .returned (.bool (mayB c n)) ∧ Below w'.heap.size w' w2) := fun n w' hb => may_any c (.slice ta c.terms.length tc) (.slice xa c.xs.length xc) (.slice ba c.table.length bc) (.slice ra c.rows.length rc) (n : Int) w' (hC.below (HWs.out w' hb))
  have HMk : Hid (∀ (n : Nat) w', Below W.heap.size W w' → Calls Tryz.prog 15 #[.agg #[.int .i64 (c0 c).kind, .int .i64 (c0 c).op, (.slice ta c.terms.length tc), .int .i64 (c0 c).k, .int .i64 (c0 c).v, .int .i64 (c0 c).x, .int .i64 (c0 c).y, (.slice xa c.xs.length xc), (.slice ba c.table.length bc), (.slice ra c.rows.length rc)], .int .i64 (n : Int)] w' fun e w2 => e = .returned (.bool (mayB (c0 c) n)) ∧ Below w'.heap.size w' w2) := fun n w' hb => may_any (c0 c) (.slice ta c.terms.length tc) (.slice xa c.xs.length xc) (.slice ba c.table.length bc) (.slice ra c.rows.length rc) (n : Int) w' (c0_at (hC.below (HWs.out w' hb)))
  have HEq : Hid ((c0 c).kind = c.kind ∧ (c0 c).op = c.op ∧ (c0 c).v = c.v ∧ (c0 c).x = c.x ∧ (c0 c).y = c.y ∧ (c0 c).k = if c.kind = 1 then 0 else c.k) := c0_k c
  have HGc : Hid (∀ w', Below W.heap.size W w' → (w'.cell? ⟨w.heap.size, 0, none⟩ = some vv ∧ w'.cell? ⟨w.heap.size, 1, none⟩ = some vc ∧ w'.cell? ⟨w.heap.size, 2, none⟩ = some (.bool m.has) ∧ w'.cell? ⟨w.heap.size, 3, none⟩ = some vg) ∧ (w'.cell? ⟨w.heap.size + 1, 0, none⟩ = some (.int .i64 c.kind) ∧ w'.cell? ⟨w.heap.size + 1, 1, none⟩ = some (.int .i64 c.op) ∧ w'.cell? ⟨w.heap.size + 1, 2, none⟩ = some (.slice ta c.terms.length tc) ∧ w'.cell? ⟨w.heap.size + 1, 3, none⟩ = some (.int .i64 c.k) ∧ w'.cell? ⟨w.heap.size + 1, 4, none⟩ = some (.int .i64 c.v) ∧ w'.cell? ⟨w.heap.size + 1, 5, none⟩ = some (.int .i64 c.x) ∧ w'.cell? ⟨w.heap.size + 1, 6, none⟩ = some (.int .i64 c.y) ∧ w'.cell? ⟨w.heap.size + 1, 7, none⟩ = some (.slice xa c.xs.length xc) ∧ w'.cell? ⟨w.heap.size + 1, 8, none⟩ = some (.slice ba c.table.length bc) ∧ w'.cell? ⟨w.heap.size + 1, 9, none⟩ = some (.slice ra c.rows.length rc))) := fun w' hb => by
    have e0 := (hb.block _ (Array.getElem?_eq_some_iff.1 g0).1).trans g0
    have e1 := (hb.block _ (Array.getElem?_eq_some_iff.1 g1).1).trans g1
    exact ⟨⟨cell_of e0 0, cell_of e0 1, cell_of e0 2, cell_of e0 3⟩, cn_cells e1⟩
  have HFin : Hid (∀ vs s t, s = newS m → Lies s.now vs → t = oneS s vs s.now.length → ((c.kind = 3 ∨ mayB (c0 c) vs.length = false) → cutR t.now c = ([], true)) ∧ (c.kind ≠ 3 → mayB (c0 c) vs.length = true → mayB c vs.length = true → Md.holds c vs = ((cutR t.now c).2 && decide ((cutR t.now c).1 = [])))) := fun vs s t => ends_fin m c vs s t
  have HLi : Hid (∀ s, s = newS m → Lies s.now (wiL s.now ins s.now.length)) := fun s e => by subst e; exact wi_lies (fines_alls (alls_new m)) ins
  have hmv : moVal m vv vc vg = .agg #[vv, vc, .bool m.has, vg] := rfl
  have hcv : cnVal c (.slice ta c.terms.length tc) (.slice xa c.xs.length xc) (.slice ba c.table.length bc) (.slice ra c.rows.length rc) = .agg #[.int .i64 c.kind, .int .i64 c.op, (.slice ta c.terms.length tc), .int .i64 c.k, .int .i64 c.v, .int .i64 c.x, .int .i64 c.y, (.slice xa c.xs.length xc), (.slice ba c.table.length bc), (.slice ra c.rows.length rc)] := rfl
  rw [hmv, hcv]
  obtain ⟨⟨p0, p1, p2, p3⟩, q0, q1, q2, q3, q4, q5, q6, q7, q8, q9⟩ := HGc.out W (Below.refl _ _)
  clear hM hC hI hT hs hb0 g0 g1 hsW hmv hcv
  go_enter Tryz.func4, Tryz.ntmps4
  go_upto_region 1 with fail
  try rw [hW]
  clear hW
  go_upto_if 17 with (go_at_call 6; refine calls_at HF.out (by with_reducible rfl) (by with_reducible rfl) ?_; rintro e w1 ⟨⟨b1, rfl, _⟩, hb1⟩)
  have HB1 : Hid (Below W.heap.size W w1) := hb1
  clear hb1 HF
  cases b1 with
  | false =>
    go_wp2_with fail
    go_ret
    exact ⟨rfl, HWs.out _ HB1.out⟩
  | true =>
  clear p0 p1 p2 p3 q0 q1 q2 q3 q4 q5 q6 q7 q8 q9
  go_upto_region 5 with (go_at_call 7; refine calls_at (HK.out w1 HB1.out) (by with_reducible rfl) (by with_reducible rfl) ?_; rintro e w2 ⟨rfl, hb2⟩)
  have HB2 : Hid (Below W.heap.size W w2) := bl_next HB1.out hb2
  clear hb2 HK HB1
  obtain ⟨⟨p0, p1, p2, p3⟩, _⟩ := HGc.out w2 HB2.out
  go_upto_region 8 with (go_at_call 13; refine calls_at (HNw.out w2 HB2.out) (by with_reducible rfl) (by with_reducible rfl) ?_; rintro e w3 ⟨p, nv, mv, rfl, hS3, hb3⟩)
  have HB3 : Hid (Below W.heap.size W w3) := bl_next HB2.out hb3
  obtain ⟨s, hse⟩ : ∃ s, newS m = s := ⟨_, rfl⟩
  rw [hse] at hS3
  have hLi := HLi.out s hse.symm
  have HFs := fun vs t => HFin.out vs s t hse.symm
  have HW3 := HWi.out w2.heap.size p nv mv s w3 HB3.out hS3
  obtain ⟨vs, hvs⟩ : ∃ vs, wiL s.now ins s.now.length = vs := ⟨_, rfl⟩
  rw [hvs] at HW3 hLi
  have hlen : vs.length = s.now.length := hLi.len
  have HFt : Hid (∀ t, t = oneS s vs vs.length → ((c.kind = 3 ∨ mayB (c0 c) vs.length = false) → cutR t.now c = ([], true)) ∧ (c.kind ≠ 3 → mayB (c0 c) vs.length = true → mayB c vs.length = true → Md.holds c vs = ((cutR t.now c).2 && decide ((cutR t.now c).1 = [])))) := fun t ht => HFs vs t hLi (by rw [← hlen]; exact ht)
  have HW3' : Hid (Calls Tryz.prog 9 #[.pointer (some ⟨p, 0, none⟩), .slice ia ins.length ic] w3 (VsOut vs w3)) := HW3
  have HS3 : Hid (StAt w2.heap.size w3 p nv mv s) := hS3
  have HOw : Hid (∀ k, Own p nv mv k → k < w3.heap.size) := hS3.own_lt
  have hn32 : vs.length ≤ 32 := by rw [hlen]; exact hS3.n32
  have HB2' : Hid (W.heap.size ≤ w2.heap.size) := HB2.out.size
  clear HW3 hvs hse hS3 hb3 HNw HFin HFs HLi hLi HWi p0 p1 p2 p3 hlen
  go_upto_region 9 with (go_at_call 9; refine calls_at HW3'.out (by with_reducible rfl) (by with_reducible rfl) ?_; rintro e w4 ⟨uv, rfl, ho4, hb4⟩)
  obtain ⟨ua, uc, rfl⟩ := own_slice ho4
  have HB4 : Hid (Below W.heap.size W w4) := bl_next HB3.out hb4
  have HV4 : Hid (w4.ownsRow w3.heap.size 3 1 (.slice ua vs.length uc) vs.length (vs.map (.int .i64))) := ho4
  have HS4 : Hid (StAt w2.heap.size w4 p nv mv (oneS s vs 0)) := HS3.out.below hb4
  have HCt : Hid (∀ Bq t (z : Ct) w', StAt Bq w' p nv mv t → Calls Tryz.prog 14 #[.pointer (some ⟨p, 0, none⟩), .agg #[.int .i64 z.k, .int .i64 z.x, .int .i64 z.v]] w' (CutOut Bq p nv mv t z.k z.x z.v w')) := fun Bq t z w' h => cut_any Bq p nv mv t z.k z.x z.v w' h
  have HIc : Hid (∀ (w' : World) (k : Nat) (hk : k < vs.length), w'.ownsRow w3.heap.size 3 1 (.slice ua vs.length uc) vs.length (vs.map (.int .i64)) → ∃ b off, ua = some ⟨b, off, none⟩ ∧ w'.cell? ⟨b, off + k, none⟩ = some (.int .i64 vs[k])) := fun w' k hk ho => by
    obtain ⟨a', c', e, _, hcl⟩ := vs_ints ho
    injection e with e1 _ _
    subst e1
    obtain ⟨b, off, e, _, hc⟩ := hcl (by omega)
    exact ⟨b, off, e, hc k hk⟩
  have HOf : Hid (∀ (w' w'' : World), w'.ownsRow w3.heap.size 3 1 (.slice ua vs.length uc) vs.length (vs.map (.int .i64)) → Stp w2.heap.size p nv mv w' w'' → w''.ownsRow w3.heap.size 3 1 (.slice ua vs.length uc) vs.length (vs.map (.int .i64))) := fun w' w'' ho hst => own_off ho (fun g hg e => by have := (ho.lt g hg).1; have := HOw.out g e; omega) hst.off
  clear ho4 hb4 HW3' HS3 HB3 HB2
  go_wp2_with fail
  go_loopw [9] (fun iv wr => ∃ (k : Nat), iv = .int .i64 (k : Int) ∧ k ≤ vs.length ∧ Hid (StAt w2.heap.size wr p nv mv (oneS s vs k)) ∧ Hid (wr.ownsRow w3.heap.size 3 1 (.slice ua vs.length uc) vs.length (vs.map (.int .i64))) ∧ Hid (Below W.heap.size W wr)) (fun iv _ => vs.length - (intOf iv).toNat)
  case atStart => exact ⟨0, rfl, Nat.zero_le _, HS4, HV4, HB4⟩
  case round =>
  obtain ⟨k, rfl, hk, HS, HV, HBr⟩ := hrel
  by_cases hkn : k < vs.length
  case pos =>
    have hkI : (k : Int) < (vs.length : Int) := by omega
    obtain ⟨b, off, rfl, u0⟩ := HIc.out wr k hkn HV.out
    have eg : vs.getD k 0 = vs[k] := by rw [List.getD_eq_getElem?_getD, List.getElem?_eq_getElem hkn]; rfl
    have HX : Hid (oneS s vs (k + 1) = ((oneS s vs k).cut 1 (k : Int) vs[k]).cut 2 (k : Int) vs[k]) := by show _ = _; rw [← eg]; rfl
    have HIk := fun w' ho => HIc.out w' k hkn ho
    obtain ⟨u, hu⟩ : ∃ u, vs[k] = u := ⟨_, rfl⟩
    rw [hu] at u0 HX HIk
    have HI2 : Hid (∀ w' : World, w'.ownsRow w3.heap.size 3 1 (.slice (some ⟨b, off, none⟩) vs.length uc) vs.length (vs.map (.int .i64)) → w'.cell? ⟨b, off + k, none⟩ = some (.int .i64 u)) := fun w' ho => by
      obtain ⟨b', o', e, hc⟩ := HIk w' ho
      injection e with e
      injection e with e1 e2
      subst e1 e2
      exact hc
    have HK1 : Hid (Calls Tryz.prog 14 #[.pointer (some ⟨p, 0, none⟩), .agg #[.int .i64 1, .int .i64 (k : Int), .int .i64 u]] wr (CutOut w2.heap.size p nv mv (oneS s vs k) 1 (k : Int) u wr)) := HCt.out _ _ ⟨1, (k : Int), u⟩ wr HS.out
    have HK2 : Hid (∀ w', StAt w2.heap.size w' p nv mv ((oneS s vs k).cut 1 (k : Int) u) → Calls Tryz.prog 14 #[.pointer (some ⟨p, 0, none⟩), .agg #[.int .i64 2, .int .i64 (k : Int), .int .i64 u]] w' (CutOut w2.heap.size p nv mv ((oneS s vs k).cut 1 (k : Int) u) 2 (k : Int) u w')) := fun w' h => HCt.out _ _ ⟨2, (k : Int), u⟩ w' h
    clear hu HIk eg
    go_wp2_with (first | (go_at_call 14; refine calls_at HK1.out (by with_reducible rfl) (by with_reducible rfl) ?_; rintro e w5 ⟨rfl, hS5, hT5⟩; (have HV5 : Hid (w5.ownsRow w3.heap.size 3 1 (.slice (some ⟨b, off, none⟩) vs.length uc) vs.length (vs.map (.int .i64))) := HOf.out _ _ HV.out hT5); (have HB5 : Hid (Below W.heap.size W w5) := HBr.out.trans (hT5.below.mono HB2'.out)); (have u1 := HI2.out w5 HV5.out); (have HS5 : Hid (StAt w2.heap.size w5 p nv mv ((oneS s vs k).cut 1 (k : Int) u)) := hS5); clear hS5 hT5) | (go_at_call 14; refine calls_at (HK2.out w5 HS5.out) (by with_reducible rfl) (by with_reducible rfl) ?_; rintro e w6 ⟨rfl, hS6, hT6⟩))
    go_roundw
    case rel => exact ⟨k + 1, by go_num, hkn, (by show StAt _ _ _ _ _ _; rw [HX.out]; exact hS6), HOf.out _ _ HV5.out hT6, HB5.out.trans (hT6.below.mono HB2'.out)⟩
    case measure => simp [intOf]; omega
  case neg =>
  have hke : k = vs.length := by omega
  subst hke
  have hkI : ¬ (vs.length : Int) < (vs.length : Int) := by omega
  obtain ⟨t, hte⟩ : ∃ t, oneS s vs vs.length = t := ⟨_, rfl⟩
  have HS5 : Hid (StAt w2.heap.size wr p nv mv t) := by have := HS.out; rw [hte] at this; exact this
  have HFx := HFt.out t hte.symm
  have HI5 : Hid (IntsAt wr (.slice ua vs.length uc) vs) := vs_ints HV.out
  clear HS HV HS4 HV4 HB4 HFt hte hkn hk HCt HIc HOf HOw HB2'
  have HCs := HCu.out w2.heap.size p nv mv t wr HBr.out HS5.out
  obtain ⟨R, hRe⟩ : ∃ R, cutR t.now c = R := ⟨_, rfl⟩
  rw [hRe] at HFx HCs
  obtain ⟨l, ok⟩ := R
  dsimp only at HFx HCs
  have HF1 : Hid ((c.kind = 3 ∨ mayB (c0 c) vs.length = false) → l = [] ∧ ok = true) := fun h => by
    have := HFx.1 h
    injection this with h1 h2
    exact ⟨h1, h2⟩
  have HF2 : Hid (c.kind ≠ 3 → mayB (c0 c) vs.length = true → mayB c vs.length = true → Md.holds c vs = (ok && decide (l = []))) := HFx.2
  have HCs' : Hid (Calls Tryz.prog 10 #[.agg #[.int .i64 c.kind, .int .i64 c.op, (.slice ta c.terms.length tc), .int .i64 c.k, .int .i64 c.v, .int .i64 c.x, .int .i64 c.y, (.slice xa c.xs.length xc), (.slice ba c.table.length bc), (.slice ra c.rows.length rc)], .pointer (some ⟨p, 0, none⟩)] wr fun e w3 => ∃ a cap, e = .returned (.tuple #[.slice a l.length cap, .bool ok]) ∧ CtsAt w3 a l ∧ Below wr.heap.size wr w3) := HCs
  clear HFx HCs hRe HCu
  obtain ⟨_, q0, q1, q2, q3, q4, q5, q6, q7, q8, q9⟩ := HGc.out wr HBr.out
  go_upto_region 15 with (go_at_call 10; refine calls_at HCs'.out (by with_reducible rfl) (by with_reducible rfl) ?_; rintro e w6 ⟨a6, cp6, rfl, hc6, hb6⟩)
  have HB6 : Hid (Below W.heap.size W w6) := bl_next HBr.out hb6
  have HI6 : Hid (IntsAt w6 (.slice ua vs.length uc) vs) := HI5.out.below hb6
  clear hc6 hb6 HCs' HI5 HBr q0 q1 q2 q3 q4 q5 q6 q7 q8 q9
  obtain ⟨_, q0, q1, q2, q3, q4, q5, q6, q7, q8, q9⟩ := HGc.out w6 HB6.out
  obtain ⟨X, hX⟩ : ∃ X, w6.alloc (.cells #[.int .i64 c.kind, .int .i64 c.op, (.slice ta c.terms.length tc), .int .i64 c.k, .int .i64 c.v, .int .i64 c.x, .int .i64 c.y, (.slice xa c.xs.length xc), (.slice ba c.table.length bc), (.slice ra c.rows.length rc)] 31) = X := ⟨_, rfl⟩
  have HBX : Hid (Below W.heap.size W X) := by rw [← hX]; exact HB6.out.alloc HB6.out.size _
  have HLX : Hid (Below w6.heap.size w6 X) := by rw [← hX]; exact (Below.refl _ _).alloc (Nat.le_refl _) _
  have gX : X.heap[w6.heap.size]? = some (.cells #[.int .i64 c.kind, .int .i64 c.op, (.slice ta c.terms.length tc), .int .i64 c.k, .int .i64 c.v, .int .i64 c.x, .int .i64 c.y, (.slice xa c.xs.length xc), (.slice ba c.table.length bc), (.slice ra c.rows.length rc)] 31 (0, 0)) := by rw [← hX]; exact heap_alloc_new w6 _
  have HGX : Hid (X.heap[w6.heap.size]? = some (.cells #[.int .i64 c.kind, .int .i64 c.op, (.slice ta c.terms.length tc), .int .i64 c.k, .int .i64 c.v, .int .i64 c.x, .int .i64 c.y, (.slice xa c.xs.length xc), (.slice ba c.table.length bc), (.slice ra c.rows.length rc)] 31 (0, 0))) := gX
  have HXe : Hid (w6.alloc (.cells #[.int .i64 c.kind, .int .i64 c.op, (.slice ta c.terms.length tc), .int .i64 c.k, .int .i64 c.v, .int .i64 c.x, .int .i64 c.y, (.slice xa c.xs.length xc), (.slice ba c.table.length bc), (.slice ra c.rows.length rc)] 31) = X) := hX
  clear hX gX
  go_upto_region 16 with fail
  rw [HXe.out]
  clear HXe q0 q1 q2 q3 q4 q5 q6 q7 q8 q9
  obtain ⟨_, q0, q1, q2, q3, q4, q5, q6, q7, q8, q9⟩ := HGc.out X HBX.out
  obtain ⟨r0, r1, r2, r3, r4, r5, r6, r7, r8, r9⟩ := cn_cells HGX.out
  have hfz : X.frozen? ⟨w6.heap.size, 3, none⟩ = false := by simp [World.frozen?, HGX.out]
  obtain ⟨k0, hk0⟩ : ∃ k0, (if c.kind = 1 then (0 : Int) else c.k) = k0 := ⟨_, rfl⟩
  have HMk0 := HMk.out
  have hE := HEq.out
  rw [hE.1, hE.2.1, hE.2.2.1, hE.2.2.2.1, hE.2.2.2.2.1, hE.2.2.2.2.2, hk0] at HMk0
  have HMk1 : Hid (∀ (n : Nat) w', Below W.heap.size W w' → Calls Tryz.prog 15 #[.agg #[.int .i64 c.kind, .int .i64 c.op, (.slice ta c.terms.length tc), .int .i64 k0, .int .i64 c.v, .int .i64 c.x, .int .i64 c.y, (.slice xa c.xs.length xc), (.slice ba c.table.length bc), (.slice ra c.rows.length rc)], .int .i64 (n : Int)] w' fun e w2 => e = .returned (.bool (mayB (c0 c) n)) ∧ Below w'.heap.size w' w2) := HMk0
  have HK0 : Hid ((if c.kind = 1 then (0 : Int) else c.k) = k0) := hk0
  clear HMk0 hE hk0 HMk HEq
  go_upto_if 58 with fail
  go_cut [] from 58 to 59 (fun wx => Hid (wx.heap[w6.heap.size]? = some (.cells #[.int .i64 c.kind, .int .i64 c.op, (.slice ta c.terms.length tc), .int .i64 k0, .int .i64 c.v, .int .i64 c.x, .int .i64 c.y, (.slice xa c.xs.length xc), (.slice ba c.table.length bc), (.slice ra c.rows.length rc)] 31 (0, 0))) ∧ Hid (Below w6.heap.size w6 wx))
  case first =>
    by_cases h1 : c.kind = 1
    · have e1 : (c.kind == 1) = true := by simp [h1]
      have HY : Hid ((X.setCell ⟨w6.heap.size, 3, none⟩ (.int .i64 0)).heap[w6.heap.size]? = some (.cells #[.int .i64 c.kind, .int .i64 c.op, (.slice ta c.terms.length tc), .int .i64 k0, .int .i64 c.v, .int .i64 c.x, .int .i64 c.y, (.slice xa c.xs.length xc), (.slice ba c.table.length bc), (.slice ra c.rows.length rc)] 31 (0, 0))) := by
        have hk : k0 = 0 := by rw [← HK0.out, if_pos h1]
        rw [hk]
        have := heap_setCell_same X w6.heap.size 3 _ 31 (.int .i64 0) HGX.out
        exact this
      have HYb : Hid (Below w6.heap.size w6 (X.setCell ⟨w6.heap.size, 3, none⟩ (.int .i64 0))) := HLX.out.setCell (Nat.le_refl _) _
      clear h1
      go_wp2_with fail
      go_meet
      exact ⟨HY, HYb⟩
    · have e1 : (c.kind == 1) = false := by simp [h1]
      have HY : Hid (X.heap[w6.heap.size]? = some (.cells #[.int .i64 c.kind, .int .i64 c.op, (.slice ta c.terms.length tc), .int .i64 k0, .int .i64 c.v, .int .i64 c.x, .int .i64 c.y, (.slice xa c.xs.length xc), (.slice ba c.table.length bc), (.slice ra c.rows.length rc)] 31 (0, 0))) := by
        have hk : k0 = c.k := by rw [← HK0.out, if_neg h1]
        rw [hk]
        exact HGX.out
      clear h1
      go_wp2_with fail
      go_meet
      exact ⟨HY, HLX⟩
  case rest =>
  obtain ⟨HY, HBy⟩ := hcut
  rename World => wy
  have HB7 : Hid (Below W.heap.size W wy) := bl_next HB6.out HBy.out
  clear q0 q1 q2 q3 q4 q5 q6 q7 q8 q9 r0 r1 r2 r3 r4 r5 r6 r7 r8 r9 hfz
  obtain ⟨_, q0, q1, q2, q3, q4, q5, q6, q7, q8, q9⟩ := HGc.out wy HB7.out
  obtain ⟨r0, r1, r2, r3, r4, r5, r6, r7, r8, r9⟩ := cn_cells HY.out
  have HI7 : Hid (IntsAt wy (.slice ua vs.length uc) vs) := HI6.out.below HBy.out
  by_cases h3 : c.kind = 3
  · have e3 : (c.kind == 3) = true := by simp [h3]
    obtain ⟨rfl, rfl⟩ := HF1.out (.inl h3)
    clear h3
    go_wp2_with fail
    go_ret
    exact ⟨rfl, HWs.out _ HB7.out⟩
  have e3 : (c.kind == 3) = false := by simp [h3]
  have hF2 := HF2.out h3
  have hF1 := fun h => HF1.out (.inr h)
  have HMv := HMk1.out vs.length wy HB7.out
  obtain ⟨b7, hb7⟩ : ∃ b, mayB (c0 c) vs.length = b := ⟨_, rfl⟩
  rw [hb7] at hF1 hF2 HMv
  have HMv' : Hid (Calls Tryz.prog 15 #[.agg #[.int .i64 c.kind, .int .i64 c.op, (.slice ta c.terms.length tc), .int .i64 k0, .int .i64 c.v, .int .i64 c.x, .int .i64 c.y, (.slice xa c.xs.length xc), (.slice ba c.table.length bc), (.slice ra c.rows.length rc)], .int .i64 (vs.length : Int)] wy fun e w2 => e = .returned (.bool b7) ∧ Below wy.heap.size wy w2) := HMv
  have HF1' : Hid (b7 = false → l = [] ∧ ok = true) := hF1
  have HF2' : Hid (b7 = true → mayB c vs.length = true → Md.holds c vs = (ok && decide (l = []))) := hF2
  clear HMv hF1 hF2 hb7 h3 HF1 HF2 HMk1 HK0
  cases b7 with
  | false =>
    obtain ⟨rfl, rfl⟩ := HF1'.out rfl
    go_wp2_with (go_at_call 15; refine calls_at HMv'.out (by with_reducible rfl) (by with_reducible rfl) ?_; rintro e w8 ⟨rfl, hb8⟩)
    go_ret
    exact ⟨rfl, HWs.out _ (bl_next HB7.out hb8)⟩
  | true =>
  go_upto_region 20 with (go_at_call 15; refine calls_at HMv'.out (by with_reducible rfl) (by with_reducible rfl) ?_; rintro e w8 ⟨rfl, hb8⟩)
  have HB8 : Hid (Below W.heap.size W w8) := bl_next HB7.out hb8
  have HI8 : Hid (IntsAt w8 (.slice ua vs.length uc) vs) := HI7.out.below hb8
  have hF2 := HF2'.out (by trivial)
  have HMv := HMy.out vs.length w8 HB8.out
  obtain ⟨b8, hb8e⟩ : ∃ b, mayB c vs.length = b := ⟨_, rfl⟩
  rw [hb8e] at hF2 HMv
  have HMv2 : Hid (Calls Tryz.prog 15 #[.agg #[.int .i64 c.kind, .int .i64 c.op, (.slice ta c.terms.length tc), .int .i64 c.k, .int .i64 c.v, .int .i64 c.x, .int .i64 c.y, (.slice xa c.xs.length xc), (.slice ba c.table.length bc), (.slice ra c.rows.length rc)], .int .i64 (vs.length : Int)] w8 fun e w2 => e = .returned (.bool b8) ∧ Below w8.heap.size w8 w2) := HMv
  have HF3 : Hid (b8 = true → Md.holds c vs = (ok && decide (l = []))) := hF2
  clear hF2 HMv hb8e hb8 HMv' HF2' HF1' q0 q1 q2 q3 q4 q5 q6 q7 q8 q9 r0 r1 r2 r3 r4 r5 r6 r7 r8 r9
  obtain ⟨_, q0, q1, q2, q3, q4, q5, q6, q7, q8, q9⟩ := HGc.out w8 HB8.out
  cases b8 with
  | false =>
    go_wp2_with (go_at_call 15; refine calls_at HMv2.out (by with_reducible rfl) (by with_reducible rfl) ?_; rintro e w9 ⟨rfl, hb9⟩)
    go_ret
    exact ⟨rfl, HWs.out _ (bl_next HB8.out hb9)⟩
  | true =>
  go_upto_region 22 with (go_at_call 15; refine calls_at HMv2.out (by with_reducible rfl) (by with_reducible rfl) ?_; rintro e w9 ⟨rfl, hb9⟩)
  have HB9 : Hid (Below W.heap.size W w9) := bl_next HB8.out hb9
  have HH9 := HH.out _ vs w9 HB9.out (HI8.out.below hb9)
  rw [HF3.out (by trivial)] at HH9
  have HH9' : Hid (Calls Tryz.prog 11 #[.agg #[.int .i64 c.kind, .int .i64 c.op, (.slice ta c.terms.length tc), .int .i64 c.k, .int .i64 c.v, .int .i64 c.x, .int .i64 c.y, (.slice xa c.xs.length xc), (.slice ba c.table.length bc), (.slice ra c.rows.length rc)], .slice ua vs.length uc] w9 fun e w2 => e = .returned (.bool (ok && decide (l = []))) ∧ Below w9.heap.size w9 w2) := HH9
  clear HH9 HF3 hb9 HMv2 q0 q1 q2 q3 q4 q5 q6 q7 q8 q9
  obtain ⟨_, q0, q1, q2, q3, q4, q5, q6, q7, q8, q9⟩ := HGc.out w9 HB9.out
  cases ok with
  | false =>
    go_wp2_with (go_at_call 11; refine calls_at HH9'.out (by with_reducible rfl) (by with_reducible rfl) ?_; rintro e w10 ⟨rfl, hb10⟩)
    go_ret
    exact ⟨rfl, HWs.out _ (bl_next HB9.out hb10)⟩
  | true =>
    cases l with
    | nil =>
      go_wp2_with (go_at_call 11; refine calls_at HH9'.out (by with_reducible rfl) (by with_reducible rfl) ?_; rintro e w10 ⟨rfl, hb10⟩)
      go_ret
      exact ⟨rfl, HWs.out _ (bl_next HB9.out hb10)⟩
    | cons z l =>
      have hlz : ((l.length + 1 : Nat) : Int) ≠ 0 := by omega
      go_wp2_with (go_at_call 11; refine calls_at HH9'.out (by with_reducible rfl) (by with_reducible rfl) ?_; rintro e w10 ⟨rfl, hb10⟩)
      go_ret
      exact ⟨ret_bool (by simp; omega), HWs.out _ (bl_next HB9.out hb10)⟩
end Go.Proofs.YtlcegpnnanhloaaGreatDoor
