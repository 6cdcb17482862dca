/-
  The document's Same, of two problems of one content.
-/
import Derived.Test.YtjanpglnahagdaaGreatDoorJ35
namespace Go.Proofs.YtjanpglnahagdaaGreatDoor
open Go.RowKit

theorem var_fields : (Tryz.prog.fieldsOf 61).toList.map (fun f => (f.name, f.type, f.offset)) = [("Name", 9, 0), ("Lo", 3, 1), ("Hi", 3, 2)] := by kernel_rfl
theorem part3 (a1 a2 a3 : Value) (w : World) : (part 9 #[a1, a2, a3] 0).run Tryz.prog w = .ok a1 w ∧ (part 3 #[a1, a2, a3] 1).run Tryz.prog w = .ok a2 w ∧ (part 3 #[a1, a2, a3] 2).run Tryz.prog w = .ok a3 w := ⟨by kernel_rfl, by kernel_rfl, by kernel_rfl⟩
set_option maxHeartbeats 400000 in
theorem var_neq (s : ByteArray) (a b : Int) (w : World) : (binOp .neq 61 (.agg #[.string s, .int .i64 a, .int .i64 b]) (.agg #[.string s, .int .i64 a, .int .i64 b])).run Tryz.prog w = .ok (.bool false) w := by
  rw [run_neq_struct, run_equalIn_struct (d := 9999) (ht := by kernel_rfl) (hp := by kernel_rfl)]
  have hf := var_fields
  generalize (Tryz.prog.fieldsOf 61).toList = l at *
  simp only [List.map_eq_cons_iff, List.map_eq_nil_iff, Prod.mk.injEq] at hf
  obtain ⟨f1, l1, rfl, ⟨n1, t1, o1⟩, f2, l2, rfl, ⟨n2, t2, o2⟩, f3, l3, rfl, ⟨n3, t3, o3⟩, rfl⟩ := hf
  have pa := part3 (.string s) (.int .i64 a) (.int .i64 b) w
  have eq := fun a b => run_equalIn_int (P := Tryz.prog) w 9998 3 .i64 .i64 a b under3
  have eqs := fun a b => run_equalIn_string (P := Tryz.prog) w 9998 9 a b Tryz.underlying9
  simp only [Op.eqFields, n1, n2, n3, t1, t2, t3, o1, o2, o3, Sem.run_bind, pa, eq, eqs, Result.andThen_ok, Sem.run_ite, Sem.run_pure]
  simp [Result.andThen]

theorem Sn.next {V w' w'' : World} {c : Md.Cn} {N1 N2 n cp cp2 b1 o1 b2 o2 i : Nat} {ta ta2 xa xa2 ba ba2 ra ra2 : Option Addr} {tc tc2 xc xc2 bc bc2 rc rc2 : Nat} (h : w'.cell? ⟨N1, 1, none⟩ = some (.slice (some ⟨b1, o1, none⟩) n cp) ∧ w'.cell? ⟨N2, 1, none⟩ = some (.slice (some ⟨b2, o2, none⟩) n cp2) ∧ w'.cell? ⟨b1, o1 + i * 10, none⟩ = some (.int .i64 c.kind) ∧ w'.cell? ⟨b1, o1 + i * 10 + 1, none⟩ = some (.int .i64 c.op) ∧ w'.cell? ⟨b1, o1 + i * 10 + 2, none⟩ = some (.slice ta c.terms.length tc) ∧ w'.cell? ⟨b1, o1 + i * 10 + 3, none⟩ = some (.int .i64 c.k) ∧ w'.cell? ⟨b1, o1 + i * 10 + 4, none⟩ = some (.int .i64 c.v) ∧ w'.cell? ⟨b1, o1 + i * 10 + 5, none⟩ = some (.int .i64 c.x) ∧ w'.cell? ⟨b1, o1 + i * 10 + 6, none⟩ = some (.int .i64 c.y) ∧ w'.cell? ⟨b1, o1 + i * 10 + 7, none⟩ = some (.slice xa c.xs.length xc) ∧ w'.cell? ⟨b1, o1 + i * 10 + 8, none⟩ = some (.slice ba c.table.length bc) ∧ w'.cell? ⟨b1, o1 + i * 10 + 9, none⟩ = some (.slice ra c.rows.length rc) ∧ w'.cell? ⟨b2, o2 + i * 10, none⟩ = some (.int .i64 c.kind) ∧ w'.cell? ⟨b2, o2 + i * 10 + 1, none⟩ = some (.int .i64 c.op) ∧ w'.cell? ⟨b2, o2 + i * 10 + 2, none⟩ = some (.slice ta2 c.terms.length tc2) ∧ w'.cell? ⟨b2, o2 + i * 10 + 3, none⟩ = some (.int .i64 c.k) ∧ w'.cell? ⟨b2, o2 + i * 10 + 4, none⟩ = some (.int .i64 c.v) ∧ w'.cell? ⟨b2, o2 + i * 10 + 5, none⟩ = some (.int .i64 c.x) ∧ w'.cell? ⟨b2, o2 + i * 10 + 6, none⟩ = some (.int .i64 c.y) ∧ w'.cell? ⟨b2, o2 + i * 10 + 7, none⟩ = some (.slice xa2 c.xs.length xc2) ∧ w'.cell? ⟨b2, o2 + i * 10 + 8, none⟩ = some (.slice ba2 c.table.length bc2) ∧ w'.cell? ⟨b2, o2 + i * 10 + 9, none⟩ = some (.slice ra2 c.rows.length rc2) ∧ CnAt w' c (.slice ta c.terms.length tc) (.slice xa c.xs.length xc) (.slice ba c.table.length bc) (.slice ra c.rows.length rc) ∧ CnAt w' c (.slice ta2 c.terms.length tc2) (.slice xa2 c.xs.length xc2) (.slice ba2 c.table.length bc2) (.slice ra2 c.rows.length rc2) ∧ Below V.heap.size V w') (hb : Below w'.heap.size w' w'') : w''.cell? ⟨N1, 1, none⟩ = some (.slice (some ⟨b1, o1, none⟩) n cp) ∧ w''.cell? ⟨N2, 1, none⟩ = some (.slice (some ⟨b2, o2, none⟩) n cp2) ∧ w''.cell? ⟨b1, o1 + i * 10, none⟩ = some (.int .i64 c.kind) ∧ w''.cell? ⟨b1, o1 + i * 10 + 1, none⟩ = some (.int .i64 c.op) ∧ w''.cell? ⟨b1, o1 + i * 10 + 2, none⟩ = some (.slice ta c.terms.length tc) ∧ w''.cell? ⟨b1, o1 + i * 10 + 3, none⟩ = some (.int .i64 c.k) ∧ w''.cell? ⟨b1, o1 + i * 10 + 4, none⟩ = some (.int .i64 c.v) ∧ w''.cell? ⟨b1, o1 + i * 10 + 5, none⟩ = some (.int .i64 c.x) ∧ w''.cell? ⟨b1, o1 + i * 10 + 6, none⟩ = some (.int .i64 c.y) ∧ w''.cell? ⟨b1, o1 + i * 10 + 7, none⟩ = some (.slice xa c.xs.length xc) ∧ w''.cell? ⟨b1, o1 + i * 10 + 8, none⟩ = some (.slice ba c.table.length bc) ∧ w''.cell? ⟨b1, o1 + i * 10 + 9, none⟩ = some (.slice ra c.rows.length rc) ∧ w''.cell? ⟨b2, o2 + i * 10, none⟩ = some (.int .i64 c.kind) ∧ w''.cell? ⟨b2, o2 + i * 10 + 1, none⟩ = some (.int .i64 c.op) ∧ w''.cell? ⟨b2, o2 + i * 10 + 2, none⟩ = some (.slice ta2 c.terms.length tc2) ∧ w''.cell? ⟨b2, o2 + i * 10 + 3, none⟩ = some (.int .i64 c.k) ∧ w''.cell? ⟨b2, o2 + i * 10 + 4, none⟩ = some (.int .i64 c.v) ∧ w''.cell? ⟨b2, o2 + i * 10 + 5, none⟩ = some (.int .i64 c.x) ∧ w''.cell? ⟨b2, o2 + i * 10 + 6, none⟩ = some (.int .i64 c.y) ∧ w''.cell? ⟨b2, o2 + i * 10 + 7, none⟩ = some (.slice xa2 c.xs.length xc2) ∧ w''.cell? ⟨b2, o2 + i * 10 + 8, none⟩ = some (.slice ba2 c.table.length bc2) ∧ w''.cell? ⟨b2, o2 + i * 10 + 9, none⟩ = some (.slice ra2 c.rows.length rc2) ∧ CnAt w'' c (.slice ta c.terms.length tc) (.slice xa c.xs.length xc) (.slice ba c.table.length bc) (.slice ra c.rows.length rc) ∧ CnAt w'' c (.slice ta2 c.terms.length tc2) (.slice xa2 c.xs.length xc2) (.slice ba2 c.table.length bc2) (.slice ra2 c.rows.length rc2) ∧ Below V.heap.size V w'' := by
  obtain ⟨m1, m2, p0, p1, p2, p3, p4, p5, p6, p7, p8, p9, r0, r1, r2, r3, r4, r5, r6, r7, r8, r9, h1, h2, h3⟩ := h
  exact ⟨one_next hb m1, one_next hb m2, one_next hb p0, one_next hb p1, one_next hb p2, one_next hb p3, one_next hb p4, one_next hb p5, one_next hb p6, one_next hb p7, one_next hb p8, one_next hb p9, one_next hb r0, one_next hb r1, one_next hb r2, one_next hb r3, one_next hb r4, one_next hb r5, one_next hb r6, one_next hb r7, one_next hb r8, one_next hb r9, h1.below hb, h2.below hb, h3.trans (hb.mono h3.size)⟩
theorem Sn.cns {V w' : World} {c : Md.Cn} {N1 N2 n cp cp2 b1 o1 b2 o2 i : Nat} {ta ta2 xa xa2 ba ba2 ra ra2 : Option Addr} {tc tc2 xc xc2 bc bc2 rc rc2 : Nat} (h : w'.cell? ⟨N1, 1, none⟩ = some (.slice (some ⟨b1, o1, none⟩) n cp) ∧ w'.cell? ⟨N2, 1, none⟩ = some (.slice (some ⟨b2, o2, none⟩) n cp2) ∧ w'.cell? ⟨b1, o1 + i * 10, none⟩ = some (.int .i64 c.kind) ∧ w'.cell? ⟨b1, o1 + i * 10 + 1, none⟩ = some (.int .i64 c.op) ∧ w'.cell? ⟨b1, o1 + i * 10 + 2, none⟩ = some (.slice ta c.terms.length tc) ∧ w'.cell? ⟨b1, o1 + i * 10 + 3, none⟩ = some (.int .i64 c.k) ∧ w'.cell? ⟨b1, o1 + i * 10 + 4, none⟩ = some (.int .i64 c.v) ∧ w'.cell? ⟨b1, o1 + i * 10 + 5, none⟩ = some (.int .i64 c.x) ∧ w'.cell? ⟨b1, o1 + i * 10 + 6, none⟩ = some (.int .i64 c.y) ∧ w'.cell? ⟨b1, o1 + i * 10 + 7, none⟩ = some (.slice xa c.xs.length xc) ∧ w'.cell? ⟨b1, o1 + i * 10 + 8, none⟩ = some (.slice ba c.table.length bc) ∧ w'.cell? ⟨b1, o1 + i * 10 + 9, none⟩ = some (.slice ra c.rows.length rc) ∧ w'.cell? ⟨b2, o2 + i * 10, none⟩ = some (.int .i64 c.kind) ∧ w'.cell? ⟨b2, o2 + i * 10 + 1, none⟩ = some (.int .i64 c.op) ∧ w'.cell? ⟨b2, o2 + i * 10 + 2, none⟩ = some (.slice ta2 c.terms.length tc2) ∧ w'.cell? ⟨b2, o2 + i * 10 + 3, none⟩ = some (.int .i64 c.k) ∧ w'.cell? ⟨b2, o2 + i * 10 + 4, none⟩ = some (.int .i64 c.v) ∧ w'.cell? ⟨b2, o2 + i * 10 + 5, none⟩ = some (.int .i64 c.x) ∧ w'.cell? ⟨b2, o2 + i * 10 + 6, none⟩ = some (.int .i64 c.y) ∧ w'.cell? ⟨b2, o2 + i * 10 + 7, none⟩ = some (.slice xa2 c.xs.length xc2) ∧ w'.cell? ⟨b2, o2 + i * 10 + 8, none⟩ = some (.slice ba2 c.table.length bc2) ∧ w'.cell? ⟨b2, o2 + i * 10 + 9, none⟩ = some (.slice ra2 c.rows.length rc2) ∧ CnAt w' c (.slice ta c.terms.length tc) (.slice xa c.xs.length xc) (.slice ba c.table.length bc) (.slice ra c.rows.length rc) ∧ CnAt w' c (.slice ta2 c.terms.length tc2) (.slice xa2 c.xs.length xc2) (.slice ba2 c.table.length bc2) (.slice ra2 c.rows.length rc2) ∧ Below V.heap.size V w') : CnAt w' c (.slice ta c.terms.length tc) (.slice xa c.xs.length xc) (.slice ba c.table.length bc) (.slice ra c.rows.length rc) ∧ CnAt w' c (.slice ta2 c.terms.length tc2) (.slice xa2 c.xs.length xc2) (.slice ba2 c.table.length bc2) (.slice ra2 c.rows.length rc2) ∧ Below V.heap.size V w' := by
  obtain ⟨m1, m2, p0, p1, p2, p3, p4, p5, p6, p7, p8, p9, r0, r1, r2, r3, r4, r5, r6, r7, r8, r9, h⟩ := h
  exact h

set_option maxRecDepth 10000 in
set_option maxHeartbeats 4000000 in
theorem refSame_any (m : Md.Mo) (vv vc vg vv2 vc2 vg2 : Value) (w : World) (h : MoAt w m vv vc vg) (h2 : MoAt w m vv2 vc2 vg2) : Calls Tryz.prog 10 #[moVal m vv vc vg, moVal m vv2 vc2 vg2] w fun e w' => e = .returned (.bool true) ∧ Below w.heap.size w w' := by
  obtain ⟨va, vp, rfl, hvm, _, hvo⟩ := id h.v
  obtain ⟨ca, cp, rfl, hcm, hco⟩ := id h.c
  obtain ⟨ga, gp, rfl, hgm⟩ := h.g.form
  obtain ⟨va2, vp2, rfl, _, _, hvo2⟩ := id h2.v
  obtain ⟨ca2, cp2, rfl, _, hco2⟩ := id h2.c
  obtain ⟨ga2, gp2, rfl, _⟩ := h2.g.form
  unfold maxLen at hvm hcm hgm
  obtain ⟨W0, hW0⟩ : ∃ W, w.alloc (.cells #[.slice va m.vars.length vp, .slice ca m.cons.length cp, .bool m.has, .slice ga m.goal.length gp] 26) = W := ⟨_, rfl⟩
  have hb0 : Below w.heap.size w W0 := by rw [← hW0]; exact (Below.refl _ _).alloc (Nat.le_refl _) _
  have hN0 : W0.heap[w.heap.size]? = some (.cells #[.slice va m.vars.length vp, .slice ca m.cons.length cp, .bool m.has, .slice ga m.goal.length gp] 26) := by rw [← hW0]; exact heap_alloc_new w _
  have hs0 : W0.heap.size = w.heap.size + 1 := by rw [← hW0]; simp
  obtain ⟨W, hW⟩ : ∃ W, W0.alloc (.cells #[.slice va2 m.vars.length vp2, .slice ca2 m.cons.length cp2, .bool m.has, .slice ga2 m.goal.length gp2] 26) = W := ⟨_, rfl⟩
  have hb1 : Below W0.heap.size W0 W := by rw [← hW]; exact (Below.refl _ _).alloc (Nat.le_refl _) _
  have hbW : Below w.heap.size w W := hb0.trans (hb1.mono hb0.size)
  have hN1 : W.heap[w.heap.size]? = some (.cells #[.slice va m.vars.length vp, .slice ca m.cons.length cp, .bool m.has, .slice ga m.goal.length gp] 26) := (hb1.block _ (by omega)).trans hN0
  have hN2 : W.heap[w.heap.size + 1]? = some (.cells #[.slice va2 m.vars.length vp2, .slice ca2 m.cons.length cp2, .bool m.has, .slice ga2 m.goal.length gp2] 26) := by rw [← hs0, ← hW]; exact heap_alloc_new W0 _
  have HB : Hid (Below w.heap.size w W) := hbW
  have HN1 : Hid (∀ w', Below W.heap.size W w' → w'.heap[w.heap.size]? = some (.cells #[.slice va m.vars.length vp, .slice ca m.cons.length cp, .bool m.has, .slice ga m.goal.length gp] 26)) := fun w' hb => (hb.block _ (Array.getElem?_eq_some_iff.1 hN1).1).trans hN1
  have HN2 : Hid (∀ w', Below W.heap.size W w' → w'.heap[w.heap.size + 1]? = some (.cells #[.slice va2 m.vars.length vp2, .slice ca2 m.cons.length cp2, .bool m.has, .slice ga2 m.goal.length gp2] 26)) := fun w' hb => (hb.block _ (Array.getElem?_eq_some_iff.1 hN2).1).trans hN2
  have H55 : Hid (Calls Tryz.prog 26 #[.slice ga m.goal.length gp, .slice ga2 m.goal.length gp2] W fun e w' => e = .returned (.bool true) ∧ Below W.heap.size W w') := sameTerms_ref _ _ m.goal W (h.g.below hbW) (h2.g.below hbW)
  have HV : Hid (0 < m.vars.length → ∃ b off, va = some ⟨b, off, none⟩ ∧ b < w.heap.size ∧ ∀ j (h : j < m.vars.length), w.cell? ⟨b, off + j * 3, none⟩ = some (.string m.vars[j].name) ∧ w.cell? ⟨b, off + j * 3 + 1, none⟩ = some (.int .i64 m.vars[j].lo) ∧ w.cell? ⟨b, off + j * 3 + 2, none⟩ = some (.int .i64 m.vars[j].hi)) := hvo
  have HV2 : Hid (0 < m.vars.length → ∃ b off, va2 = some ⟨b, off, none⟩ ∧ b < w.heap.size ∧ ∀ j (h : j < m.vars.length), w.cell? ⟨b, off + j * 3, none⟩ = some (.string m.vars[j].name) ∧ w.cell? ⟨b, off + j * 3 + 1, none⟩ = some (.int .i64 m.vars[j].lo) ∧ w.cell? ⟨b, off + j * 3 + 2, none⟩ = some (.int .i64 m.vars[j].hi)) := hvo2
  have HC : Hid (0 < m.cons.length → ∃ b off, ca = some ⟨b, off, none⟩ ∧ b < w.heap.size ∧ ∀ j (h : j < m.cons.length), ∃ vt vx vb vr, CnAt w m.cons[j] vt vx vb vr ∧ CnCells w b (off + j * 10) m.cons[j] vt vx vb vr) := hco
  have HC2 : Hid (0 < m.cons.length → ∃ b off, ca2 = some ⟨b, off, none⟩ ∧ b < w.heap.size ∧ ∀ j (h : j < m.cons.length), ∃ vt vx vb vr, CnAt w m.cons[j] vt vx vb vr ∧ CnCells w b (off + j * 10) m.cons[j] vt vx vb vr) := hco2
  obtain ⟨⟨p0, p1, p2, p3⟩, _⟩ := box4 hN1
  obtain ⟨⟨q0, q1, q2, q3⟩, _⟩ := box4 hN2
  unfold moVal
  clear h h2 hvo hvo2 hco hco2 hbW hb0 hb1 hN0 hN1 hN2
  go_enter Tryz.func10, Tryz.ntmps10
  go_wp2_with (go_at_call 26; refine calls_at H55.out (by with_reducible rfl) (by with_reducible rfl) ?_; rintro e w1 ⟨rfl, hb1⟩; have HW1 : Hid (Below W.heap.size W w1) := hb1; clear hb1 p0 p1 p2 p3 q0 q1 q2 q3; obtain ⟨⟨p0, p1, p2, p3⟩, _⟩ := box4 (HN1.out _ HW1.out); obtain ⟨⟨q0, q1, q2, q3⟩, _⟩ := box4 (HN2.out _ HW1.out))
  go_loopw [5] (fun iv wr => ∃ k : Nat, iv = .int .i64 (k : Int) ∧ k ≤ m.vars.length ∧ Hid (Below W.heap.size W wr)) (fun iv _ => m.vars.length - (intOf iv).toNat)
  case atStart => exact ⟨0, rfl, Nat.zero_le _, HW1⟩
  case round =>
    obtain ⟨k, rfl, hk, hT⟩ := hrel
    clear p0 p1 p2 p3 q0 q1 q2 q3
    obtain ⟨⟨p0, p1, p2, p3⟩, _⟩ := box4 (HN1.out _ hT.out)
    obtain ⟨⟨q0, q1, q2, q3⟩, _⟩ := box4 (HN2.out _ hT.out)
    rename World => wk
    by_cases hlt : k < m.vars.length
    · have hkI : (k : Int) < (m.vars.length : Int) := by omega
      obtain ⟨b1, o1, rfl, hb1, hc1⟩ := HV.out (by omega)
      obtain ⟨b2, o2, rfl, hb2, hc2⟩ := HV2.out (by omega)
      have hbw : Below w.heap.size w wk := HB.out.trans (hT.out.mono HB.out.size)
      have d0 := (hbw.cell (p := ⟨b1, o1 + k * 3, none⟩) hb1).trans (hc1 k hlt).1
      have d1 := (hbw.cell (p := ⟨b1, o1 + k * 3 + 1, none⟩) hb1).trans (hc1 k hlt).2.1
      have d2 := (hbw.cell (p := ⟨b1, o1 + k * 3 + 2, none⟩) hb1).trans (hc1 k hlt).2.2
      have e0 := (hbw.cell (p := ⟨b2, o2 + k * 3, none⟩) hb2).trans (hc2 k hlt).1
      have e1 := (hbw.cell (p := ⟨b2, o2 + k * 3 + 1, none⟩) hb2).trans (hc2 k hlt).2.1
      have e2 := (hbw.cell (p := ⟨b2, o2 + k * 3 + 2, none⟩) hb2).trans (hc2 k hlt).2.2
      have hbin : ∀ w', (binOp .neq 61 (.agg #[.string m.vars[k].name, .int .i64 m.vars[k].lo, .int .i64 m.vars[k].hi]) (.agg #[.string m.vars[k].name, .int .i64 m.vars[k].lo, .int .i64 m.vars[k].hi])).run Tryz.prog w' = .ok (.bool false) w' := fun w' => var_neq _ _ _ w'
      clear hc1 hc2 hbw
      generalize m.vars[k] = v at *
      go_wp2
      go_quiet (fail)
      go_wp2
      go_roundw
      case rel => exact ⟨k + 1, by go_num, by omega, below_drewN hT.out _⟩
      case measure => simp [intOf]; omega
    · have hkI : ¬ (k : Int) < (m.vars.length : Int) := by omega
      go_wp2_with fail
      go_loopw [6] (fun iv wr => ∃ i : Nat, iv = .int .i64 (i : Int) ∧ i ≤ m.cons.length ∧ Hid (Below W.heap.size W wr)) (fun iv _ => m.cons.length - (intOf iv).toNat)
      case atStart => exact ⟨0, rfl, Nat.zero_le _, hT⟩
      case round =>
        obtain ⟨i, rfl, hi, hU⟩ := hrel
        clear p0 p1 p2 p3 q0 q1 q2 q3
        obtain ⟨⟨p0, p1, p2, p3⟩, _⟩ := box4 (HN1.out _ hU.out)
        obtain ⟨⟨q0, q1, q2, q3⟩, _⟩ := box4 (HN2.out _ hU.out)
        by_cases hit : i < m.cons.length
        · have hiI : (i : Int) < (m.cons.length : Int) := by omega
          have hi0 : (0 : Int) ≤ (i : Int) := by omega
          obtain ⟨b1, o1, rfl, hb1, hc1⟩ := HC.out (by omega)
          obtain ⟨b2, o2, rfl, hb2, hc2⟩ := HC2.out (by omega)
          have hbw : Below w.heap.size w wr := HB.out.trans (hU.out.mono HB.out.size)
          obtain ⟨vt, vx, vb, vr, hcn, hcl⟩ := hc1 i hit
          obtain ⟨vt2, vx2, vb2, vr2, hcn2, hcl2⟩ := hc2 i hit
          obtain ⟨ta, tc, rfl, _⟩ := hcn.t.form
          obtain ⟨xa, xc, rfl, _⟩ := hcn.x.form
          obtain ⟨ba, bc, rfl, _⟩ := hcn.b.form
          obtain ⟨ra, rc, rfl, _⟩ := hcn.r.form
          obtain ⟨ta2, tc2, rfl, _⟩ := hcn2.t.form
          obtain ⟨xa2, xc2, rfl, _⟩ := hcn2.x.form
          obtain ⟨ba2, bc2, rfl, _⟩ := hcn2.b.form
          obtain ⟨ra2, rc2, rfl, _⟩ := hcn2.r.form
          have A1 := hcn.below hbw
          have A2 := hcn2.below hbw
          obtain ⟨d0, d1, d2, d3, d4, d5, d6, d7, d8, d9⟩ := hcl.below hbw
          obtain ⟨e0, e1, e2, e3, e4, e5, e6, e7, e8, e9⟩ := hcl2.below hbw
          clear hc1 hc2 hcn hcn2 hcl hcl2 hbw
          generalize m.cons[i] = c at *
          have hS0 : Hid (wr.cell? ⟨w.heap.size, 1, none⟩ = some (.slice (some ⟨b1, o1, none⟩) m.cons.length cp) ∧ wr.cell? ⟨w.heap.size + 1, 1, none⟩ = some (.slice (some ⟨b2, o2, none⟩) m.cons.length cp2) ∧ wr.cell? ⟨b1, o1 + i * 10, none⟩ = some (.int .i64 c.kind) ∧ wr.cell? ⟨b1, o1 + i * 10 + 1, none⟩ = some (.int .i64 c.op) ∧ wr.cell? ⟨b1, o1 + i * 10 + 2, none⟩ = some (.slice ta c.terms.length tc) ∧ wr.cell? ⟨b1, o1 + i * 10 + 3, none⟩ = some (.int .i64 c.k) ∧ wr.cell? ⟨b1, o1 + i * 10 + 4, none⟩ = some (.int .i64 c.v) ∧ wr.cell? ⟨b1, o1 + i * 10 + 5, none⟩ = some (.int .i64 c.x) ∧ wr.cell? ⟨b1, o1 + i * 10 + 6, none⟩ = some (.int .i64 c.y) ∧ wr.cell? ⟨b1, o1 + i * 10 + 7, none⟩ = some (.slice xa c.xs.length xc) ∧ wr.cell? ⟨b1, o1 + i * 10 + 8, none⟩ = some (.slice ba c.table.length bc) ∧ wr.cell? ⟨b1, o1 + i * 10 + 9, none⟩ = some (.slice ra c.rows.length rc) ∧ wr.cell? ⟨b2, o2 + i * 10, none⟩ = some (.int .i64 c.kind) ∧ wr.cell? ⟨b2, o2 + i * 10 + 1, none⟩ = some (.int .i64 c.op) ∧ wr.cell? ⟨b2, o2 + i * 10 + 2, none⟩ = some (.slice ta2 c.terms.length tc2) ∧ wr.cell? ⟨b2, o2 + i * 10 + 3, none⟩ = some (.int .i64 c.k) ∧ wr.cell? ⟨b2, o2 + i * 10 + 4, none⟩ = some (.int .i64 c.v) ∧ wr.cell? ⟨b2, o2 + i * 10 + 5, none⟩ = some (.int .i64 c.x) ∧ wr.cell? ⟨b2, o2 + i * 10 + 6, none⟩ = some (.int .i64 c.y) ∧ wr.cell? ⟨b2, o2 + i * 10 + 7, none⟩ = some (.slice xa2 c.xs.length xc2) ∧ wr.cell? ⟨b2, o2 + i * 10 + 8, none⟩ = some (.slice ba2 c.table.length bc2) ∧ wr.cell? ⟨b2, o2 + i * 10 + 9, none⟩ = some (.slice ra2 c.rows.length rc2) ∧ CnAt wr c (.slice ta c.terms.length tc) (.slice xa c.xs.length xc) (.slice ba c.table.length bc) (.slice ra c.rows.length rc) ∧ CnAt wr c (.slice ta2 c.terms.length tc2) (.slice xa2 c.xs.length xc2) (.slice ba2 c.table.length bc2) (.slice ra2 c.rows.length rc2) ∧ Below wr.heap.size wr wr) := ⟨p1, q1, d0, d1, d2, d3, d4, d5, d6, d7, d8, d9, e0, e1, e2, e3, e4, e5, e6, e7, e8, e9, A1, A2, Below.refl _ _⟩
          clear A1 A2
          go_wp2_with fail
          go_region_held3 (fun w' => w'.cell? ⟨w.heap.size, 1, none⟩ = some (.slice (some ⟨b1, o1, none⟩) m.cons.length cp) ∧ w'.cell? ⟨w.heap.size + 1, 1, none⟩ = some (.slice (some ⟨b2, o2, none⟩) m.cons.length cp2) ∧ w'.cell? ⟨b1, o1 + i * 10, none⟩ = some (.int .i64 c.kind) ∧ w'.cell? ⟨b1, o1 + i * 10 + 1, none⟩ = some (.int .i64 c.op) ∧ w'.cell? ⟨b1, o1 + i * 10 + 2, none⟩ = some (.slice ta c.terms.length tc) ∧ w'.cell? ⟨b1, o1 + i * 10 + 3, none⟩ = some (.int .i64 c.k) ∧ w'.cell? ⟨b1, o1 + i * 10 + 4, none⟩ = some (.int .i64 c.v) ∧ w'.cell? ⟨b1, o1 + i * 10 + 5, none⟩ = some (.int .i64 c.x) ∧ w'.cell? ⟨b1, o1 + i * 10 + 6, none⟩ = some (.int .i64 c.y) ∧ w'.cell? ⟨b1, o1 + i * 10 + 7, none⟩ = some (.slice xa c.xs.length xc) ∧ w'.cell? ⟨b1, o1 + i * 10 + 8, none⟩ = some (.slice ba c.table.length bc) ∧ w'.cell? ⟨b1, o1 + i * 10 + 9, none⟩ = some (.slice ra c.rows.length rc) ∧ w'.cell? ⟨b2, o2 + i * 10, none⟩ = some (.int .i64 c.kind) ∧ w'.cell? ⟨b2, o2 + i * 10 + 1, none⟩ = some (.int .i64 c.op) ∧ w'.cell? ⟨b2, o2 + i * 10 + 2, none⟩ = some (.slice ta2 c.terms.length tc2) ∧ w'.cell? ⟨b2, o2 + i * 10 + 3, none⟩ = some (.int .i64 c.k) ∧ w'.cell? ⟨b2, o2 + i * 10 + 4, none⟩ = some (.int .i64 c.v) ∧ w'.cell? ⟨b2, o2 + i * 10 + 5, none⟩ = some (.int .i64 c.x) ∧ w'.cell? ⟨b2, o2 + i * 10 + 6, none⟩ = some (.int .i64 c.y) ∧ w'.cell? ⟨b2, o2 + i * 10 + 7, none⟩ = some (.slice xa2 c.xs.length xc2) ∧ w'.cell? ⟨b2, o2 + i * 10 + 8, none⟩ = some (.slice ba2 c.table.length bc2) ∧ w'.cell? ⟨b2, o2 + i * 10 + 9, none⟩ = some (.slice ra2 c.rows.length rc2) ∧ CnAt w' c (.slice ta c.terms.length tc) (.slice xa c.xs.length xc) (.slice ba c.table.length bc) (.slice ra c.rows.length rc) ∧ CnAt w' c (.slice ta2 c.terms.length tc2) (.slice xa2 c.xs.length xc2) (.slice ba2 c.table.length bc2) (.slice ra2 c.rows.length rc2) ∧ Below wr.heap.size wr w')
            (first | exact Sn.next hS0.out (Below.refl _ _).drew | exact Sn.next (by assumption) (by assumption) | assumption)
            (first | (go_at_call 27; refine (sameCon_ref c _ _ _ _ _ _ _ _ _ (Sn.cns (by assumption)).1 (Sn.cns (by assumption)).2.1).mono ?_; rintro e w' ⟨rfl, hb⟩))
          rename_i hHeld
          have hfin := (Sn.cns hHeld).2.2
          have HFIN : Hid (Below W.heap.size W _) := hU.out.trans (hfin.mono hU.out.size)
          clear hHeld hfin
          go_wp2
          go_roundw
          case rel => exact ⟨i + 1, by go_num, by omega, HFIN⟩
          case measure => simp [intOf]; omega
        · have hiI : ¬ (i : Int) < (m.cons.length : Int) := by omega
          go_wp2_with fail
          go_ret
          exact ⟨rfl, HB.out.trans (hU.out.mono HB.out.size)⟩
end Go.Proofs.YtjanpglnahagdaaGreatDoor
