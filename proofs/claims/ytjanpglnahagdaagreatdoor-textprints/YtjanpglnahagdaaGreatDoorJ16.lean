/-
  Put together: MdSame1, MdV4.
-/
import Derived.Test.YtjanpglnahagdaaGreatDoorMdSame
import Derived.Test.YtjanpglnahagdaaGreatDoorJ14
import Derived.Deep.RegionHeld3
namespace Go.Proofs.YtjanpglnahagdaaGreatDoor
open Go.RowKit

theorem one_next {w' w'' : World} (hb : Below w'.heap.size w' w'') {a : Addr} {u : Value} (h : w'.cell? a = some u) : w''.cell? a = some u := by
  refine (hb.cell (p := a) ?_).trans h
  rcases Nat.lt_or_ge a.block w'.heap.size with hl | hl
  · exact hl
  · unfold World.cell? at h
    rw [Array.getElem?_eq_none hl] at h
    cases h

theorem Sm.next {W w' w'' : World} {c : Md.Cn} {N1 N2 q1 q2 : Nat} {ta ta2 xa xa2 ba ba2 ra ra2 : Option Addr} {tc tc2 xc xc2 bc bc2 rc rc2 : Nat} (h : w'.cell? ⟨N1, 1, none⟩ = some (.slice (some ⟨q1, 0, none⟩) 1 1) ∧ w'.cell? ⟨N2, 1, none⟩ = some (.slice (some ⟨q2, 0, none⟩) 1 1) ∧ w'.cell? ⟨q1, 0, none⟩ = some (.int .i64 c.kind) ∧ w'.cell? ⟨q1, 1, none⟩ = some (.int .i64 c.op) ∧ w'.cell? ⟨q1, 2, none⟩ = some (.slice ta c.terms.length tc) ∧ w'.cell? ⟨q1, 3, none⟩ = some (.int .i64 c.k) ∧ w'.cell? ⟨q1, 4, none⟩ = some (.int .i64 c.v) ∧ w'.cell? ⟨q1, 5, none⟩ = some (.int .i64 c.x) ∧ w'.cell? ⟨q1, 6, none⟩ = some (.int .i64 c.y) ∧ w'.cell? ⟨q1, 7, none⟩ = some (.slice xa c.xs.length xc) ∧ w'.cell? ⟨q1, 8, none⟩ = some (.slice ba c.table.length bc) ∧ w'.cell? ⟨q1, 9, none⟩ = some (.slice ra c.rows.length rc) ∧ w'.cell? ⟨q2, 0, none⟩ = some (.int .i64 c.kind) ∧ w'.cell? ⟨q2, 1, none⟩ = some (.int .i64 c.op) ∧ w'.cell? ⟨q2, 2, none⟩ = some (.slice ta2 c.terms.length tc2) ∧ w'.cell? ⟨q2, 3, none⟩ = some (.int .i64 c.k) ∧ w'.cell? ⟨q2, 4, none⟩ = some (.int .i64 c.v) ∧ w'.cell? ⟨q2, 5, none⟩ = some (.int .i64 c.x) ∧ w'.cell? ⟨q2, 6, none⟩ = some (.int .i64 c.y) ∧ w'.cell? ⟨q2, 7, none⟩ = some (.slice xa2 c.xs.length xc2) ∧ w'.cell? ⟨q2, 8, none⟩ = some (.slice ba2 c.table.length bc2) ∧ w'.cell? ⟨q2, 9, none⟩ = some (.slice ra2 c.rows.length rc2) ∧ CnAt w' c (.slice ta c.terms.length tc) (.slice xa c.xs.length xc) (.slice ba c.table.length bc) (.slice ra c.rows.length rc) ∧ CnAt w' c (.slice ta2 c.terms.length tc2) (.slice xa2 c.xs.length xc2) (.slice ba2 c.table.length bc2) (.slice ra2 c.rows.length rc2) ∧ Below W.heap.size W w') (hb : Below w'.heap.size w' w'') : w''.cell? ⟨N1, 1, none⟩ = some (.slice (some ⟨q1, 0, none⟩) 1 1) ∧ w''.cell? ⟨N2, 1, none⟩ = some (.slice (some ⟨q2, 0, none⟩) 1 1) ∧ w''.cell? ⟨q1, 0, none⟩ = some (.int .i64 c.kind) ∧ w''.cell? ⟨q1, 1, none⟩ = some (.int .i64 c.op) ∧ w''.cell? ⟨q1, 2, none⟩ = some (.slice ta c.terms.length tc) ∧ w''.cell? ⟨q1, 3, none⟩ = some (.int .i64 c.k) ∧ w''.cell? ⟨q1, 4, none⟩ = some (.int .i64 c.v) ∧ w''.cell? ⟨q1, 5, none⟩ = some (.int .i64 c.x) ∧ w''.cell? ⟨q1, 6, none⟩ = some (.int .i64 c.y) ∧ w''.cell? ⟨q1, 7, none⟩ = some (.slice xa c.xs.length xc) ∧ w''.cell? ⟨q1, 8, none⟩ = some (.slice ba c.table.length bc) ∧ w''.cell? ⟨q1, 9, none⟩ = some (.slice ra c.rows.length rc) ∧ w''.cell? ⟨q2, 0, none⟩ = some (.int .i64 c.kind) ∧ w''.cell? ⟨q2, 1, none⟩ = some (.int .i64 c.op) ∧ w''.cell? ⟨q2, 2, none⟩ = some (.slice ta2 c.terms.length tc2) ∧ w''.cell? ⟨q2, 3, none⟩ = some (.int .i64 c.k) ∧ w''.cell? ⟨q2, 4, none⟩ = some (.int .i64 c.v) ∧ w''.cell? ⟨q2, 5, none⟩ = some (.int .i64 c.x) ∧ w''.cell? ⟨q2, 6, none⟩ = some (.int .i64 c.y) ∧ w''.cell? ⟨q2, 7, none⟩ = some (.slice xa2 c.xs.length xc2) ∧ w''.cell? ⟨q2, 8, none⟩ = some (.slice ba2 c.table.length bc2) ∧ w''.cell? ⟨q2, 9, none⟩ = some (.slice ra2 c.rows.length rc2) ∧ CnAt w'' c (.slice ta c.terms.length tc) (.slice xa c.xs.length xc) (.slice ba c.table.length bc) (.slice ra c.rows.length rc) ∧ CnAt w'' c (.slice ta2 c.terms.length tc2) (.slice xa2 c.xs.length xc2) (.slice ba2 c.table.length bc2) (.slice ra2 c.rows.length rc2) ∧ Below W.heap.size W w'' := by
  obtain ⟨m1, m2, p0, p1, p2, p3, p4, p5, p6, p7, p8, p9, r0, r1, r2, r3, r4, r5, r6, r7, r8, r9, h1, h2, h3⟩ := h
  exact ⟨one_next hb m1, one_next hb m2, one_next hb p0, one_next hb p1, one_next hb p2, one_next hb p3, one_next hb p4, one_next hb p5, one_next hb p6, one_next hb p7, one_next hb p8, one_next hb p9, one_next hb r0, one_next hb r1, one_next hb r2, one_next hb r3, one_next hb r4, one_next hb r5, one_next hb r6, one_next hb r7, one_next hb r8, one_next hb r9, h1.below hb, h2.below hb, h3.trans (hb.mono h3.size)⟩

theorem Sm.cns {W w' : World} {c : Md.Cn} {N1 N2 q1 q2 : Nat} {ta ta2 xa xa2 ba ba2 ra ra2 : Option Addr} {tc tc2 xc xc2 bc bc2 rc rc2 : Nat} (h : w'.cell? ⟨N1, 1, none⟩ = some (.slice (some ⟨q1, 0, none⟩) 1 1) ∧ w'.cell? ⟨N2, 1, none⟩ = some (.slice (some ⟨q2, 0, none⟩) 1 1) ∧ w'.cell? ⟨q1, 0, none⟩ = some (.int .i64 c.kind) ∧ w'.cell? ⟨q1, 1, none⟩ = some (.int .i64 c.op) ∧ w'.cell? ⟨q1, 2, none⟩ = some (.slice ta c.terms.length tc) ∧ w'.cell? ⟨q1, 3, none⟩ = some (.int .i64 c.k) ∧ w'.cell? ⟨q1, 4, none⟩ = some (.int .i64 c.v) ∧ w'.cell? ⟨q1, 5, none⟩ = some (.int .i64 c.x) ∧ w'.cell? ⟨q1, 6, none⟩ = some (.int .i64 c.y) ∧ w'.cell? ⟨q1, 7, none⟩ = some (.slice xa c.xs.length xc) ∧ w'.cell? ⟨q1, 8, none⟩ = some (.slice ba c.table.length bc) ∧ w'.cell? ⟨q1, 9, none⟩ = some (.slice ra c.rows.length rc) ∧ w'.cell? ⟨q2, 0, none⟩ = some (.int .i64 c.kind) ∧ w'.cell? ⟨q2, 1, none⟩ = some (.int .i64 c.op) ∧ w'.cell? ⟨q2, 2, none⟩ = some (.slice ta2 c.terms.length tc2) ∧ w'.cell? ⟨q2, 3, none⟩ = some (.int .i64 c.k) ∧ w'.cell? ⟨q2, 4, none⟩ = some (.int .i64 c.v) ∧ w'.cell? ⟨q2, 5, none⟩ = some (.int .i64 c.x) ∧ w'.cell? ⟨q2, 6, none⟩ = some (.int .i64 c.y) ∧ w'.cell? ⟨q2, 7, none⟩ = some (.slice xa2 c.xs.length xc2) ∧ w'.cell? ⟨q2, 8, none⟩ = some (.slice ba2 c.table.length bc2) ∧ w'.cell? ⟨q2, 9, none⟩ = some (.slice ra2 c.rows.length rc2) ∧ CnAt w' c (.slice ta c.terms.length tc) (.slice xa c.xs.length xc) (.slice ba c.table.length bc) (.slice ra c.rows.length rc) ∧ CnAt w' c (.slice ta2 c.terms.length tc2) (.slice xa2 c.xs.length xc2) (.slice ba2 c.table.length bc2) (.slice ra2 c.rows.length rc2) ∧ Below W.heap.size W w') : CnAt w' c (.slice ta c.terms.length tc) (.slice xa c.xs.length xc) (.slice ba c.table.length bc) (.slice ra c.rows.length rc) ∧ CnAt w' c (.slice ta2 c.terms.length tc2) (.slice xa2 c.xs.length xc2) (.slice ba2 c.table.length bc2) (.slice ra2 c.rows.length rc2) ∧ Below W.heap.size W w' := by
  obtain ⟨m1, m2, p0, p1, p2, p3, p4, p5, p6, p7, p8, p9, r0, r1, r2, r3, r4, r5, r6, r7, r8, r9, h⟩ := h
  exact h

set_option maxRecDepth 10000 in
set_option maxHeartbeats 2000000 in
theorem same1_any (q1 q2 : Nat) (c : Md.Cn) (vt vx vb vr vt2 vx2 vb2 vr2 : Value) (w : World) (hC : CnAt w c vt vx vb vr) (hC2 : CnAt w c vt2 vx2 vb2 vr2) (hq1 : w.heap[q1]? = some (.cells #[.int .i64 c.kind, .int .i64 c.op, vt, .int .i64 c.k, .int .i64 c.v, .int .i64 c.x, .int .i64 c.y, vx, vb, vr] 64)) (hq2 : w.heap[q2]? = some (.cells #[.int .i64 c.kind, .int .i64 c.op, vt2, .int .i64 c.k, .int .i64 c.v, .int .i64 c.x, .int .i64 c.y, vx2, vb2, vr2] 64)) :
    Calls Tryz.prog 10 #[.agg #[.slice none 0 0, .slice (some ⟨q1, 0, none⟩) 1 1, .bool false, .slice none 0 0], .agg #[.slice none 0 0, .slice (some ⟨q2, 0, none⟩) 1 1, .bool false, .slice none 0 0]] w fun e w' => e = .returned (.bool true) ∧ Below w.heap.size w w' := by
  obtain ⟨ta, tc, rfl, _⟩ := hC.t.form
  obtain ⟨xa, xc, rfl, _⟩ := hC.x.form
  obtain ⟨ba, bc, rfl, _⟩ := hC.b.form
  obtain ⟨ra, rc, rfl, _⟩ := hC.r.form
  obtain ⟨ta2, tc2, rfl, _⟩ := hC2.t.form
  obtain ⟨xa2, xc2, rfl, _⟩ := hC2.x.form
  obtain ⟨ba2, bc2, rfl, _⟩ := hC2.b.form
  obtain ⟨ra2, rc2, rfl, _⟩ := hC2.r.form
  have hl1 := (Array.getElem?_eq_some_iff.1 hq1).1
  have hl2 := (Array.getElem?_eq_some_iff.1 hq2).1
  obtain ⟨W, hW⟩ : ∃ W, (w.alloc (.cells #[.slice none 0 0, .slice (some ⟨q1, 0, none⟩) 1 1, .bool false, .slice none 0 0] 26)).alloc (.cells #[.slice none 0 0, .slice (some ⟨q2, 0, none⟩) 1 1, .bool false, .slice none 0 0] 26) = W := ⟨_, rfl⟩
  have hbW : Below w.heap.size w W := by rw [← hW]; exact ((Below.refl _ _).alloc (Nat.le_refl _) _).alloc (by simp) _
  have hN1 : W.heap[w.heap.size]? = some (.cells #[.slice none 0 0, .slice (some ⟨q1, 0, none⟩) 1 1, .bool false, .slice none 0 0] 26) := by rw [← hW, Below.heap_alloc _ _ _ (by simp)]; exact heap_alloc_new w _
  have hN2 : W.heap[w.heap.size + 1]? = some (.cells #[.slice none 0 0, .slice (some ⟨q2, 0, none⟩) 1 1, .bool false, .slice none 0 0] 26) := by
    rw [← hW]
    have := heap_alloc_new (w.alloc (.cells #[.slice none 0 0, .slice (some ⟨q1, 0, none⟩) 1 1, .bool false, .slice none 0 0] 26)) (.cells #[.slice none 0 0, .slice (some ⟨q2, 0, none⟩) 1 1, .bool false, .slice none 0 0] 26)
    simpa using this
  have hn1 := (Array.getElem?_eq_some_iff.1 hN1).1
  have hn2 := (Array.getElem?_eq_some_iff.1 hN2).1
  have HN : Hid (∀ w', Below W.heap.size W w' → (w'.cell? ⟨w.heap.size, 0, none⟩ = some (.slice none 0 0) ∧ w'.cell? ⟨w.heap.size, 1, none⟩ = some (.slice (some ⟨q1, 0, none⟩) 1 1) ∧ w'.cell? ⟨w.heap.size, 2, none⟩ = some (.bool false) ∧ w'.cell? ⟨w.heap.size, 3, none⟩ = some (.slice none 0 0)) ∧ w'.cell? ⟨w.heap.size + 1, 0, none⟩ = some (.slice none 0 0) ∧ w'.cell? ⟨w.heap.size + 1, 1, none⟩ = some (.slice (some ⟨q2, 0, none⟩) 1 1) ∧ w'.cell? ⟨w.heap.size + 1, 2, none⟩ = some (.bool false) ∧ w'.cell? ⟨w.heap.size + 1, 3, none⟩ = some (.slice none 0 0)) := fun w' hb => by
    have a1 := (hb.block _ hn1).trans hN1
    have a2 := (hb.block _ hn2).trans hN2
    simp [World.cell?, a1, a2]
  have HQ : Hid (∀ w', Below W.heap.size W w' → w'.heap[q1]? = some (.cells #[.int .i64 c.kind, .int .i64 c.op, .slice ta c.terms.length tc, .int .i64 c.k, .int .i64 c.v, .int .i64 c.x, .int .i64 c.y, .slice xa c.xs.length xc, .slice ba c.table.length bc, .slice ra c.rows.length rc] 64) ∧ w'.heap[q2]? = some (.cells #[.int .i64 c.kind, .int .i64 c.op, .slice ta2 c.terms.length tc2, .int .i64 c.k, .int .i64 c.v, .int .i64 c.x, .int .i64 c.y, .slice xa2 c.xs.length xc2, .slice ba2 c.table.length bc2, .slice ra2 c.rows.length rc2] 64)) := fun w' hb => ⟨(hb.block _ (Nat.lt_of_lt_of_le hl1 hbW.size)).trans ((hbW.block _ hl1).trans hq1), (hb.block _ (Nat.lt_of_lt_of_le hl2 hbW.size)).trans ((hbW.block _ hl2).trans hq2)⟩
  have HA : Hid (∀ w', Below W.heap.size W w' → CnAt w' c (.slice ta c.terms.length tc) (.slice xa c.xs.length xc) (.slice ba c.table.length bc) (.slice ra c.rows.length rc) ∧ CnAt w' c (.slice ta2 c.terms.length tc2) (.slice xa2 c.xs.length xc2) (.slice ba2 c.table.length bc2) (.slice ra2 c.rows.length rc2)) := fun w' hb => ⟨(hC.below hbW).below hb, (hC2.below hbW).below hb⟩
  have HB : Hid (Below w.heap.size w W) := hbW
  have HI : ∀ x, IntsAt x (.slice none 0 0) [] := fun x => ⟨none, 0, rfl, Nat.zero_le _, fun h => absurd h (by decide)⟩
  have HT : ∀ x, TermsAt x (.slice none 0 0) [] := fun x => ⟨none, 0, rfl, Nat.zero_le _, fun h => absurd h (by decide)⟩
  have H55 : Hid (Calls Tryz.prog 26 #[.slice none 0 0, .slice none 0 0] W fun e w' => e = .returned (.bool true) ∧ Below W.heap.size W w') := sameTerms_ref _ _ [] W (HT W) (HT W)
  clear HI HT hC hC2 hq1 hq2 hbW hN1 hN2
  obtain ⟨⟨m0, m1, m2, m3⟩, n0, n1, n2, n3⟩ := HN.out W (Below.refl _ _)
  go_enter Tryz.func10, Tryz.ntmps10
  go_wp2_with (go_at_call 26; refine calls_at H55.out (by with_reducible rfl) (by with_reducible rfl) ?_; rintro e w1 ⟨rfl, hb1⟩; have HW1 : Hid (Below W.heap.size W w1) := hb1; clear hb1 m0 m1 m2 m3 n0 n1 n2 n3; obtain ⟨⟨m0, m1, m2, m3⟩, n0, n1, n2, n3⟩ := HN.out _ HW1.out)
  go_loop [5] (fun iv => iv = .int .i64 0) (fun _ => 0)
  case atStart => rfl
  case round =>
    subst hrel
    go_wp2_with fail
    go_loopw [6] (fun iv wr => ∃ k : Nat, iv = .int .i64 (k : Int) ∧ Hid (Below W.heap.size W wr) ∧ Hid (k = 0 ∨ k = 1)) (fun iv _ => 1 - (intOf iv).toNat)
    case atStart => exact ⟨0, rfl, HW1, .inl rfl⟩
    case round =>
      obtain ⟨k, rfl, hG, hk01⟩ := hrel
      clear m0 m1 m2 m3 n0 n1 n2 n3
      obtain ⟨⟨m0, m1, m2, m3⟩, n0, n1, n2, n3⟩ := HN.out _ hG.out
      rcases hk01.out with rfl | rfl
      · obtain ⟨⟨p0, p1, p2, p3, p4, p5, p6, p7, p8, p9⟩, _⟩ := box10 (HQ.out _ hG.out).1
        obtain ⟨⟨r0, r1, r2, r3, r4, r5, r6, r7, r8, r9⟩, _⟩ := box10 (HQ.out _ hG.out).2
        rename World => wq
        have hS0 : Hid (wq.cell? ⟨w.heap.size, 1, none⟩ = some (.slice (some ⟨q1, 0, none⟩) 1 1) ∧ wq.cell? ⟨(w.heap.size + 1), 1, none⟩ = some (.slice (some ⟨q2, 0, none⟩) 1 1) ∧ wq.cell? ⟨q1, 0, none⟩ = some (.int .i64 c.kind) ∧ wq.cell? ⟨q1, 1, none⟩ = some (.int .i64 c.op) ∧ wq.cell? ⟨q1, 2, none⟩ = some (.slice ta c.terms.length tc) ∧ wq.cell? ⟨q1, 3, none⟩ = some (.int .i64 c.k) ∧ wq.cell? ⟨q1, 4, none⟩ = some (.int .i64 c.v) ∧ wq.cell? ⟨q1, 5, none⟩ = some (.int .i64 c.x) ∧ wq.cell? ⟨q1, 6, none⟩ = some (.int .i64 c.y) ∧ wq.cell? ⟨q1, 7, none⟩ = some (.slice xa c.xs.length xc) ∧ wq.cell? ⟨q1, 8, none⟩ = some (.slice ba c.table.length bc) ∧ wq.cell? ⟨q1, 9, none⟩ = some (.slice ra c.rows.length rc) ∧ wq.cell? ⟨q2, 0, none⟩ = some (.int .i64 c.kind) ∧ wq.cell? ⟨q2, 1, none⟩ = some (.int .i64 c.op) ∧ wq.cell? ⟨q2, 2, none⟩ = some (.slice ta2 c.terms.length tc2) ∧ wq.cell? ⟨q2, 3, none⟩ = some (.int .i64 c.k) ∧ wq.cell? ⟨q2, 4, none⟩ = some (.int .i64 c.v) ∧ wq.cell? ⟨q2, 5, none⟩ = some (.int .i64 c.x) ∧ wq.cell? ⟨q2, 6, none⟩ = some (.int .i64 c.y) ∧ wq.cell? ⟨q2, 7, none⟩ = some (.slice xa2 c.xs.length xc2) ∧ wq.cell? ⟨q2, 8, none⟩ = some (.slice ba2 c.table.length bc2) ∧ wq.cell? ⟨q2, 9, none⟩ = some (.slice ra2 c.rows.length rc2) ∧ CnAt wq c (.slice ta c.terms.length tc) (.slice xa c.xs.length xc) (.slice ba c.table.length bc) (.slice ra c.rows.length rc) ∧ CnAt wq c (.slice ta2 c.terms.length tc2) (.slice xa2 c.xs.length xc2) (.slice ba2 c.table.length bc2) (.slice ra2 c.rows.length rc2) ∧ Below W.heap.size W wq) := ⟨m1, n1, p0, p1, p2, p3, p4, p5, p6, p7, p8, p9, r0, r1, r2, r3, r4, r5, r6, r7, r8, r9, (HA.out _ hG.out).1, (HA.out _ hG.out).2, hG.out⟩
        go_wp2_with fail
        go_region_held3 (fun w' => w'.cell? ⟨w.heap.size, 1, none⟩ = some (.slice (some ⟨q1, 0, none⟩) 1 1) ∧ w'.cell? ⟨(w.heap.size + 1), 1, none⟩ = some (.slice (some ⟨q2, 0, none⟩) 1 1) ∧ w'.cell? ⟨q1, 0, none⟩ = some (.int .i64 c.kind) ∧ w'.cell? ⟨q1, 1, none⟩ = some (.int .i64 c.op) ∧ w'.cell? ⟨q1, 2, none⟩ = some (.slice ta c.terms.length tc) ∧ w'.cell? ⟨q1, 3, none⟩ = some (.int .i64 c.k) ∧ w'.cell? ⟨q1, 4, none⟩ = some (.int .i64 c.v) ∧ w'.cell? ⟨q1, 5, none⟩ = some (.int .i64 c.x) ∧ w'.cell? ⟨q1, 6, none⟩ = some (.int .i64 c.y) ∧ w'.cell? ⟨q1, 7, none⟩ = some (.slice xa c.xs.length xc) ∧ w'.cell? ⟨q1, 8, none⟩ = some (.slice ba c.table.length bc) ∧ w'.cell? ⟨q1, 9, none⟩ = some (.slice ra c.rows.length rc) ∧ w'.cell? ⟨q2, 0, none⟩ = some (.int .i64 c.kind) ∧ w'.cell? ⟨q2, 1, none⟩ = some (.int .i64 c.op) ∧ w'.cell? ⟨q2, 2, none⟩ = some (.slice ta2 c.terms.length tc2) ∧ w'.cell? ⟨q2, 3, none⟩ = some (.int .i64 c.k) ∧ w'.cell? ⟨q2, 4, none⟩ = some (.int .i64 c.v) ∧ w'.cell? ⟨q2, 5, none⟩ = some (.int .i64 c.x) ∧ w'.cell? ⟨q2, 6, none⟩ = some (.int .i64 c.y) ∧ w'.cell? ⟨q2, 7, none⟩ = some (.slice xa2 c.xs.length xc2) ∧ w'.cell? ⟨q2, 8, none⟩ = some (.slice ba2 c.table.length bc2) ∧ w'.cell? ⟨q2, 9, none⟩ = some (.slice ra2 c.rows.length rc2) ∧ CnAt w' c (.slice ta c.terms.length tc) (.slice xa c.xs.length xc) (.slice ba c.table.length bc) (.slice ra c.rows.length rc) ∧ CnAt w' c (.slice ta2 c.terms.length tc2) (.slice xa2 c.xs.length xc2) (.slice ba2 c.table.length bc2) (.slice ra2 c.rows.length rc2) ∧ Below W.heap.size W w')
          (first | exact Sm.next hS0.out (Below.refl _ _).drew | exact Sm.next (by assumption) (by assumption) | assumption)
          (first | (go_at_call 27; refine (sameCon_ref c _ _ _ _ _ _ _ _ _ (Sm.cns (by assumption)).1 (Sm.cns (by assumption)).2.1).mono ?_; rintro e w' ⟨rfl, hb⟩))
        rename_i hHeld
        have hfin : Hid (Below W.heap.size W _) := (Sm.cns hHeld).2.2
        clear hHeld
        go_wp2
        go_roundw
        case rel => exact ⟨1, by go_num, hfin, .inr rfl⟩
        case measure => simp [intOf]
      · go_wp2_with fail
        go_ret
        exact ⟨rfl, HB.out.trans (hG.out.mono HB.out.size)⟩

end Go.Proofs.YtjanpglnahagdaaGreatDoor

namespace Go.Proofs.YtjanpglnahagdaaGreatDoor
open Go.RowKit

/-- The ten cells of a constraint. -/
def CnCells (w : World) (b o : Nat) (c : Md.Cn) (vt vx vb vr : Value) : Prop := w.cell? ⟨b, o, none⟩ = some (.int .i64 c.kind) ∧ w.cell? ⟨b, o + 1, none⟩ = some (.int .i64 c.op) ∧ w.cell? ⟨b, o + 2, none⟩ = some vt ∧ w.cell? ⟨b, o + 3, none⟩ = some (.int .i64 c.k) ∧ w.cell? ⟨b, o + 4, none⟩ = some (.int .i64 c.v) ∧ w.cell? ⟨b, o + 5, none⟩ = some (.int .i64 c.x) ∧ w.cell? ⟨b, o + 6, none⟩ = some (.int .i64 c.y) ∧ w.cell? ⟨b, o + 7, none⟩ = some vx ∧ w.cell? ⟨b, o + 8, none⟩ = some vb ∧ w.cell? ⟨b, o + 9, none⟩ = some vr
theorem CnCells.below {w w' : World} {b o : Nat} {c : Md.Cn} {vt vx vb vr : Value} (h : CnCells w b o c vt vx vb vr) (hb : Below w.heap.size w w') : CnCells w' b o c vt vx vb vr := by
  obtain ⟨h0, h1, h2, h3, h4, h5, h6, h7, h8, h9⟩ := h
  exact ⟨one_next hb h0, one_next hb h1, one_next hb h2, one_next hb h3, one_next hb h4, one_next hb h5, one_next hb h6, one_next hb h7, one_next hb h8, one_next hb h9⟩
/-- A slice of constraints. -/
def ConsAt (w : World) (v : Value) (l : List Md.Cn) : Prop :=
  ∃ a cap, v = .slice a l.length cap ∧ l.length ≤ maxLen ∧ (0 < l.length → ∃ b off, a = some ⟨b, off, none⟩ ∧ b < w.heap.size ∧
    ∀ j (h : j < l.length), ∃ vt vx vb vr, CnAt w l[j] vt vx vb vr ∧ CnCells w b (off + j * 10) l[j] vt vx vb vr)
theorem ConsAt.below {w w' : World} {v : Value} {l : List Md.Cn} (h : ConsAt w v l) (hb : Below w.heap.size w w') : ConsAt w' v l := by
  obtain ⟨a, cap, hv, hl, hc⟩ := h
  refine ⟨a, cap, hv, hl, fun h0 => ?_⟩
  obtain ⟨b, off, ha, hbs, hcell⟩ := hc h0
  refine ⟨b, off, ha, Nat.lt_of_lt_of_le hbs hb.size, fun j hj => ?_⟩
  obtain ⟨vt, vx, vb, vr, h1, h2⟩ := hcell j hj
  exact ⟨vt, vx, vb, vr, h1.below hb, h2.below hb⟩
theorem ConsAt.form {w : World} {v : Value} {l : List Md.Cn} (h : ConsAt w v l) : ∃ a cap, v = .slice a l.length cap ∧ l.length ≤ maxLen := by
  obtain ⟨a, cap, hv, hl, _⟩ := h
  exact ⟨a, cap, hv, hl⟩
/-- A problem's value. -/
def moVal (m : Md.Mo) (vv vc vg : Value) : Value := .agg #[vv, vc, .bool m.has, vg]
/-- Its lists. -/
structure MoAt (w : World) (m : Md.Mo) (vv vc vg : Value) : Prop where
  v : VarsAt w vv m.vars
  vcap : ∀ a n cp, vv = .slice a n cp → n ≤ cp
  c : ConsAt w vc m.cons
  g : TermsAt w vg m.goal
theorem MoAt.below {w w' : World} {m : Md.Mo} {vv vc vg : Value} (h : MoAt w m vv vc vg) (hb : Below w.heap.size w w') : MoAt w' m vv vc vg :=
  ⟨h.v.below hb, h.vcap, h.c.below hb, h.g.below hb⟩
theorem box4 {w : World} {N : Nat} {a0 a1 a2 a3 : Value} {t : TypeId} (h : w.heap[N]? = some (.cells #[a0, a1, a2, a3] t (0, 0))) : (w.cell? ⟨N, 0, none⟩ = some a0 ∧ w.cell? ⟨N, 1, none⟩ = some a1 ∧ w.cell? ⟨N, 2, none⟩ = some a2 ∧ w.cell? ⟨N, 3, none⟩ = some a3) ∧ ∀ j, w.frozen? ⟨N, j, none⟩ = false := by
  refine ⟨⟨?_, ?_, ?_, ?_⟩, fun j => ?_⟩ <;> simp [World.cell?, World.frozen?, h]

theorem gf_a {m : Md.Mo} (h1 : m.has = false) (h2 : 0 < m.goal.length) : Md.goalFault m = 48 := by simp only [Md.goalFault, h1, h2, if_true]
theorem gf_b {m : Md.Mo} (h1 : m.has = false) (h2 : ¬ 0 < m.goal.length) : Md.goalFault m = 0 := by simp only [Md.goalFault, h1, h2, if_true, if_false]
theorem gf_c {m : Md.Mo} (h1 : m.has = true) (h2 : Md.fewB m.goal.length 64 = true) : Md.goalFault m = 47 := by simp [Md.goalFault, h1, h2]
theorem gf_d {m : Md.Mo} (h1 : m.has = true) (h2 : Md.fewB m.goal.length 64 = false) (h3 : (m.goal.all fun t => Md.plB m.vars.length t.2) = false) : Md.goalFault m = 44 := by unfold Md.goalFault; rw [h1, h2, h3]; rfl
theorem gf_e {m : Md.Mo} (h1 : m.has = true) (h2 : Md.fewB m.goal.length 64 = false) (h3 : (m.goal.all fun t => Md.plB m.vars.length t.2) = true) (h4 : Md.coefsB m.goal = false) : Md.goalFault m = 45 := by unfold Md.goalFault; rw [h1, h2, h3, h4]; rfl
theorem gf_f {m : Md.Mo} (h1 : m.has = true) (h2 : Md.fewB m.goal.length 64 = false) (h3 : (m.goal.all fun t => Md.plB m.vars.length t.2) = true) (h4 : Md.coefsB m.goal = true) : Md.goalFault m = 0 := by unfold Md.goalFault; rw [h1, h2, h3, h4]; rfl

set_option maxRecDepth 10000 in
set_option maxHeartbeats 1000000 in
theorem goalFault_any (m : Md.Mo) (vv vc vg : Value) (w : World) (h : MoAt w m vv vc vg) : Calls Tryz.prog 54 #[moVal m vv vc vg] w fun e w' => e = .returned (.int .i64 (Md.goalFault m)) ∧ Below w.heap.size w w' := by
  obtain ⟨W, hW⟩ : ∃ W, w.alloc (.cells #[vv, vc, .bool m.has, vg] 26) = W := ⟨_, rfl⟩
  have hbW : Below w.heap.size w W := by rw [← hW]; exact (Below.refl _ _).alloc (Nat.le_refl _) _
  have hN : W.heap[w.heap.size]? = some (.cells #[vv, vc, .bool m.has, vg] 26) := by rw [← hW]; exact heap_alloc_new w _
  have HB : Hid (Below w.heap.size w W) := hbW
  have HG : Hid (∀ w', Below W.heap.size W w' → TermsAt w' vg m.goal) := fun w' hb => (h.g.below hbW).below hb
  have HN : Hid (∀ w', Below W.heap.size W w' → w'.heap[w.heap.size]? = some (.cells #[vv, vc, .bool m.has, vg] 26)) := fun w' hb => (hb.block _ (Array.getElem?_eq_some_iff.1 hN).1).trans hN
  obtain ⟨va, vp, rfl, hvm⟩ := h.v.form
  obtain ⟨ca, cp, rfl, hcm⟩ := h.c.form
  obtain ⟨ga, gp, rfl, hgm⟩ := h.g.form
  unfold maxLen at hvm hcm hgm
  obtain ⟨⟨p0, p1, p2, p3⟩, _⟩ := box4 hN
  unfold moVal
  clear h hbW hN
  cases hh : m.has
  · rw [hh] at p2 hW HN
    by_cases hg : 0 < m.goal.length
    · have hres : Hid (Md.goalFault m = 48) := gf_a hh hg
      have hgI : (0 : Int) < (m.goal.length : Int) := by omega
      clear hh
      go_enter Tryz.func54, Tryz.ntmps54
      go_wp2
      go_ret
      exact ⟨ret_int hres.out.symm, HB.out⟩
    · have hres : Hid (Md.goalFault m = 0) := gf_b hh hg
      have hgI : ¬ (0 : Int) < (m.goal.length : Int) := by omega
      clear hh
      go_enter Tryz.func54, Tryz.ntmps54
      go_wp2
      go_ret
      exact ⟨ret_int hres.out.symm, HB.out⟩
  rw [hh] at p2 hW HN
  have HH : Hid (m.has = true) := hh
  clear hh
  cases hf : Md.fewB m.goal.length 64
  rotate_left
  · have hres : Hid (Md.goalFault m = 47) := gf_c HH.out hf
    go_enter Tryz.func54, Tryz.ntmps54
    go_wp2_with (go_at_call 83; refine (isMany_any m.goal.length 64 _).mono ?_; rintro e w' ⟨rfl, hww⟩; rw [hww]; clear hww)
    go_ret
    exact ⟨ret_int hres.out.symm, HB.out⟩
  go_enter Tryz.func54, Tryz.ntmps54
  go_wp2_with (first | (go_at_call 83; refine (isMany_any m.goal.length 64 _).mono ?_; rintro e w' ⟨rfl, hww⟩; rw [hww]; clear hww) | fail)
  have HF : Hid (Md.fewB m.goal.length 64 = false) := hf
  clear hf
  refine calls_at (areTermPlaces_any _ m.goal (m.vars.length : Int) _ (HG.out W (Below.refl _ _))) (by with_reducible rfl) (by with_reducible rfl) ?_
  rintro e w1 ⟨rfl, hb1⟩
  have HB1 : Hid (Below W.heap.size W w1) := hb1
  clear hb1 p0 p1 p2 p3
  obtain ⟨⟨p0, p1, p2, p3⟩, _⟩ := box4 (HN.out _ HB1.out)
  cases hp : (m.goal.all fun t => Md.plB m.vars.length t.2)
  · have hres : Hid (Md.goalFault m = 44) := gf_d HH.out HF.out hp
    go_wp2_with fail
    go_ret
    exact ⟨ret_int hres.out.symm, HB.out.trans (HB1.out.mono HB.out.size)⟩
  have HP : Hid ((m.goal.all fun t => Md.plB m.vars.length t.2) = true) := hp
  clear hp
  go_wp2_with fail
  refine calls_at (areCoefs_any _ m.goal _ (HG.out _ HB1.out)) (by with_reducible rfl) (by with_reducible rfl) ?_
  rintro e w2 ⟨rfl, hb2⟩
  have HB2 : Hid (Below w.heap.size w w2) := (HB.out.trans (HB1.out.mono HB.out.size)).trans (hb2.mono (HB.out.trans (HB1.out.mono HB.out.size)).size)
  clear hb2
  cases hq : Md.coefsB m.goal
  · have hres : Hid (Md.goalFault m = 45) := gf_e HH.out HF.out HP.out hq
    go_wp2_with fail
    go_ret
    exact ⟨ret_int hres.out.symm, HB2.out⟩
  · have hres : Hid (Md.goalFault m = 0) := gf_f HH.out HF.out HP.out hq
    go_wp2_with fail
    go_ret
    exact ⟨ret_int hres.out.symm, HB2.out⟩
end Go.Proofs.YtjanpglnahagdaaGreatDoor
