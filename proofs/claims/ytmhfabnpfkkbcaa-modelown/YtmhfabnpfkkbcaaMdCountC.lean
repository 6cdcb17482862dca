/-
  A count of a constraint's parts.
-/
import Derived.Test.YtmhfabnpfkkbcaaMdCount
namespace Go.Proofs.Ytmhfabnpfkkbcaa
open Go.RowKit

/-- How many parts a constraint has. -/
def costC (c : Md.Cn) : Nat := 1 + c.terms.length + c.xs.length + c.table.length + costL c.rows

set_option maxRecDepth 10000 in
set_option maxHeartbeats 1000000 in
theorem con_count (P : Nat) (left : Int) (c : Md.Cn) (vt vx vb vr : Value) (w : World) (h : CountAt w P left) (hl : left ≤ 20000) (hl2 : -9223372036854775807 ≤ left) (hC : ∀ w', w.grownBy w' (some P) → CnAt w' c vt vx vb vr) :
    Calls Try.prog 45 #[.pointer (some ⟨P, 0, none⟩), cnVal c vt vx vb vr] w fun e w' => e = .returned (.tuple #[]) ∧ Took P left (costC c) w w' := by
  have h0 := hC w (grownBy_refl _ _)
  obtain ⟨ta, tc, rfl, htm⟩ := h0.t.form
  obtain ⟨xa, xc, rfl, hxm⟩ := h0.x.form
  obtain ⟨ba, bc, rfl, hbm⟩ := h0.b.form
  obtain ⟨ra, rc, rfl, hrm⟩ := h0.r.form
  have HC : Hid (∀ w', w.grownBy w' (some P) → CnAt w' c (.slice ta c.terms.length tc) (.slice xa c.xs.length xc) (.slice ba c.table.length bc) (.slice ra c.rows.length rc)) := hC
  have hP := h.lt
  obtain ⟨W, hW⟩ : ∃ W, w.alloc (.cells #[.int .i64 c.kind, .int .i64 c.op, .slice ta c.terms.length tc, .int .i64 c.k, .int .i64 c.v, .int .i64 c.x, .int .i64 c.y, .slice xa c.xs.length xc, .slice ba c.table.length bc, .slice ra c.rows.length rc] 40) = W := ⟨_, rfl⟩
  have hbW : Below w.heap.size w W := by rw [← hW]; exact (Below.refl _ _).alloc (Nat.le_refl _) _
  have hN : W.heap[w.heap.size]? = some (.cells #[.int .i64 c.kind, .int .i64 c.op, .slice ta c.terms.length tc, .int .i64 c.k, .int .i64 c.v, .int .i64 c.x, .int .i64 c.y, .slice xa c.xs.length xc, .slice ba c.table.length bc, .slice ra c.rows.length rc] 40) := by rw [← hW]; exact heap_alloc_new w _
  have hNl : w.heap.size < W.heap.size := (Array.getElem?_eq_some_iff.1 hN).1
  have HN : Hid (∀ w', W.grownBy w' (some P) → w'.heap[w.heap.size]? = some (.cells #[.int .i64 c.kind, .int .i64 c.op, .slice ta c.terms.length tc, .int .i64 c.k, .int .i64 c.v, .int .i64 c.x, .int .i64 c.y, .slice xa c.xs.length xc, .slice ba c.table.length bc, .slice ra c.rows.length rc] 40)) := fun w' hg => (hg.block _ hNl (fun e => by injection e with e; omega)).trans hN
  have HG0 : Hid (w.grownBy W (some P)) := grownBy_below hbW
  have HC0 : Hid (CountAt W P left) := h.below hbW
  obtain ⟨⟨p0, p1, p2, p3, p4, p5, p6, p7, p8, p9⟩, _⟩ := box10 hN
  clear h0 hC h hbW hN
  unfold cnVal
  go_enter Try.func45, Try.ntmps45
  go_wp2_with (first
    | (go_at_call 21; refine calls_at (add_one P left _ HC0.out hl hl2) (by with_reducible rfl) (by with_reducible rfl) ?_; rintro e w1 ⟨⟨b1, rfl⟩, ⟨⟨l1, hC1, h11, h12, hT1⟩, hG1⟩⟩;
       have HC1 : Hid (CountAt w1 P l1) := hC1; have HT1 : Hid (0 ≤ l1 → l1 + 1 ≤ left) := hT1; have HG1 : Hid (W.grownBy w1 (some P)) := hG1;
       clear hC1 hT1 hG1 p0 p1 p2 p3 p4 p5 p6 p7 p8 p9;
       obtain ⟨⟨p0, p1, p2, p3, p4, p5, p6, p7, p8, p9⟩, _⟩ := box10 (HN.out _ HG1.out))
    | (go_at_call 21; refine calls_at (add_any P l1 c.terms.length _ HC1.out h11 h12 htm) (by with_reducible rfl) (by with_reducible rfl) ?_; rintro e w2 ⟨⟨b2, rfl⟩, ⟨⟨l2, hC1, h21, h22, hT1⟩, hG1⟩⟩;
       have HC2 : Hid (CountAt w2 P l2) := hC1; have HT2 : Hid (0 ≤ l2 → l2 + (c.terms.length : Int) ≤ l1) := hT1; have HG2 : Hid (W.grownBy w2 (some P)) := grownBy_trans HG1.out hG1;
       clear hC1 hT1 hG1 p0 p1 p2 p3 p4 p5 p6 p7 p8 p9 HC1;
       obtain ⟨⟨p0, p1, p2, p3, p4, p5, p6, p7, p8, p9⟩, _⟩ := box10 (HN.out _ HG2.out))
    | (go_at_call 21; refine calls_at (add_any P l2 c.xs.length _ HC2.out h21 h22 hxm) (by with_reducible rfl) (by with_reducible rfl) ?_; rintro e w3 ⟨⟨b3, rfl⟩, ⟨⟨l3, hC1, h31, h32, hT1⟩, hG1⟩⟩;
       have HC3 : Hid (CountAt w3 P l3) := hC1; have HT3 : Hid (0 ≤ l3 → l3 + (c.xs.length : Int) ≤ l2) := hT1; have HG3 : Hid (W.grownBy w3 (some P)) := grownBy_trans HG2.out hG1;
       clear hC1 hT1 hG1 p0 p1 p2 p3 p4 p5 p6 p7 p8 p9 HC2;
       obtain ⟨⟨p0, p1, p2, p3, p4, p5, p6, p7, p8, p9⟩, _⟩ := box10 (HN.out _ HG3.out))
    | (go_at_call 21; refine calls_at (add_any P l3 c.table.length _ HC3.out h31 h32 hbm) (by with_reducible rfl) (by with_reducible rfl) ?_; rintro e w4 ⟨⟨b4, rfl⟩, ⟨⟨l4, hC1, h41, h42, hT1⟩, hG1⟩⟩;
       have HC4 : Hid (CountAt w4 P l4) := hC1; have HT4 : Hid (0 ≤ l4 → l4 + (c.table.length : Int) ≤ l3) := hT1; have HG4 : Hid (W.grownBy w4 (some P)) := grownBy_trans HG3.out hG1;
       clear hC1 hT1 hG1 p0 p1 p2 p3 p4 p5 p6 p7 p8 p9 HC3;
       obtain ⟨⟨p0, p1, p2, p3, p4, p5, p6, p7, p8, p9⟩, _⟩ := box10 (HN.out _ HG4.out))
    | (go_at_call 57; refine calls_at (lists_count P l4 _ c.rows _ HC4.out h41 h42 (fun w' hg => (HC.out w' (grownBy_trans HG0.out (grownBy_trans HG4.out hg))).r)) (by with_reducible rfl) (by with_reducible rfl) ?_; rintro e w5 ⟨rfl, ⟨⟨l5, hC1, h51, h52, hT1⟩, hG1⟩⟩;
       have HC5 : Hid (CountAt w5 P l5) := hC1; have HT5 : Hid (0 ≤ l5 → l5 + (costL c.rows : Int) ≤ l4) := hT1; have HG5 : Hid (W.grownBy w5 (some P)) := grownBy_trans HG4.out hG1;
       clear hC1 hT1 hG1 p0 p1 p2 p3 p4 p5 p6 p7 p8 p9 HC4))
  go_end0
  refine ⟨rfl, ⟨⟨l5, HC5.out, h51, h52, fun h => ?_⟩, grownBy_trans HG0.out HG5.out⟩⟩
  have a5 := HT5.out h
  have a4 := HT4.out (by omega)
  have a3 := HT3.out (by omega)
  have a2 := HT2.out (by omega)
  have a1 := HT1.out (by omega)
  unfold costC
  omega

set_option maxRecDepth 10000 in
set_option maxHeartbeats 1000000 in
theorem model_count1 (P q : Nat) (left : Int) (c : Md.Cn) (vt vx vb vr : Value) (w : World) (h : CountAt w P left) (hl : left ≤ 20000) (hl2 : -9223372036854775807 ≤ left) (hC : ∀ w', w.grownBy w' (some P) → CnAt w' c vt vx vb vr) (hq : q ≠ P) (hqc : w.heap[q]? = some (.cells #[.int .i64 c.kind, .int .i64 c.op, vt, .int .i64 c.k, .int .i64 c.v, .int .i64 c.x, .int .i64 c.y, vx, vb, vr] 40)) :
    Calls Try.prog 20 #[.pointer (some ⟨P, 0, none⟩), .agg #[.slice none 0 0, .slice (some ⟨q, 0, none⟩) 1 1, .bool false, .slice none 0 0]] w fun e w' => e = .returned (.tuple #[]) ∧ Took P left (costC c) w w' := by
  have h0 := hC w (grownBy_refl _ _)
  obtain ⟨ta, tc, rfl, htm⟩ := h0.t.form
  obtain ⟨xa, xc, rfl, hxm⟩ := h0.x.form
  obtain ⟨ba, bc, rfl, hbm⟩ := h0.b.form
  obtain ⟨ra, rc, rfl, hrm⟩ := h0.r.form
  have HC : Hid (∀ w', w.grownBy w' (some P) → CnAt w' c (.slice ta c.terms.length tc) (.slice xa c.xs.length xc) (.slice ba c.table.length bc) (.slice ra c.rows.length rc)) := hC
  have hP := h.lt
  have hql : q < w.heap.size := (Array.getElem?_eq_some_iff.1 hqc).1
  obtain ⟨W, hW⟩ : ∃ W, w.alloc (.cells #[.slice none 0 0, .slice (some ⟨q, 0, none⟩) 1 1, .bool false, .slice none 0 0] 26) = W := ⟨_, rfl⟩
  have hbW : Below w.heap.size w W := by rw [← hW]; exact (Below.refl _ _).alloc (Nat.le_refl _) _
  have hN : W.heap[w.heap.size]? = some (.cells #[.slice none 0 0, .slice (some ⟨q, 0, none⟩) 1 1, .bool false, .slice none 0 0] 26) := by rw [← hW]; exact heap_alloc_new w _
  have hNl : w.heap.size < W.heap.size := (Array.getElem?_eq_some_iff.1 hN).1
  have HN : Hid (∀ w', W.grownBy w' (some P) → w'.cell? ⟨w.heap.size, 0, none⟩ = some (.slice none 0 0) ∧ w'.cell? ⟨w.heap.size, 1, none⟩ = some (.slice (some ⟨q, 0, none⟩) 1 1) ∧ w'.cell? ⟨w.heap.size, 3, none⟩ = some (.slice none 0 0)) := fun w' hg => by
    have := (hg.block _ hNl (fun e => by injection e with e; omega)).trans hN
    simp [World.cell?, this]
  have HQ : Hid (∀ w', W.grownBy w' (some P) → w'.heap[q]? = some (.cells #[.int .i64 c.kind, .int .i64 c.op, .slice ta c.terms.length tc, .int .i64 c.k, .int .i64 c.v, .int .i64 c.x, .int .i64 c.y, .slice xa c.xs.length xc, .slice ba c.table.length bc, .slice ra c.rows.length rc] 40)) := fun w' hg => (hg.block q (Nat.lt_of_lt_of_le hql hbW.size) (fun e => by injection e with e; exact hq e)).trans ((hbW.block q hql).trans hqc)
  have HG0 : Hid (w.grownBy W (some P)) := grownBy_below hbW
  have HC0 : Hid (CountAt W P left) := h.below hbW
  obtain ⟨m0, m1, m3⟩ := HN.out W (grownBy_refl _ _)
  have H78 : Hid (∀ w' l, CountAt w' P l → l ≤ 20000 → -9223372036854775807 ≤ l → w.grownBy w' (some P) → Calls Try.prog 45 #[.pointer (some ⟨P, 0, none⟩), cnVal c (.slice ta c.terms.length tc) (.slice xa c.xs.length xc) (.slice ba c.table.length bc) (.slice ra c.rows.length rc)] w' fun e w'' => e = .returned (.tuple #[]) ∧ Took P l (costC c) w' w'') := fun w' l h1 h2 h3 hg => con_count P l c _ _ _ _ w' h1 h2 h3 (fun w'' hg' => HC.out w'' (grownBy_trans hg hg'))
  unfold cnVal at H78
  clear h0 hC h hbW hN hqc
  go_enter Try.func20, Try.ntmps20
  go_wp2_with fail
  go_loop [4] (fun iv => iv = .int .i64 0) (fun _ => 0)
  case atStart => rfl
  case round =>
    subst hrel
    go_wp2_with fail
    go_loopw [5] (fun iv wr => ∃ (k : Nat) (lf : Int), iv = .int .i64 (k : Int) ∧ k ≤ 1 ∧ Hid (CountAt wr P lf) ∧ lf ≤ 20000 ∧ -9223372036854775807 ≤ lf ∧ Hid (0 ≤ lf → lf + (if k = 0 then 0 else (costC c : Int)) ≤ left) ∧ Hid (W.grownBy wr (some P)) ∧ Hid (k = 1 ∨ k = 0)) (fun iv _ => 1 - (intOf iv).toNat)
    case atStart => exact ⟨0, left, rfl, Nat.zero_le _, HC0, hl, hl2, (fun _ => by simp), grownBy_refl _ _, .inr rfl⟩
    case round =>
      obtain ⟨k, lf, rfl, hk, hCw, h1, h2, hT, hG, hk01⟩ := hrel
      clear m0 m1 m3
      obtain ⟨m0, m1, m3⟩ := HN.out _ hG.out
      rcases hk01.out with rfl | rfl
      · have H28 : Hid (Calls Try.prog 21 #[.pointer (some ⟨P, 0, none⟩), .int .i64 0] _ fun e w' => IsBool e ∧ Took P lf 0 _ w') := add_any P lf 0 _ hCw.out h1 h2 (by decide)
        go_wp2_with (go_at_call 21; refine calls_at H28.out (by with_reducible rfl) (by with_reducible rfl) ?_; rintro e w1 ⟨⟨b1, rfl⟩, ⟨⟨l1, hC1, h11, h12, hT1⟩, hG1⟩⟩)
        go_end0
        exact ⟨rfl, ⟨⟨l1, hC1, h11, h12, fun h => by have a1 := hT1 h; have a2 := hT.out (by omega); simp at a2; omega⟩, grownBy_trans HG0.out (grownBy_trans hG.out hG1)⟩⟩
      · by_cases h0 : 0 ≤ lf
        · have hd : decide (0 ≤ lf) = true := by simpa using h0
          obtain ⟨⟨p0, p1, p2, p3, p4, p5, p6, p7, p8, p9⟩, _⟩ := box10 (HQ.out _ hG.out)
          go_wp2_with (first
            | (go_at_call 22; refine (ok_any P lf _ hCw.out).mono ?_; rintro e w' ⟨rfl, hww⟩; rw [hww])
            | (go_at_call 45; refine calls_at (H78.out _ lf hCw.out h1 h2 (grownBy_trans HG0.out hG.out)) (by with_reducible rfl) (by with_reducible rfl) ?_; rintro e w1 ⟨rfl, ⟨⟨l1, hC1, h11, h12, hT1⟩, hG1⟩⟩))
          go_roundw
          case rel => exact ⟨1, l1, by rfl, by decide, hC1, h11, h12, (fun h => by have a1 := hT1 h; have a2 := hT.out (by omega); simp at a2 ⊢; omega), grownBy_trans hG.out hG1, .inl rfl⟩
          case measure => simp [intOf]
        · have hd : decide (0 ≤ lf) = false := by simpa using h0
          have H28 : Hid (Calls Try.prog 21 #[.pointer (some ⟨P, 0, none⟩), .int .i64 0] _ fun e w' => IsBool e ∧ Took P lf 0 _ w') := add_any P lf 0 _ hCw.out h1 h2 (by decide)
          go_wp2_with (first
            | (go_at_call 22; refine (ok_any P lf _ hCw.out).mono ?_; rintro e w' ⟨rfl, hww⟩; rw [hww])
            | (go_at_call 21; refine calls_at H28.out (by with_reducible rfl) (by with_reducible rfl) ?_; rintro e w1 ⟨⟨b1, rfl⟩, ⟨⟨l1, hC1, h11, h12, hT1⟩, hG1⟩⟩))
          go_end0
          exact ⟨rfl, ⟨⟨l1, hC1, h11, h12, fun h => by have a1 := hT1 h; omega⟩, grownBy_trans HG0.out (grownBy_trans hG.out hG1)⟩⟩
end Go.Proofs.Ytmhfabnpfkkbcaa
