/-
  few, of one constraint and values.
-/
import Derived.Test.YtmhfabnpfkkbcaaMdCountC
namespace Go.Proofs.Ytmhfabnpfkkbcaa
open Go.RowKit

set_option maxHeartbeats 400000 in
theorem manyCount_any (n : Int) (w : World) : Calls Try.prog 19 #[.int .i64 n] w fun e w' => e = .returned (.pointer (some ⟨w.heap.size, 0, none⟩)) ∧ w' = w.alloc (.cells #[.int .i64 n] 71) := by
  go_enter Try.func19, Try.ntmps19
  go_wp2
  go_ret
  exact ⟨rfl, rfl⟩

theorem below_grownBy {w W w' : World} {P : Nat} (hW : Below w.heap.size w W) (hg : W.grownBy w' (some P)) (hP : w.heap.size ≤ P) : Below w.heap.size w w' :=
  ⟨hg.os.trans hW.os, hg.tape.trans hW.tape, hg.output.trans hW.output, Nat.le_trans hW.size hg.size, fun k hk => (hg.block k (Nat.lt_of_lt_of_le hk hW.size) (fun e => by injection e with e; omega)).trans (hW.block k hk)⟩

/-- What few answers. -/
structure Few (cost : Nat) (w : World) (e : Ending) (w' : World) : Prop where
  out : ∃ b, e = .returned (.bool b) ∧ (b = true → cost ≤ 20000)
  rest : Below w.heap.size w w'

set_option maxRecDepth 10000 in
set_option maxHeartbeats 1000000 in
theorem few1_any (q : Nat) (c : Md.Cn) (vt vx vb vr : Value) (va : Option Addr) (n vc : Nat) (w : World) (hn : n ≤ maxLen) (hC : CnAt w c vt vx vb vr) (hqc : w.heap[q]? = some (.cells #[.int .i64 c.kind, .int .i64 c.op, vt, .int .i64 c.k, .int .i64 c.v, .int .i64 c.x, .int .i64 c.y, vx, vb, vr] 40)) :
    Calls Try.prog 6 #[.agg #[.slice none 0 0, .slice (some ⟨q, 0, none⟩) 1 1, .bool false, .slice none 0 0], .slice va n vc] w (Few (costC c + n) w) := by
  have hql : q < w.heap.size := (Array.getElem?_eq_some_iff.1 hqc).1
  obtain ⟨W, hW⟩ : ∃ W, w.alloc (.cells #[.slice none 0 0, .slice (some ⟨q, 0, none⟩) 1 1, .bool false, .slice none 0 0] 26) = W := ⟨_, rfl⟩
  have hbW : Below w.heap.size w W := by rw [← hW]; exact (Below.refl _ _).alloc (Nat.le_refl _) _
  have hN : W.heap[w.heap.size]? = some (.cells #[.slice none 0 0, .slice (some ⟨q, 0, none⟩) 1 1, .bool false, .slice none 0 0] 26) := by rw [← hW]; exact heap_alloc_new w _
  obtain ⟨W1, hW1⟩ : ∃ W1, W.alloc (.cells #[.int .i64 20000] 71) = W1 := ⟨_, rfl⟩
  have hbW1 : Below W.heap.size W W1 := by rw [← hW1]; exact (Below.refl _ _).alloc (Nat.le_refl _) _
  have hNl : w.heap.size < W.heap.size := (Array.getElem?_eq_some_iff.1 hN).1
  have hN1 := (hbW1.block _ hNl).trans hN
  have hcnt : CountAt W1 W.heap.size 20000 := by rw [← hW1]; exact heap_alloc_new W _
  have hb1 : Below w.heap.size w W1 := hbW.trans (hbW1.mono hbW.size)
  have HM : Hid (Calls Try.prog 19 #[.int .i64 20000] W fun e w' => e = .returned (.pointer (some ⟨W.heap.size, 0, none⟩)) ∧ w' = W1) := by
    have := manyCount_any 20000 W
    rw [hW1] at this; exact this
  have H27 : Hid (Calls Try.prog 20 #[.pointer (some ⟨W.heap.size, 0, none⟩), .agg #[.slice none 0 0, .slice (some ⟨q, 0, none⟩) 1 1, .bool false, .slice none 0 0]] W1 fun e w' => e = .returned (.tuple #[]) ∧ Took W.heap.size 20000 (costC c) W1 w') :=
    model_count1 W.heap.size q 20000 c vt vx vb vr W1 hcnt (by decide) (by decide) (fun w' hg => hC.below (below_grownBy hb1 hg (by omega))) (by omega) ((hb1.block q hql).trans hqc)
  have c0 : W1.cell? ⟨w.heap.size, 0, none⟩ = some (.slice none 0 0) := by simp [World.cell?, hN1]
  have c1 : W1.cell? ⟨w.heap.size, 1, none⟩ = some (.slice (some ⟨q, 0, none⟩) 1 1) := by simp [World.cell?, hN1]
  have c2 : W1.cell? ⟨w.heap.size, 2, none⟩ = some (.bool false) := by simp [World.cell?, hN1]
  have c3 : W1.cell? ⟨w.heap.size, 3, none⟩ = some (.slice none 0 0) := by simp [World.cell?, hN1]
  have HB1 : Hid (Below w.heap.size w W1) := hb1
  have HP : Hid (w.heap.size ≤ W.heap.size) := hbW.size
  have Hn : Hid (n ≤ maxLen) := hn
  clear hC hqc hbW hN hbW1 hN1 hcnt hb1 hW1 hn
  go_enter Try.func6, Try.ntmps6
  go_wp2_with (first
    | (go_at_call 19; refine calls_at HM.out (by with_reducible rfl) (by with_reducible rfl) ?_; rintro e w' ⟨rfl, hww⟩; rw [hww]; clear hww)
    | (go_at_call 20; refine calls_at H27.out (by with_reducible rfl) (by with_reducible rfl) ?_; rintro e w2 ⟨rfl, ⟨⟨l2, hC2, h21, h22, hT2⟩, hG2⟩⟩;
       have HC2 : Hid (CountAt w2 W.heap.size l2) := hC2; have HT2 : Hid (0 ≤ l2 → l2 + (costC c : Int) ≤ 20000) := hT2; have HG2 : Hid (W1.grownBy w2 (some W.heap.size)) := hG2; clear hC2 hT2 hG2)
    | (go_at_call 21; refine calls_at (add_any W.heap.size l2 n _ HC2.out h21 h22 Hn.out) (by with_reducible rfl) (by with_reducible rfl) ?_; rintro e w3 ⟨⟨b3, rfl⟩, ⟨⟨l3, hC3, h31, h32, hT3⟩, hG3⟩⟩;
       have HC3 : Hid (CountAt w3 W.heap.size l3) := hC3; have HT3 : Hid (0 ≤ l3 → l3 + (n : Int) ≤ l2) := hT3; have HG3 : Hid (W1.grownBy w3 (some W.heap.size)) := grownBy_trans HG2.out hG3; clear hC3 hT3 hG3)
    | (go_at_call 22; refine calls_at (ok_any W.heap.size l3 _ HC3.out) (by with_reducible rfl) (by with_reducible rfl) ?_; rintro e w' ⟨rfl, hww⟩; rw [hww]; clear hww))
  go_ret
  refine ⟨⟨_, rfl, fun h => ?_⟩, below_grownBy HB1.out HG3.out HP.out⟩
  have h3 : 0 ≤ l3 := by simpa using h
  have a3 := HT3.out h3
  have a2 := HT2.out (by omega)
  omega
end Go.Proofs.Ytmhfabnpfkkbcaa
