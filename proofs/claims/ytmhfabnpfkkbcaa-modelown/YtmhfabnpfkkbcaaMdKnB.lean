/-
  The chapter's examples, second part.
-/
import Derived.Test.YtmhfabnpfkkbcaaMdKnA
import Derived.Laws.Rows
namespace Go.Proofs.Ytmhfabnpfkkbcaa
open Go.RowKit

theorem known_layB {w W : World} (hW : ((((((w.alloc (.cells #[.int .i64 0, .int .i64 1] 3)).alloc (.cells #[.int .i64 0, .int .i64 1] 3)).alloc (.cells #[.int .i64 3, .int .i64 (-1)] 3)).alloc (.cells #[.slice (some ⟨w.heap.size + 1, 0, none⟩) 2 2, .slice (some ⟨w.heap.size + 1 + 1, 0, none⟩) 2 2] 27)).alloc (.cells #[.int .i64 8, .int .i64 0, .slice none 0 0, .int .i64 0, .int .i64 0, .int .i64 0, .int .i64 0, .slice (some ⟨w.heap.size, 0, none⟩) 2 2, .slice none 0 0, .slice (some ⟨w.heap.size + 1 + 1 + 1, 0, none⟩) 2 2] 40)).alloc (.cells #[.int .i64 0, .int .i64 1, .int .i64 1] 3)).alloc (.cells #[.int .i64 9, .int .i64 2, .slice none 0 0, .int .i64 2, .int .i64 2, .int .i64 0, .int .i64 0, .slice (some ⟨w.heap.size + 1 + 1 + 1 + 1 + 1, 0, none⟩) 3 3, .slice none 0 0, .slice none 0 0] 40) = W) : Below w.heap.size w W ∧ (W.heap[w.heap.size + 1 + 1 + 1 + 1]? = some (.cells #[.int .i64 8, .int .i64 0, .slice none 0 0, .int .i64 0, .int .i64 0, .int .i64 0, .int .i64 0, .slice (some ⟨w.heap.size, 0, none⟩) 2 2, .slice none 0 0, .slice (some ⟨w.heap.size + 1 + 1 + 1, 0, none⟩) 2 2] 40) ∧ W.heap[w.heap.size + 1 + 1 + 1 + 1 + 1 + 1]? = some (.cells #[.int .i64 9, .int .i64 2, .slice none 0 0, .int .i64 2, .int .i64 2, .int .i64 0, .int .i64 0, .slice (some ⟨w.heap.size + 1 + 1 + 1 + 1 + 1, 0, none⟩) 3 3, .slice none 0 0, .slice none 0 0] 40)) ∧ CnAt W kRows (.slice none 0 0) (.slice (some ⟨w.heap.size, 0, none⟩) 2 2) (.slice none 0 0) (.slice (some ⟨w.heap.size + 1 + 1 + 1, 0, none⟩) 2 2) ∧ CnAt W kTimes (.slice none 0 0) (.slice (some ⟨w.heap.size + 1 + 1 + 1 + 1 + 1, 0, none⟩) 3 3) (.slice none 0 0) (.slice none 0 0) := by
  subst hW
  refine ⟨?_, ⟨?_, ?_⟩, ?_⟩
  · refine Below.alloc (Below.alloc (Below.alloc (Below.alloc (Below.alloc (Below.alloc (Below.alloc (Below.refl _ _) ?_ _) ?_ _) ?_ _) ?_ _) ?_ _) ?_ _) ?_ _ <;> simp <;> omega
  · repeat first | (refine heap_top ?_; simp; done) | (refine heap_back ?_)
  · repeat first | (refine heap_top ?_; simp; done) | (refine heap_back ?_)
  · refine ⟨⟨terms0 _, ints2 (t := 3) ?_, ?_, ints0 _, rows2 (t := 27) ?_ (ints2 (N := w.heap.size + 1) (t := 3) ?_) (ints2 (N := w.heap.size + 1 + 1) (t := 3) ?_)⟩, ⟨terms0 _, ints3 (t := 3) ?_, ?_, ints0 _, rows0 _⟩⟩
    all_goals first
      | (intro a n cp h; cases h; exact Nat.le_refl _)
      | (repeat first | (refine heap_top ?_; simp; done) | (refine heap_back ?_))

def kTwo : Md.Mo := ⟨[⟨⟨#[120]⟩, 0, 3⟩, ⟨⟨#[121]⟩, -1, 2⟩], [], true, [(3, 0), (-2, 1)]⟩
def kBad : Md.Mo := ⟨[⟨⟨#[57, 97]⟩, 0, 3⟩, ⟨⟨#[121]⟩, -1, 2⟩], [], true, [(3, 0), (-2, 1)]⟩
theorem km0 : Md.check kTwo = (0, 0) := by kernel_rfl
theorem km1 : Md.product kTwo 16 = (16, true) := by kernel_rfl
theorem km2 : Md.product kTwo 15 = (0, false) := by kernel_rfl
theorem km3 : Md.floor kTwo = -4 := by kernel_rfl
theorem km4 : Md.ceil kTwo = 11 := by kernel_rfl
theorem km5 : Md.worth kTwo [1, 2] = -1 := by kernel_rfl
theorem km6 : Md.solution kTwo [1, 2] = true := by kernel_rfl
theorem km7 : (Md.check kBad) = (0, 41) := by kernel_rfl

theorem vars2 {w : World} {N : Nat} {n1 n2 : ByteArray} {a b c d : Int} {t : TypeId} (h : w.heap[N]? = some (.cells #[.string n1, .int .i64 a, .int .i64 b, .string n2, .int .i64 c, .int .i64 d] t (0, 0))) (h1 : n1.size ≤ maxLen) (h2 : n2.size ≤ maxLen) : VarsAt w (.slice (some ⟨N, 0, none⟩) 2 2) [⟨n1, a, b⟩, ⟨n2, c, d⟩] := by
  refine ⟨_, 2, rfl, by simp [maxLen], fun x hx => ?_, fun _ => ⟨N, 0, rfl, (Array.getElem?_eq_some_iff.1 h).1, fun j hj => ?_⟩⟩
  · simp at hx
    rcases hx with rfl | rfl
    · exact h1
    · exact h2
  · have hj : j < 2 := hj
    match j, hj with
    | 0, _ => simp [World.cell?, h]
    | 1, _ => simp [World.cell?, h]

set_option maxRecDepth 10000 in
set_option maxHeartbeats 400000 in
theorem two_any (w : World) : Calls Try.prog 23 #[] w fun e w' => e = .returned (.agg #[.slice (some ⟨w.heap.size + 1, 0, none⟩) 2 2, .slice none 0 0, .bool true, .slice (some ⟨w.heap.size + 1 + 1, 0, none⟩) 2 2]) ∧ w' = ((w.alloc (.cells #[.slice (some ⟨w.heap.size + 1, 0, none⟩) 2 2, .slice none 0 0, .bool true, .slice (some ⟨w.heap.size + 1 + 1, 0, none⟩) 2 2] 26)).alloc (.cells #[.string ⟨#[120]⟩, .int .i64 0, .int .i64 3, .string ⟨#[121]⟩, .int .i64 (-1), .int .i64 2] 37)).alloc (.cells #[.int .i64 3, .int .i64 0, .int .i64 (-2), .int .i64 1] 35) := by
  go_enter Try.func23, Try.ntmps23
  go_wp2
  exact bodyPost_ret (v := .agg #[.slice (some ⟨w.heap.size + 1, 0, none⟩) 2 2, .slice none 0 0, .bool true, .slice (some ⟨w.heap.size + 1 + 1, 0, none⟩) 2 2]) (results_cell_row (p := 0) (ty := 26) rfl _ _ w.heap.size 26 #[.slice (some ⟨w.heap.size + 1, 0, none⟩) 2 2, .slice none 0 0, .bool true, .slice (some ⟨w.heap.size + 1 + 1, 0, none⟩) 2 2] (0, 0) _ rfl (heap_back (heap_back (heap_alloc_new w _))) (show Try.prog.underlying 26 = some (.struct #[⟨"Vars", 22, 0, false, "", "", 0⟩, ⟨"Cons", 23, 1, false, "", "", 24⟩, ⟨"HasGoal", 4, 2, false, "", "", 48⟩, ⟨"Goal", 24, 3, false, "", "", 56⟩]) by kernel_rfl) rfl (by kernel_rfl)) rfl ⟨rfl, rfl⟩

theorem known_layC {w W : World} (hW : (((w.alloc (.cells #[.slice (some ⟨w.heap.size + 1, 0, none⟩) 2 2, .slice none 0 0, .bool true, .slice (some ⟨w.heap.size + 1 + 1, 0, none⟩) 2 2] 26)).alloc (.cells #[.string ⟨#[120]⟩, .int .i64 0, .int .i64 3, .string ⟨#[121]⟩, .int .i64 (-1), .int .i64 2] 37)).alloc (.cells #[.int .i64 3, .int .i64 0, .int .i64 (-2), .int .i64 1] 35)).alloc (.cells #[.slice (some ⟨w.heap.size + 1, 0, none⟩) 2 2, .slice none 0 0, .bool true, .slice (some ⟨w.heap.size + 1 + 1, 0, none⟩) 2 2] 26) = W) : Below w.heap.size w W ∧ (W.heap[w.heap.size + 1]? = some (.cells #[.string ⟨#[120]⟩, .int .i64 0, .int .i64 3, .string ⟨#[121]⟩, .int .i64 (-1), .int .i64 2] 37) ∧ W.heap[w.heap.size + 1 + 1]? = some (.cells #[.int .i64 3, .int .i64 0, .int .i64 (-2), .int .i64 1] 35) ∧ W.heap[w.heap.size + 1 + 1 + 1]? = some (.cells #[.slice (some ⟨w.heap.size + 1, 0, none⟩) 2 2, .slice none 0 0, .bool true, .slice (some ⟨w.heap.size + 1 + 1, 0, none⟩) 2 2] 26)) ∧ MoAt W kTwo (.slice (some ⟨w.heap.size + 1, 0, none⟩) 2 2) (.slice none 0 0) (.slice (some ⟨w.heap.size + 1 + 1, 0, none⟩) 2 2) := by
  subst hW
  refine ⟨?_, ⟨?_, ?_, ?_⟩, ⟨vars2 (t := 37) ?_ (by decide) (by decide), ?_, cons0 _, terms2 (t := 35) ?_⟩⟩
  · refine Below.alloc (Below.alloc (Below.alloc (Below.alloc (Below.refl _ _) ?_ _) ?_ _) ?_ _) ?_ _ <;> simp <;> omega
  all_goals first
    | (intro a n cp h; cases h; exact Nat.le_refl _)
    | (repeat first | (refine heap_top ?_; simp; done) | (refine heap_back ?_))

theorem check_at {m : Md.Mo} {vv vc vg V : Value} {W w' : World} (a b : Int) (hr : Md.check m = (a, b)) (hM : MoAt W m vv vc vg) (hV : moVal m vv vc vg = V) (hb : Below W.heap.size W w') :
    Calls Try.prog 24 #[V] w' fun e w'' => e = .returned (.tuple #[.int .i64 a, .int .i64 b]) ∧ Below W.heap.size W w'' := by
  subst hV
  refine (check_any m vv vc vg w' (hM.below hb)).mono ?_
  rintro e w2 ⟨rfl, h2⟩
  exact ⟨by rw [hr], hb.trans (h2.mono hb.size)⟩
theorem product_at {m : Md.Mo} {vv vc vg V : Value} {W w' : World} (most a : Int) (b : Bool) (h0 : -9223372036854775808 ≤ most) (h1 : most ≤ 9223372036854775807) (hr : Md.product m most = (a, b)) (hM : MoAt W m vv vc vg) (hV : moVal m vv vc vg = V) (hb : Below W.heap.size W w') :
    Calls Try.prog 25 #[V, .int .i64 most] w' fun e w'' => e = .returned (.tuple #[.int .i64 a, .bool b]) ∧ Below W.heap.size W w'' := by
  subst hV
  refine (product_any m vv vc vg most w' (hM.below hb) h0 h1).mono ?_
  rintro e w2 ⟨rfl, h2⟩
  exact ⟨by rw [hr], hb.trans (h2.mono hb.size)⟩
theorem floor_at {m : Md.Mo} {vv vc vg V : Value} {W w' : World} (a : Int) (hr : Md.floor m = a) (hM : MoAt W m vv vc vg) (hV : moVal m vv vc vg = V) (hb : Below W.heap.size W w') :
    Calls Try.prog 11 #[V] w' fun e w'' => e = .returned (.int .i64 a) ∧ Below W.heap.size W w'' := by
  subst hV
  refine (floor_any m vv vc vg w' (hM.below hb)).mono ?_
  rintro e w2 ⟨rfl, h2⟩
  exact ⟨by rw [hr], hb.trans (h2.mono hb.size)⟩
theorem ceil_at {m : Md.Mo} {vv vc vg V : Value} {W w' : World} (a : Int) (hr : Md.ceil m = a) (hM : MoAt W m vv vc vg) (hV : moVal m vv vc vg = V) (hb : Below W.heap.size W w') :
    Calls Try.prog 12 #[V] w' fun e w'' => e = .returned (.int .i64 a) ∧ Below W.heap.size W w'' := by
  subst hV
  refine (ceil_any m vv vc vg w' (hM.below hb)).mono ?_
  rintro e w2 ⟨rfl, h2⟩
  exact ⟨by rw [hr], hb.trans (h2.mono hb.size)⟩
theorem worth_at {m : Md.Mo} {vv vc vg V : Value} {W w' : World} (a b r : Int) (hr : Md.worth m [a, b] = r) (hM : MoAt W m vv vc vg) (hV : moVal m vv vc vg = V) (hb : Below W.heap.size W w') :
    Calls Try.prog 9 #[V, .slice (some ⟨w'.heap.size, 0, none⟩) 2 2] (w'.alloc (.cells #[.int .i64 a, .int .i64 b] 3)) fun e w'' => e = .returned (.int .i64 r) ∧ Below W.heap.size W w'' := by
  subst hV
  have h1 : Below w'.heap.size w' (w'.alloc (.cells #[.int .i64 a, .int .i64 b] 3)) := (Below.refl _ _).alloc (Nat.le_refl _) _
  have h3 := hb.trans (h1.mono hb.size)
  refine (worth_any m vv vc vg _ [a, b] _ (hM.below h3) (ints2 (heap_alloc_new w' _))).mono ?_
  rintro e w2 ⟨rfl, h2⟩
  exact ⟨by rw [hr], h3.trans (h2.mono h3.size)⟩
theorem solution_at {m : Md.Mo} {vv vc vg V : Value} {W w' : World} (a b : Int) (r : Bool) (hr : Md.solution m [a, b] = r) (hM : MoAt W m vv vc vg) (hV : moVal m vv vc vg = V) (hb : Below W.heap.size W w') :
    Calls Try.prog 18 #[V, .slice (some ⟨w'.heap.size, 0, none⟩) 2 2] (w'.alloc (.cells #[.int .i64 a, .int .i64 b] 3)) fun e w'' => e = .returned (.bool r) ∧ Below W.heap.size W w'' := by
  subst hV
  have h1 : Below w'.heap.size w' (w'.alloc (.cells #[.int .i64 a, .int .i64 b] 3)) := (Below.refl _ _).alloc (Nat.le_refl _) _
  have h3 := hb.trans (h1.mono hb.size)
  refine (solution_any m vv vc vg _ [a, b] _ (hM.below h3) (ints2 (heap_alloc_new w' _))).mono ?_
  rintro e w2 ⟨rfl, h2⟩
  exact ⟨by rw [hr], h3.trans (h2.mono h3.size)⟩
theorem known_bad {w Z : World} {b1 b2 b3 : Nat} {cs : Array Value} (hZ : w.setCell ⟨b1, 0, none⟩ (.string ⟨#[57, 97]⟩) = Z) (h1 : w.heap[b1]? = some (.cells #[.string ⟨#[120]⟩, .int .i64 0, .int .i64 3, .string ⟨#[121]⟩, .int .i64 (-1), .int .i64 2] 37)) (h2 : w.heap[b2]? = some (.cells #[.int .i64 3, .int .i64 0, .int .i64 (-2), .int .i64 1] 35)) (h3 : w.heap[b3]? = some (.cells cs 26)) (n2 : b2 ≠ b1) (n3 : b3 ≠ b1) :
    (w.cell? ⟨b1, 0, none⟩ = some (.string ⟨#[120]⟩) ∧ w.frozen? ⟨b1, 0, none⟩ = false) ∧ Z.heap[b3]? = some (.cells cs 26) ∧ MoAt Z kBad (.slice (some ⟨b1, 0, none⟩) 2 2) (.slice none 0 0) (.slice (some ⟨b2, 0, none⟩) 2 2) := by
  subst hZ
  refine ⟨⟨by simp [World.cell?, h1], by simp [World.frozen?, h1]⟩, (heap_setCell_other w _ b3 _ n3).trans h3, ⟨vars2 (t := 37) ((heap_setCell_same w b1 0 _ 37 _ h1).trans rfl) (by decide) (by decide), ?_, cons0 _, terms2 (t := 35) ((heap_setCell_other w _ b2 _ n2).trans h2)⟩⟩
  intro a n cp h
  cases h
  exact Nat.le_refl _
end Go.Proofs.Ytmhfabnpfkkbcaa
