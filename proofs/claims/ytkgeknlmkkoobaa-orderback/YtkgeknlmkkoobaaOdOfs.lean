/-
  Put together: OdOf, OdOfW.
-/
import Derived.Test.YtkgeknlmkkoobaaOdAsk
import Derived.Deep.RegionHeld3
namespace Go.Proofs.Ytkgeknlmkkoobaa
open Go.RowKit

set_option maxHeartbeats 1000000 in
theorem ahead_any (a b n : Int) (w : World) : Calls Try.prog 26 #[.agg #[.int .i64 a, .int .i64 b], .int .i64 n] w fun e w' => e = .returned (.agg #[.bool (decide (n ≤ a)), .bool (decide (n ≤ b))]) ∧ Below w.heap.size w w' := by
  go_enter Try.func26, Try.ntmps26
  go_wp2
  refine bodyPost_ret (by simp [results, Try.results26, go_sem]; try rfl) rfl ?_
  exact ⟨rfl, ((Below.refl _ _).alloc (Nat.le_refl _) _).alloc (by simp) _⟩

theorem box6 {w : World} {N : Nat} {a0 a1 a2 a3 a4 a5 : Value} {t : TypeId} (h : w.heap[N]? = some (.cells #[a0, a1, a2, a3, a4, a5] t (0, 0))) : (w.cell? ⟨N, 0, none⟩ = some a0 ∧ w.cell? ⟨N, 1, none⟩ = some a1 ∧ w.cell? ⟨N, 2, none⟩ = some a2 ∧ w.cell? ⟨N, 3, none⟩ = some a3 ∧ w.cell? ⟨N, 4, none⟩ = some a4 ∧ w.cell? ⟨N, 5, none⟩ = some a5) ∧ ∀ j, w.frozen? ⟨N, j, none⟩ = false := by
  refine ⟨⟨?_, ?_, ?_, ?_, ?_, ?_⟩, fun j => ?_⟩ <;> simp [World.cell?, World.frozen?, h]
theorem set6 {w : World} {N : Nat} {a0 a1 a2 a3 a4 a5 : Value} {t : TypeId} (h : w.heap[N]? = some (.cells #[a0, a1, a2, a3, a4, a5] t (0, 0))) (b0 b1 b2 b3 b4 b5 : Value) : ((((((w.setCell ⟨N, 0, none⟩ b0).setCell ⟨N, 1, none⟩ b1).setCell ⟨N, 2, none⟩ b2).setCell ⟨N, 3, none⟩ b3).setCell ⟨N, 4, none⟩ b4).setCell ⟨N, 5, none⟩ b5).heap[N]? = some (.cells #[b0, b1, b2, b3, b4, b5] t (0, 0)) := by
  have hE := heap_setCell_same _ N 5 _ t b5 (heap_setCell_same _ N 4 _ t b4 (heap_setCell_same _ N 3 _ t b3 (heap_setCell_same _ N 2 _ t b2 (heap_setCell_same _ N 1 _ t b1 (heap_setCell_same w N 0 _ t b0 h)))))
  simpa only [List.setIfInBounds_toArray, List.set_cons_zero, List.set_cons_succ] using hE
theorem below_set6 {B : Nat} {w0 w : World} {N : Nat} (h : Below B w0 w) (hN : B ≤ N) (b0 b1 b2 b3 b4 b5 : Value) : Below B w0 ((((((w.setCell ⟨N, 0, none⟩ b0).setCell ⟨N, 1, none⟩ b1).setCell ⟨N, 2, none⟩ b2).setCell ⟨N, 3, none⟩ b3).setCell ⟨N, 4, none⟩ b4).setCell ⟨N, 5, none⟩ b5) :=
  (((((h.setCell hN _).setCell hN _).setCell hN _).setCell hN _).setCell hN _).setCell hN _
def meanR (st pt : Od.Run) (x n : Int) : Mn := if (st.told n).2 = true then ⟨x, (st.told n).1, false, 0, 0, false⟩ else ⟨x, (pt.told n).1, true, 0, 0, false⟩

set_option maxRecDepth 10000 in
set_option maxHeartbeats 1000000 in
theorem mean_any (st pt : Od.Run) (x n : Int) (w : World) (h1 : st.Fit) (h2 : pt.Fit) : Calls Try.prog 27 #[.agg #[.int .i64 st.a, .int .i64 st.f, .int .i64 st.t, .int .i64 pt.a, .int .i64 pt.f, .int .i64 pt.t], .int .i64 x, .int .i64 n] w fun e w' => e = .returned (mnVal (meanR st pt x n)) ∧ Below w.heap.size w w' := by
  have HA : Hid (∀ w, Calls Try.prog 28 #[runVal st, .int .i64 n] w fun e w' => e = .returned (toldVal (st.told n)) ∧ Below w.heap.size w w') := fun w => told_any st n w h1
  have HP : Hid (∀ w, Calls Try.prog 28 #[runVal pt, .int .i64 n] w fun e w' => e = .returned (toldVal (pt.told n)) ∧ Below w.heap.size w w') := fun w => told_any pt n w h2
  have HM : Hid (meanR st pt x n = if (st.told n).2 = true then ⟨x, (st.told n).1, false, 0, 0, false⟩ else ⟨x, (pt.told n).1, true, 0, 0, false⟩) := rfl
  generalize meanR st pt x n = mm at *
  generalize st.told n = ts at *
  generalize pt.told n = tp at *
  obtain ⟨s1, s2⟩ := ts
  obtain ⟨q1, q2⟩ := tp
  obtain ⟨sa, sf, sst⟩ := st
  obtain ⟨pa, pf, ppt⟩ := pt
  unfold runVal toldVal at HA HP
  simp only at HA HP HM ⊢
  obtain ⟨W, hW⟩ : ∃ W, w.alloc (.cells #[.int .i64 sa, .int .i64 sf, .int .i64 sst, .int .i64 pa, .int .i64 pf, .int .i64 ppt] 77) = W := ⟨_, rfl⟩
  obtain ⟨X, hX⟩ : ∃ X, W.alloc (.cells #[.int .i64 0, .int .i64 0, .bool false, .int .i64 0, .int .i64 0, .bool false] 42) = X := ⟨_, rfl⟩
  have hbW : Below w.heap.size w W := by rw [← hW]; exact (Below.refl _ _).alloc (Nat.le_refl _) _
  have hbX : Below W.heap.size W X := by rw [← hX]; exact (Below.refl _ _).alloc (Nat.le_refl _) _
  have hN : W.heap[w.heap.size]? = some (.cells #[.int .i64 sa, .int .i64 sf, .int .i64 sst, .int .i64 pa, .int .i64 pf, .int .i64 ppt] 77) := by rw [← hW]; exact heap_alloc_new w _
  have hNX : X.heap[W.heap.size]? = some (.cells #[.int .i64 0, .int .i64 0, .bool false, .int .i64 0, .int .i64 0, .bool false] 42) := by rw [← hX]; exact heap_alloc_new W _
  have HN : Hid (∀ w', Below X.heap.size X w' → w'.heap[w.heap.size]? = some (.cells #[.int .i64 sa, .int .i64 sf, .int .i64 sst, .int .i64 pa, .int .i64 pf, .int .i64 ppt] 77)) := fun w' hb => (hb.block _ (Nat.lt_of_lt_of_le (Array.getElem?_eq_some_iff.1 hN).1 hbX.size)).trans ((hbX.block _ (Array.getElem?_eq_some_iff.1 hN).1).trans hN)
  have HNX : Hid (∀ w', Below X.heap.size X w' → w'.heap[W.heap.size]? = some (.cells #[.int .i64 0, .int .i64 0, .bool false, .int .i64 0, .int .i64 0, .bool false] 42)) := fun w' hb => (hb.block _ (Array.getElem?_eq_some_iff.1 hNX).1).trans hNX
  have HB : Hid (Below w.heap.size w X) := hbW.trans (hbX.mono hbW.size)
  have Hle : Hid (w.heap.size ≤ W.heap.size) := hbW.size
  obtain ⟨⟨p0, p1, p2, p3, p4, p5⟩, _⟩ := box6 (HN.out X (Below.refl _ _))
  clear hN hNX hbW hbX h1 h2
  go_enter Try.func27, Try.ntmps27
  go_wp2_with fail
  refine calls_at (HA.out _) (by with_reducible rfl) (by with_reducible rfl) ?_
  rintro e w1 ⟨rfl, hb1⟩
  have HB1 : Hid (Below X.heap.size X w1) := hb1
  clear hb1 p0 p1 p2 p3 p4 p5 hX hW
  cases s2
  · have hmm : mm = ⟨x, q1, true, 0, 0, false⟩ := HM.out.trans (if_neg (by simp))
    subst hmm
    obtain ⟨⟨p0, p1, p2, p3, p4, p5⟩, _⟩ := box6 (HN.out w1 HB1.out)
    go_wp2_with fail
    refine calls_at (HP.out _) (by with_reducible rfl) (by with_reducible rfl) ?_
    rintro e w2 ⟨rfl, hb2⟩
    have HB2 : Hid (Below X.heap.size X w2) := HB1.out.trans (hb2.mono HB1.out.size)
    clear hb2 p0 p1 p2 p3 p4 p5
    obtain ⟨⟨r0, r1, r2, r3, r4, r5⟩, rf⟩ := box6 (HNX.out w2 HB2.out)
    have f0 := rf 0
    have f1 := rf 1
    have f2 := rf 2
    have f3 := rf 3
    have f4 := rf 4
    have f5 := rf 5
    clear rf
    go_wp2_with fail
    have hE := set6 (HNX.out w2 HB2.out) (.int .i64 x) (.int .i64 q1) (.bool true) (.int .i64 0) (.int .i64 0) (.bool false)
    obtain ⟨⟨r0, r1, r2, r3, r4, r5⟩, _⟩ := box6 hE
    refine bodyPost_ret (by simp [results, Try.results27, go_sem, r0, r1, r2, r3, r4, r5]; try rfl) rfl ?_
    exact ⟨rfl, below_set6 (HB.out.trans (HB2.out.mono HB.out.size)) Hle.out _ _ _ _ _ _⟩
  · have hmm : mm = ⟨x, s1, false, 0, 0, false⟩ := HM.out.trans (if_pos rfl)
    subst hmm
    obtain ⟨⟨r0, r1, r2, r3, r4, r5⟩, rf⟩ := box6 (HNX.out w1 HB1.out)
    have f0 := rf 0
    have f1 := rf 1
    have f2 := rf 2
    have f3 := rf 3
    have f4 := rf 4
    have f5 := rf 5
    clear rf
    go_wp2_with fail
    have hE := set6 (HNX.out w1 HB1.out) (.int .i64 x) (.int .i64 s1) (.bool false) (.int .i64 0) (.int .i64 0) (.bool false)
    obtain ⟨⟨r0, r1, r2, r3, r4, r5⟩, _⟩ := box6 hE
    refine bodyPost_ret (by simp [results, Try.results27, go_sem, r0, r1, r2, r3, r4, r5]; try rfl) rfl ?_
    exact ⟨rfl, below_set6 (HB.out.trans (HB1.out.mono HB.out.size)) Hle.out _ _ _ _ _ _⟩
end Go.Proofs.Ytkgeknlmkkoobaa

namespace Go.Proofs.Ytkgeknlmkkoobaa
open Go.RowKit

/-- Is n one of the numbers of the variable at x? -/
def hit (vs : List Md.Vr) (cs : List Md.Cn) (n : Int) (x : Nat) : Bool := !(decide (n ≤ Od.aS vs x) == decide (n ≤ Od.aS vs (x + 1)) && decide (n ≤ Od.aP vs cs x) == decide (n ≤ Od.aP vs cs (x + 1)))
def toldK (vs : List Md.Vr) (cs : List Md.Cn) (n : Int) (x : Nat) : Int × Bool := match cs[x]? with | some c => (Od.pkR vs cs x c).told n | none => (0, false)
def OfSays (vs : List Md.Vr) (cs : List Md.Cn) (n : Int) (m : Mn) (b : Bool) : Prop :=
  (∃ x, ∃ h : x < vs.length, hit vs cs n x = true ∧ (∀ y, y < x → hit vs cs n y = false) ∧ m = meanR (Od.stR vs x vs[x]) (Od.ptR vs cs x vs[x]) x n ∧ b = true) ∨
  ((∀ y, y < vs.length → hit vs cs n y = false) ∧
    ((∃ x, x < cs.length ∧ (toldK vs cs n x).2 = true ∧ (∀ y, y < x → (toldK vs cs n y).2 = false) ∧ m = ⟨0, 0, false, x, (toldK vs cs n x).1, true⟩ ∧ b = true) ∨
     ((∀ y, y < cs.length → (toldK vs cs n y).2 = false) ∧ m = ⟨0, 0, false, 0, 0, false⟩ ∧ b = false)))
def OfOut (vs : List Md.Vr) (cs : List Md.Cn) (n : Int) (w : World) (e : Ending) (w' : World) : Prop := (∃ m b, e = .returned (.tuple #[mnVal m, .bool b]) ∧ OfSays vs cs n m b) ∧ Below w.heap.size w w'
theorem all_next {f : Nat → Bool} {k : Nat} (h : ∀ y, y < k → f y = false) (hk : f k = false) : ∀ y, y < k + 1 → f y = false := fun y hy => by
  rcases Nat.lt_or_eq_of_le (Nat.le_of_lt_succ hy) with h1 | rfl
  · exact h y h1
  · exact hk
def O4 (P mb n k k1 : Nat) (a b c d : Int) (X w' : World) : Prop := w'.cell? ⟨P, 2, none⟩ = some (.slice (some ⟨mb, 0, none⟩) (n + 1) (n + 1)) ∧ w'.cell? ⟨mb, k * 2, none⟩ = some (.int .i64 a) ∧ w'.cell? ⟨mb, k * 2 + 1, none⟩ = some (.int .i64 b) ∧ w'.cell? ⟨mb, k1 * 2, none⟩ = some (.int .i64 c) ∧ w'.cell? ⟨mb, k1 * 2 + 1, none⟩ = some (.int .i64 d) ∧ Below X.heap.size X w'
theorem O4.next {P mb n k k1 : Nat} {a b c d : Int} {X w1 w2 : World} (h : w1.cell? ⟨P, 2, none⟩ = some (.slice (some ⟨mb, 0, none⟩) (n + 1) (n + 1)) ∧ w1.cell? ⟨mb, k * 2, none⟩ = some (.int .i64 a) ∧ w1.cell? ⟨mb, k * 2 + 1, none⟩ = some (.int .i64 b) ∧ w1.cell? ⟨mb, k1 * 2, none⟩ = some (.int .i64 c) ∧ w1.cell? ⟨mb, k1 * 2 + 1, none⟩ = some (.int .i64 d) ∧ Below X.heap.size X w1) (hb : Below w1.heap.size w1 w2) : w2.cell? ⟨P, 2, none⟩ = some (.slice (some ⟨mb, 0, none⟩) (n + 1) (n + 1)) ∧ w2.cell? ⟨mb, k * 2, none⟩ = some (.int .i64 a) ∧ w2.cell? ⟨mb, k * 2 + 1, none⟩ = some (.int .i64 b) ∧ w2.cell? ⟨mb, k1 * 2, none⟩ = some (.int .i64 c) ∧ w2.cell? ⟨mb, k1 * 2 + 1, none⟩ = some (.int .i64 d) ∧ Below X.heap.size X w2 :=
  ⟨one_next hb h.1, one_next hb h.2.1, one_next hb h.2.2.1, one_next hb h.2.2.2.1, one_next hb h.2.2.2.2.1, h.2.2.2.2.2.trans (hb.mono h.2.2.2.2.2.size)⟩

set_option maxRecDepth 10000 in
set_option maxHeartbeats 4000000 in
theorem of_any {vs : List Md.Vr} {cs : List Md.Cn} {s : Sh} {V M K : Nat → Value} {B2 : Nat} {w : World} (h : Mk vs cs s V M K B2 w) (n : Int) : Calls Try.prog 11 #[.pointer (some ⟨s.P, 0, none⟩), .int .i64 n] w (OfOut vs cs n w) := by
  obtain ⟨W, hW⟩ : ∃ W, w.alloc (.cells #[.int .i64 0, .int .i64 0, .bool false, .int .i64 0, .int .i64 0, .bool false] 42) = W := ⟨_, rfl⟩
  have hbW : Below w.heap.size w W := by rw [← hW]; exact (Below.refl _ _).alloc (Nat.le_refl _) _
  have hN : W.heap[w.heap.size]? = some (.cells #[.int .i64 0, .int .i64 0, .bool false, .int .i64 0, .int .i64 0, .bool false] 42) := by rw [← hW]; exact heap_alloc_new w _
  have HN : Hid (∀ w', Below W.heap.size W w' → w'.heap[w.heap.size]? = some (.cells #[.int .i64 0, .int .i64 0, .bool false, .int .i64 0, .int .i64 0, .bool false] 42)) := fun w' hb => (hb.block _ (Array.getElem?_eq_some_iff.1 hN).1).trans hN
  have HB : Hid (Below w.heap.size w W) := hbW
  have HM : Hid (∀ w', Below W.heap.size W w' → Mk vs cs s V M K B2 w') := fun w' hb => (h.next hbW).next hb
  have hvl : vs.length ≤ 32 := h.g.n1
  have hcl : cs.length ≤ 64 := h.gc.n1
  have Hn : Hid (s.n = vs.length) := h.hn
  have Hq : Hid (s.nc = cs.length) := h.hq
  have HG : Hid (Od.Good vs) := h.g
  have HGC : Hid (Od.GoodC vs.length cs) := h.gc
  obtain ⟨⟨c0, c1, c2, c3⟩, _⟩ := (HM.out W (Below.refl _ _)).o.cells
  clear h hbW hN
  go_enter Try.func11, Try.ntmps11
  go_wp2_with fail
  clear c0 c1 c2 c3 hW
  go_loopw [17] (fun iv wr => ∃ k : Nat, iv = .int .i64 (k : Int) ∧ k ≤ vs.length ∧ Hid (∀ y, y < k → hit vs cs n y = false) ∧ Hid (Below W.heap.size W wr)) (fun iv _ => vs.length - (intOf iv).toNat)
  case atStart => exact ⟨0, rfl, Nat.zero_le _, (fun y hy => absurd hy (Nat.not_lt_zero _)), Below.refl _ _⟩
  case round =>
    obtain ⟨k, rfl, hk, hH, hR⟩ := hrel
    by_cases hlt : k < vs.length
    · have hkI : (k : Int) < (s.n : Int) := by have := Hn.out; omega
      have hkI1 : (k : Int) < (s.n : Int) + 1 := by omega
      obtain ⟨k1, hk1⟩ : ∃ k1 : Nat, k1 = k + 1 := ⟨_, rfl⟩
      have hk1I : (k1 : Int) < (s.n : Int) + 1 := by omega
      have hw1 : IntKind.i64.wrap ((k : Int) + 1) = (k1 : Int) := by rw [hk1]; exact (wrap_ok (by omega) (by omega)).trans (by omega)
      obtain ⟨v0, v1, v2, v3, v4, v5⟩ := (HM.out wr hR.out).var k hlt
      have HMean : Hid (∀ w, Calls Try.prog 27 #[.agg #[.int .i64 (Od.aS vs k), .int .i64 (vs[k].lo + 1), .int .i64 vs[k].hi, .int .i64 (Od.aP vs cs k), .int .i64 vs[k].lo, .int .i64 (Od.pTo cs vs[k] k)], .int .i64 (k : Int), .int .i64 n] w fun e w' => e = .returned (mnVal (meanR (Od.stR vs k vs[k]) (Od.ptR vs cs k vs[k]) k n)) ∧ Below w.heap.size w w') := fun w => mean_any (Od.stR vs k vs[k]) (Od.ptR vs cs k vs[k]) k n w (Od.stR_fit HG.out k hlt) (Od.ptR_fit HG.out cs k hlt)
      have HYes : Hid (hit vs cs n k = true → OfSays vs cs n (meanR (Od.stR vs k vs[k]) (Od.ptR vs cs k vs[k]) k n) true) := fun hh => .inl ⟨k, hlt, hh, hH.out, rfl, rfl⟩
      obtain ⟨d1, hd1⟩ : ∃ d, decide (n ≤ Od.aS vs k) = d := ⟨_, rfl⟩
      obtain ⟨d2, hd2⟩ : ∃ d, decide (n ≤ Od.aP vs cs k) = d := ⟨_, rfl⟩
      obtain ⟨d3, hd3⟩ : ∃ d, decide (n ≤ Od.aS vs (k + 1)) = d := ⟨_, rfl⟩
      obtain ⟨d4, hd4⟩ : ∃ d, decide (n ≤ Od.aP vs cs (k + 1)) = d := ⟨_, rfl⟩
      have HHit : Hid (hit vs cs n k = !(d1 == d3 && d2 == d4)) := by show _ = _; unfold hit; rw [hd1, hd2, hd3, hd4]
      have HA1 : Hid (∀ w, Calls Try.prog 26 #[.agg #[.int .i64 (Od.aS vs k), .int .i64 (Od.aP vs cs k)], .int .i64 n] w fun e w' => e = .returned (.agg #[.bool d1, .bool d2]) ∧ Below w.heap.size w w') := fun w => by have := ahead_any (Od.aS vs k) (Od.aP vs cs k) n w; rw [hd1, hd2] at this; exact this
      have HA2 : Hid (∀ w, Calls Try.prog 26 #[.agg #[.int .i64 (Od.aS vs (k + 1)), .int .i64 (Od.aP vs cs (k + 1))], .int .i64 n] w fun e w' => e = .returned (.agg #[.bool d3, .bool d4]) ∧ Below w.heap.size w w') := fun w => by have := ahead_any (Od.aS vs (k + 1)) (Od.aP vs cs (k + 1)) n w; rw [hd3, hd4] at this; exact this
      obtain ⟨hv, hhv⟩ : ∃ b, (!(d1 == d3 && d2 == d4)) = b := ⟨_, rfl⟩
      have hneq := mark_neq d1 d2 d3 d4
      rw [hhv] at hneq HHit
      have Hk1 : Hid (k1 = k + 1) := hk1
      have m1 := fun w' hb => (HM.out w' hb).mark k (by omega)
      have m2 := fun w' hb => (HM.out w' hb).mark (k + 1) (by omega)
      rw [← hk1] at m2 HA2
      clear hd1 hd2 hd3 hd4 hk1 hhv
      obtain ⟨X, hX⟩ : ∃ X, wr.alloc (.cells #[.int .i64 (Od.aS vs k), .int .i64 (vs[k].lo + 1), .int .i64 vs[k].hi, .int .i64 (Od.aP vs cs k), .int .i64 vs[k].lo, .int .i64 (Od.pTo cs vs[k] k)] 77) = X := ⟨_, rfl⟩
      have hbX : Below wr.heap.size wr X := by rw [← hX]; exact (Below.refl _ _).alloc (Nat.le_refl _) _
      have hNX : X.heap[wr.heap.size]? = some (.cells #[.int .i64 (Od.aS vs k), .int .i64 (vs[k].lo + 1), .int .i64 vs[k].hi, .int .i64 (Od.aP vs cs k), .int .i64 vs[k].lo, .int .i64 (Od.pTo cs vs[k] k)] 77) := by rw [← hX]; exact heap_alloc_new wr _
      have HBX : Hid (Below W.heap.size W X) := hR.out.trans (hbX.mono hR.out.size)
      have HNX : Hid (∀ w', Below X.heap.size X w' → w'.heap[wr.heap.size]? = some (.cells #[.int .i64 (Od.aS vs k), .int .i64 (vs[k].lo + 1), .int .i64 vs[k].hi, .int .i64 (Od.aP vs cs k), .int .i64 vs[k].lo, .int .i64 (Od.pTo cs vs[k] k)] 77)) := fun w' hb => (hb.block _ (Array.getElem?_eq_some_iff.1 hNX).1).trans hNX
      have HO4 : Hid (O4 s.P s.mb s.n k k1 (Od.aS vs k) (Od.aP vs cs k) (Od.aS vs k1) (Od.aP vs cs k1) X X) := ⟨(HM.out X HBX.out).o.cells.1.2.2.1, (m1 X HBX.out).1, (m1 X HBX.out).2, (m2 X HBX.out).1, (m2 X HBX.out).2, Below.refl _ _⟩
      have HNo : Hid (hit vs cs n k = false → ∀ y, y < k + 1 → hit vs cs n y = false) := fun hh => all_next hH.out hh
      generalize Od.aS vs k1 = as1 at *
      generalize Od.aP vs cs k1 = ap1 at *
      generalize Od.aS vs k = as0 at *
      generalize Od.aP vs cs k = ap0 at *
      generalize meanR (Od.stR vs k vs[k]) (Od.ptR vs cs k vs[k]) k n = mm at *
      generalize Od.pTo cs vs[k] k = tt at *
      generalize vs[k].lo = lo at *
      generalize vs[k].hi = hi at *
      unfold O4 at HO4
      clear hbX hNX m1 m2
      go_wp2_with fail
      clear v0 v1 v2 v3 v4 v5
      go_region_held3 (fun w' => w'.cell? ⟨s.P, 2, none⟩ = some (.slice (some ⟨s.mb, 0, none⟩) (s.n + 1) (s.n + 1)) ∧ w'.cell? ⟨s.mb, k * 2, none⟩ = some (.int .i64 as0) ∧ w'.cell? ⟨s.mb, k * 2 + 1, none⟩ = some (.int .i64 ap0) ∧ w'.cell? ⟨s.mb, k1 * 2, none⟩ = some (.int .i64 as1) ∧ w'.cell? ⟨s.mb, k1 * 2 + 1, none⟩ = some (.int .i64 ap1) ∧ Below X.heap.size X w')
        (first | exact O4.next HO4.out (Below.refl _ _).drew | exact O4.next (by assumption) (by assumption) | assumption)
        (first | (go_at_call 26; refine calls_at (HA1.out _) (by with_reducible rfl) (by with_reducible rfl) ?_; rintro e w' ⟨rfl, hb⟩) | (go_at_call 26; refine calls_at (HA2.out _) (by with_reducible rfl) (by with_reducible rfl) ?_; rintro e w' ⟨rfl, hb⟩))
      rename_i hHeld
      rename World => wh
      have HH : Hid (Below X.heap.size X wh) := hHeld.2.2.2.2.2
      have HW : Hid (Below W.heap.size W wh) := HBX.out.trans (HH.out.mono HBX.out.size)
      clear hHeld hneq
      cases hv
      · go_wp2_with fail
        go_roundw
        case rel => exact ⟨k1, rfl, by have := Hk1.out; omega, (fun y hy => HNo.out HHit.out y (by have := Hk1.out; omega)), HW⟩
        case measure => have := Hk1.out; simp [intOf]; omega
      · obtain ⟨⟨p0, p1, p2, p3, p4, p5⟩, _⟩ := box6 (HNX.out wh HH.out)
        go_wp2_with fail
        refine calls_at (HMean.out _) (by with_reducible rfl) (by with_reducible rfl) ?_
        rintro e w2 ⟨rfl, hb2⟩
        have HB2 : Hid (Below W.heap.size W w2) := HW.out.trans (hb2.mono HW.out.size)
        clear hb2 p0 p1 p2 p3 p4 p5
        obtain ⟨⟨r0, r1, r2, r3, r4, r5⟩, rf⟩ := box6 (HN.out w2 HB2.out)
        have f0 := rf 0
        have f1 := rf 1
        have f2 := rf 2
        have f3 := rf 3
        have f4 := rf 4
        have f5 := rf 5
        have HS : Hid (OfSays vs cs n mm true) := HYes.out HHit.out
        clear rf
        obtain ⟨mx, mv, mi, mc, mr, mp⟩ := mm
        unfold mnVal
        go_wp2_with fail
        have hE := set6 (HN.out w2 HB2.out) (.int .i64 mx) (.int .i64 mv) (.bool mi) (.int .i64 mc) (.int .i64 mr) (.bool mp)
        obtain ⟨⟨r0, r1, r2, r3, r4, r5⟩, _⟩ := box6 hE
        refine bodyPost_ret (by simp [results, Try.results11, go_sem, r0, r1, r2, r3, r4, r5]; try rfl) rfl ?_
        exact ⟨⟨_, _, rfl, HS.out⟩, below_set6 (HB.out.trans (HB2.out.mono HB.out.size)) (Nat.le_refl _) _ _ _ _ _ _⟩
    · have hkI : ¬ (k : Int) < (s.n : Int) := by have := Hn.out; omega
      obtain rfl : k = vs.length := by omega
      obtain ⟨⟨c0, c1, c2, c3⟩, _⟩ := (HM.out wr hR.out).o.cells
      rename World => wk
      go_wp2_with fail
      clear c0 c1 c2 c3
      go_loopw [52] (fun iv wr => ∃ k : Nat, iv = .int .i64 (k : Int) ∧ k ≤ cs.length ∧ Hid (∀ y, y < k → (toldK vs cs n y).2 = false) ∧ Hid (Below W.heap.size W wr)) (fun iv _ => cs.length - (intOf iv).toNat)
      case atStart => exact ⟨0, rfl, Nat.zero_le _, (fun y hy => absurd hy (Nat.not_lt_zero _)), hR⟩
      case round =>
        obtain ⟨k, rfl, hk, hT, hRk⟩ := hrel
        rename World => wq
        by_cases hlt : k < cs.length
        · have hkI : (k : Int) < (s.nc : Int) := by have := Hq.out; omega
          obtain ⟨vx, vr, ⟨v0, v1, v2, v3, v4⟩, e1, e2, hP⟩ := (HM.out wq hRk.out).con k hlt
          clear e1 e2
          have hTK : toldK vs cs n k = (Od.pkR vs cs k cs[k]).told n := by unfold toldK; rw [List.getElem?_eq_getElem hlt]
          have HT : Hid (∀ w, Calls Try.prog 28 #[runVal (Od.pkR vs cs k cs[k]), .int .i64 n] w fun e w' => e = .returned (toldVal (toldK vs cs n k)) ∧ Below w.heap.size w w') := fun w => by rw [hTK]; exact told_any _ n w (Od.pkR_fit HG.out HGC.out k hlt)
          unfold runVal toldVal Od.pkR at HT
          simp only at HT
          have HNo : Hid ((toldK vs cs n k).2 = false → ∀ y, y < k + 1 → (toldK vs cs n y).2 = false) := fun hh => all_next (f := fun y => (toldK vs cs n y).2) hT.out hh
          have HYes : Hid ((toldK vs cs n k).2 = true → OfSays vs cs n ⟨0, 0, false, k, (toldK vs cs n k).1, true⟩ true) := fun hh => .inr ⟨hH.out, .inl ⟨k, hlt, hh, hT.out, rfl, rfl⟩⟩
          obtain ⟨⟨xa, xn, xc, rfl⟩, ⟨ra, rn, rc, rfl⟩⟩ := hP.forms
          clear hP hTK
          generalize toldK vs cs n k = tk at *
          obtain ⟨t1, t2⟩ := tk
          simp only at HNo HYes HT
          generalize Od.aK vs cs k = ak at *
          generalize (Od.rN cs[k] : Int) - 1 = rn1 at *
          obtain ⟨X, hX⟩ : ∃ X, wq.alloc (.cells #[.int .i64 ak, .int .i64 0, .int .i64 rn1, .slice xa xn xc, .slice ra rn rc] 86) = X := ⟨_, rfl⟩
          have hbX : Below wq.heap.size wq X := by rw [← hX]; exact (Below.refl _ _).alloc (Nat.le_refl _) _
          have hNX : X.heap[wq.heap.size]? = some (.cells #[.int .i64 ak, .int .i64 0, .int .i64 rn1, .slice xa xn xc, .slice ra rn rc] 86) := by rw [← hX]; exact heap_alloc_new wq _
          have HBX : Hid (Below W.heap.size W X) := hRk.out.trans (hbX.mono hRk.out.size)
          obtain ⟨⟨p0, p1, p2, p3, p4⟩, _⟩ := box5 hNX
          clear hbX hNX
          go_wp2_with fail
          refine calls_at (HT.out _) (by with_reducible rfl) (by with_reducible rfl) ?_
          rintro e w2 ⟨rfl, hb2⟩
          have HB2 : Hid (Below W.heap.size W w2) := HBX.out.trans (hb2.mono HBX.out.size)
          clear hb2 p0 p1 p2 p3 p4 v0 v1 v2 v3 v4 hX
          cases t2
          · go_wp2_with fail
            go_roundw
            case rel => exact ⟨k + 1, by go_num, by omega, HNo.out (by first | rfl | trivial), HB2⟩
            case measure => simp [intOf]; omega
          · have HS : Hid (OfSays vs cs n ⟨0, 0, false, k, t1, true⟩ true) := HYes.out (by first | rfl | trivial)
            obtain ⟨⟨r0, r1, r2, r3, r4, r5⟩, rf⟩ := box6 (HN.out w2 HB2.out)
            have f0 := rf 0
            have f1 := rf 1
            have f2 := rf 2
            have f3 := rf 3
            have f4 := rf 4
            have f5 := rf 5
            clear rf
            go_wp2_with fail
            have hE := set6 (HN.out w2 HB2.out) (.int .i64 0) (.int .i64 0) (.bool false) (.int .i64 (k : Int)) (.int .i64 t1) (.bool true)
            obtain ⟨⟨r0, r1, r2, r3, r4, r5⟩, _⟩ := box6 hE
            refine bodyPost_ret (by simp [results, Try.results11, go_sem, r0, r1, r2, r3, r4, r5]; try rfl) rfl ?_
            exact ⟨⟨_, _, rfl, HS.out⟩, below_set6 (HB.out.trans (HB2.out.mono HB.out.size)) (Nat.le_refl _) _ _ _ _ _ _⟩
        · have hkI : ¬ (k : Int) < (s.nc : Int) := by have := Hq.out; omega
          obtain rfl : k = cs.length := by omega
          have HS : Hid (OfSays vs cs n ⟨0, 0, false, 0, 0, false⟩ false) := .inr ⟨hH.out, .inr ⟨hT.out, rfl, rfl⟩⟩
          obtain ⟨⟨r0, r1, r2, r3, r4, r5⟩, rf⟩ := box6 (HN.out wq hRk.out)
          have f0 := rf 0
          have f1 := rf 1
          have f2 := rf 2
          have f3 := rf 3
          have f4 := rf 4
          have f5 := rf 5
          clear rf
          go_wp2_with fail
          have hE := set6 (HN.out wq hRk.out) (.int .i64 0) (.int .i64 0) (.bool false) (.int .i64 0) (.int .i64 0) (.bool false)
          obtain ⟨⟨r0, r1, r2, r3, r4, r5⟩, _⟩ := box6 hE
          refine bodyPost_ret (by simp [results, Try.results11, go_sem, r0, r1, r2, r3, r4, r5]; try rfl) rfl ?_
          exact ⟨⟨_, _, rfl, HS.out⟩, below_set6 (HB.out.trans (hRk.out.mono HB.out.size)) (Nat.le_refl _) _ _ _ _ _ _⟩
end Go.Proofs.Ytkgeknlmkkoobaa
