/-
  known: the chapter's examples.
-/
import Derived.Test.YtkgeknlmkkoobaaOdSame
import Derived.BigGuardPart
namespace Go.Proofs.Ytkgeknlmkkoobaa
open Go.RowKit

theorem heap_back {w : World} {o : Obj} {i : Nat} {x : Obj} (h : w.heap[i]? = some x) : (w.alloc o).heap[i]? = some x := (((Below.refl _ w).alloc (Nat.le_refl _) o).block i (Array.getElem?_eq_some_iff.1 h).1).trans h
theorem heap_top {w : World} {o : Obj} {i : Nat} (h : i = w.heap.size) : (w.alloc o).heap[i]? = some o := by subst h; exact heap_alloc_new w o
theorem ints0 (w : World) : IntsAt w (.slice none 0 0) [] := ⟨none, 0, rfl, Nat.zero_le _, fun h => absurd h (Nat.not_lt_zero _)⟩
theorem terms0 (w : World) : TermsAt w (.slice none 0 0) [] := ⟨none, 0, rfl, Nat.zero_le _, fun h => absurd h (Nat.not_lt_zero _)⟩
theorem rows0 (w : World) : RowsAt w (.slice none 0 0) [] := ⟨none, 0, rfl, Nat.zero_le _, fun h => absurd h (Nat.not_lt_zero _)⟩
theorem ints2 {w : World} {N : Nat} {a b : Int} {t : TypeId} (h : w.heap[N]? = some (.cells #[.int .i64 a, .int .i64 b] t (0, 0))) : IntsAt w (.slice (some ⟨N, 0, none⟩) 2 2) [a, b] := by
  refine ⟨_, 2, rfl, by unfold maxLen; simp, fun _ => ⟨N, 0, rfl, (Array.getElem?_eq_some_iff.1 h).1, fun j hj => ?_⟩⟩
  match j, hj with
  | 0, _ => simp [World.cell?, h]
  | 1, _ => simp [World.cell?, h]
  | n + 2, hj => exact absurd hj (by simp)
def kX : Md.Vr := ⟨⟨#[120]⟩, 0, 3⟩
def kY : Md.Vr := ⟨⟨#[121]⟩, -1, 2⟩
def kA : Md.Cn := ⟨3, 0, [], 0, 0, 0, 0, [1, 1], [], []⟩
def kM : Md.Mo := ⟨[kX, kY], [kA], false, []⟩
theorem k_check : (Md.check kM).2 = 0 := by kernel_rfl
theorem k_count : Od.aK kM.vars kM.cons kM.cons.length = 10 := by kernel_rfl
theorem k_ask1 : (Od.stR kM.vars 0 kX).atLeast 1 = (1, 1) := by kernel_rfl
theorem k_ask0 : (Od.stR kM.vars 0 kX).atLeast 0 = (0, 2) := by kernel_rfl
theorem k_is : (Od.ptR kM.vars kM.cons 1 kY).is (-1) = (7, 1) := by kernel_rfl
theorem k_p1 : Od.aP kM.vars kM.cons 1 = 6 := by kernel_rfl
theorem k_p2 : Od.aP kM.vars kM.cons (1 + 1) = 10 := by kernel_rfl
theorem k_s0 : Od.aS kM.vars 0 = 0 := by kernel_rfl
theorem k_to : Od.pTo kM.cons kY 1 = 2 := by kernel_rfl
theorem k_lay {w W : World} (hW : ((w.alloc (.cells #[.string ⟨#[120]⟩, .int .i64 0, .int .i64 3, .string ⟨#[121]⟩, .int .i64 (-1), .int .i64 2] 38)).alloc (.cells #[.int .i64 1, .int .i64 1] 3)).alloc (.cells #[.int .i64 3, .int .i64 0, .slice none 0 0, .int .i64 0, .int .i64 0, .int .i64 0, .int .i64 0, .slice (some ⟨w.heap.size + 1, 0, none⟩) 2 2, .slice none 0 0, .slice none 0 0] 51) = W) :
    Below w.heap.size w W ∧ MoAt W kM (.slice (some ⟨w.heap.size, 0, none⟩) 2 2) (.slice (some ⟨w.heap.size + 1 + 1, 0, none⟩) 1 1) (.slice none 0 0) := by
  have hb : Below w.heap.size w W := by
    rw [← hW]
    exact (((Below.refl _ _).alloc (Nat.le_refl _) _).alloc (by simp) _).alloc (by simp; omega) _
  have h0 : W.heap[w.heap.size]? = some (.cells #[.string ⟨#[120]⟩, .int .i64 0, .int .i64 3, .string ⟨#[121]⟩, .int .i64 (-1), .int .i64 2] 38) := by rw [← hW]; exact heap_back (heap_back (heap_top rfl))
  have h1 : W.heap[w.heap.size + 1]? = some (.cells #[.int .i64 1, .int .i64 1] 3) := by rw [← hW]; exact heap_back (heap_top (by simp))
  have h2 : W.heap[w.heap.size + 1 + 1]? = some (.cells #[.int .i64 3, .int .i64 0, .slice none 0 0, .int .i64 0, .int .i64 0, .int .i64 0, .int .i64 0, .slice (some ⟨w.heap.size + 1, 0, none⟩) 2 2, .slice none 0 0, .slice none 0 0] 51) := by rw [← hW]; exact heap_top (by simp)
  refine ⟨hb, ⟨⟨_, 2, rfl, by unfold maxLen; decide, ?_, fun _ => ⟨w.heap.size, 0, rfl, (Array.getElem?_eq_some_iff.1 h0).1, fun j hj => ?_⟩⟩, fun a n cp h => by injection h with _ e2 e3; omega, ⟨_, 1, rfl, by unfold maxLen; decide, fun _ => ⟨w.heap.size + 1 + 1, 0, rfl, (Array.getElem?_eq_some_iff.1 h2).1, fun j hj => ?_⟩⟩, terms0 _⟩⟩
  · intro x hx
    simp only [kM, List.mem_cons, List.not_mem_nil, or_false] at hx
    rcases hx with rfl | rfl
    · show (1 : Nat) ≤ maxLen; unfold maxLen; decide
    · show (1 : Nat) ≤ maxLen; unfold maxLen; decide
  · obtain ⟨p0, p1, p2, p3, p4, p5⟩ := box6' h0
    match j, hj with
    | 0, _ => exact ⟨p0, p1, p2⟩
    | 1, _ => exact ⟨p3, p4, p5⟩
    | n + 2, hj => exact absurd hj (by simp [kM])
  · obtain ⟨⟨p0, p1, p2, p3, p4, p5, p6, p7, p8, p9⟩, _⟩ := box10 h2
    match j, hj with
    | 0, _ => exact ⟨_, _, _, _, ⟨terms0 _, ints2 h1, fun a n cp h => by injection h with _ e2 e3; omega, ints0 _, rows0 _⟩, p0, p1, p2, p3, p4, p5, p6, p7, p8, p9⟩
    | n + 1, hj => exact absurd hj (by simp [kM])
theorem new_at {m : Md.Mo} {vv vc vg V : Value} {w : World} (h : MoAt w m vv vc vg) (hV : moVal m vv vc vg = V) : Calls Try.prog 9 #[V] w (NewOut m w) := by
  subst hV
  exact new_any m vv vc vg w h
theorem mk_of {m : Md.Mo} {w : World} {e : Ending} {w' : World} (h : NewOut m w e w') (hc : (Md.check m).2 = 0) : ∃ s V M K B2, e = .returned (.tuple #[.pointer (some ⟨s.P, 0, none⟩), .int .i64 0]) ∧ Mk m.vars m.cons s V M K B2 w' ∧ Below w.heap.size w w' := by
  obtain ⟨h1 | h1, hb⟩ := h
  · exact absurd hc h1.1
  · obtain ⟨_, s, V, M, K, B2, rfl, _, hn, hq, ho, hst, hpt, hms, hmp, hk⟩ := h1
    exact ⟨s, V, M, K, B2, rfl, ⟨Od.good_of (Md.right_of hc), Od.goodC_of (Md.right_of hc), hn, hq, ho, hst, hpt, hms, hmp, hk⟩, hb⟩

theorem k_in : ∀ x (_ : x < kM.vars.length) (_ : x < [(2 : Int), -1].length), kM.vars[x].lo ≤ [(2 : Int), -1][x] ∧ [(2 : Int), -1][x] ≤ kM.vars[x].hi := fun x h h2 => by
  match x, h, h2 with
  | 0, _, _ => exact ⟨(by decide : (0 : Int) ≤ 2), (by decide : (2 : Int) ≤ 3)⟩
  | 1, _, _ => exact ⟨(by decide : (-1 : Int) ≤ -1), (by decide : (-1 : Int) ≤ 2)⟩
  | n + 2, h, _ => exact absurd h (by simp [kM])
/-- What the example's assignment says. -/
theorem k_asg {w : World} {e : Ending} {w' : World} (h : AsgOut kM.vars kM.cons [2, -1] w e w') (hg : Od.Good kM.vars) : ∃ S g, e = .returned (.tuple #[.slice (some ⟨S, 0, none⟩) 10 10, .bool true]) ∧ BoolsIs w' S 10 g ∧ (g 0 = true ∧ g 1 = true ∧ g 2 = false ∧ g 6 = true) ∧ Od.valL kM.vars g = [2, -1] ∧ Below w.heap.size w w' := by
  obtain ⟨⟨S, N, g, rfl, hN, hR, hV, _⟩, hb⟩ := h
  rw [k_count] at hN
  obtain rfl : N = 10 := by omega
  have h0 := (hV 0 (by decide) (by decide)).1
  have h1 := (hV 1 (by decide) (by decide)).2
  rw [k_s0] at h0
  rw [k_p1] at h1
  refine ⟨S, g, rfl, hR, ⟨h0 0 (by decide), h0 1 (by decide), h0 2 (by decide), h1 0 (by show ((0 : Nat) : Int) < Od.pTo kM.cons kY 1 - (-1) + 1; rw [k_to]; decide)⟩, Od.valL_back hg hV rfl k_in, hb⟩

set_option maxRecDepth 10000 in
set_option maxHeartbeats 4000000 in
theorem known_any (w : World) : Calls Try.prog 8 #[] w fun e w' => e = .returned (.bool true) ∧ Below w.heap.size w w' := by
  obtain ⟨W, hW⟩ : ∃ W, ((w.alloc (.cells #[.string ⟨#[120]⟩, .int .i64 0, .int .i64 3, .string ⟨#[121]⟩, .int .i64 (-1), .int .i64 2] 38)).alloc (.cells #[.int .i64 1, .int .i64 1] 3)).alloc (.cells #[.int .i64 3, .int .i64 0, .slice none 0 0, .int .i64 0, .int .i64 0, .int .i64 0, .int .i64 0, .slice (some ⟨w.heap.size + 1, 0, none⟩) 2 2, .slice none 0 0, .slice none 0 0] 51) = W := ⟨_, rfl⟩
  obtain ⟨hbW, hMo⟩ := k_lay hW
  have HB : Hid (Below w.heap.size w W) := hbW
  have HNew : Hid (Calls Try.prog 9 #[.agg #[.slice (some ⟨w.heap.size, 0, none⟩) 2 2, .slice (some ⟨w.heap.size + 1 + 1, 0, none⟩) 1 1, .bool false, .slice none 0 0]] W (NewOut kM W)) := new_at hMo rfl
  clear hbW hMo
  go_enter Try.func8, Try.ntmps8
  go_wp2_with fail
  refine calls_at HNew.out (by with_reducible rfl) (by with_reducible rfl) ?_
  intro e w1 hNew
  obtain ⟨s, V, M, K, B2, rfl, hMk, hb1⟩ := mk_of hNew k_check
  have HM : Hid (∀ w', Below w1.heap.size w1 w' → Mk kM.vars kM.cons s V M K B2 w') := fun w' hb => hMk.next hb
  have HB1 : Hid (Below w.heap.size w w1) := HB.out.trans (hb1.mono HB.out.size)
  have HCo : Hid (∀ w', Below w1.heap.size w1 w' → Calls Try.prog 17 #[.pointer (some ⟨s.P, 0, none⟩)] w' fun e w'' => e = .returned (.int .i64 10) ∧ w'' = w') := fun w' hb => by
    have := count_any (HM.out w' hb); rw [k_count] at this; exact this
  have HA1 : Hid (∀ w', Below w1.heap.size w1 w' → Calls Try.prog 10 #[.pointer (some ⟨s.P, 0, none⟩), .int .i64 0, .int .i64 1] w' fun e w'' => e = .returned (.tuple #[.int .i64 1, .int .i64 1]) ∧ Below w'.heap.size w' w'') := fun w' hb => by
    have := atLeastO_any (HM.out w' hb) 0 (by decide) 1
    rw [show (Od.stR kM.vars 0 kM.vars[0]).atLeast 1 = (1, 1) from k_ask1] at this; exact this
  have HA0 : Hid (∀ w', Below w1.heap.size w1 w' → Calls Try.prog 10 #[.pointer (some ⟨s.P, 0, none⟩), .int .i64 0, .int .i64 0] w' fun e w'' => e = .returned (.tuple #[.int .i64 0, .int .i64 2]) ∧ Below w'.heap.size w' w'') := fun w' hb => by
    have := atLeastO_any (HM.out w' hb) 0 (by decide) 0
    rw [show (Od.stR kM.vars 0 kM.vars[0]).atLeast 0 = (0, 2) from k_ask0] at this; exact this
  have HI : Hid (∀ w', Below w1.heap.size w1 w' → Calls Try.prog 13 #[.pointer (some ⟨s.P, 0, none⟩), .int .i64 1, .int .i64 (-1)] w' fun e w'' => e = .returned (.tuple #[.int .i64 7, .int .i64 1]) ∧ Below w'.heap.size w' w'') := fun w' hb => by
    have := isO_any (HM.out w' hb) 1 (by decide) (-1)
    rw [show (Od.ptR kM.vars kM.cons 1 kM.vars[1]).is (-1) = (7, 1) from k_is] at this; exact this
  have HG : Hid (Od.Good kM.vars) := hMk.g
  have HOf : Hid (∀ w', Below w1.heap.size w1 w' → Calls Try.prog 11 #[.pointer (some ⟨s.P, 0, none⟩), .int .i64 7] w' fun e w'' => e = .returned (.tuple #[mnVal ⟨1, -1, true, 0, 0, false⟩, .bool true]) ∧ Below w'.heap.size w' w'') := fun w' hb => (of_any (HM.out w' hb) 7).mono fun e w'' ⟨⟨m, b, he, hs⟩, hb2⟩ => by
    obtain ⟨rfl, rfl⟩ := Od.of_point HG.out hs (x := 1) (by decide) (by rw [k_p1]; decide) (by rw [k_p2]; decide)
    rw [k_p1] at he
    exact ⟨he, hb2⟩
  unfold mnVal at HOf
  simp only at HOf
  clear hNew hMk hb1 HNew hW
  have Hr1 : Hid (Below w1.heap.size w1 w1) := Below.refl _ _
  go_wp2_with (first | (go_at_call 17; refine calls_at (HCo.out _ Hr1.out) (by with_reducible rfl) (by with_reducible rfl) ?_; rintro e w' ⟨rfl, hww⟩; rw [hww]; clear hww) | fail)
  refine calls_at (HA1.out _ Hr1.out) (by with_reducible rfl) (by with_reducible rfl) ?_
  rintro e w2 ⟨rfl, hb2⟩
  have HB2 : Hid (Below w1.heap.size w1 w2) := hb2
  clear hb2
  go_wp2_with fail
  refine calls_at (HA0.out _ HB2.out) (by with_reducible rfl) (by with_reducible rfl) ?_
  rintro e w3 ⟨rfl, hb3⟩
  have HB3 : Hid (Below w1.heap.size w1 w3) := HB2.out.trans (hb3.mono HB2.out.size)
  clear hb3
  go_wp2_with fail
  refine calls_at (HI.out _ HB3.out) (by with_reducible rfl) (by with_reducible rfl) ?_
  rintro e w4 ⟨rfl, hb4⟩
  have HB4 : Hid (Below w1.heap.size w1 w4) := HB3.out.trans (hb4.mono HB3.out.size)
  clear hb4
  go_wp2_with fail
  refine calls_at (HOf.out _ HB4.out) (by with_reducible rfl) (by with_reducible rfl) ?_
  rintro e w5 ⟨rfl, hb5⟩
  have HB5 : Hid (Below w1.heap.size w1 w5) := HB4.out.trans (hb5.mono HB4.out.size)
  clear hb5
  go_wp2_with fail
  obtain ⟨X, hX⟩ : ∃ X, (w5.alloc (.cells #[.int .i64 1, .int .i64 (-1), .bool true, .int .i64 0, .int .i64 0, .bool false] 42)).alloc (.cells #[.int .i64 2, .int .i64 (-1)] 3) = X := ⟨_, rfl⟩
  have hbX : Below w5.heap.size w5 X := by rw [← hX]; exact ((Below.refl _ _).alloc (Nat.le_refl _) _).alloc (by simp) _
  have hN0 : X.heap[w5.heap.size]? = some (.cells #[.int .i64 1, .int .i64 (-1), .bool true, .int .i64 0, .int .i64 0, .bool false] 42) := by rw [← hX]; exact heap_back (heap_top rfl)
  have hN1 : X.heap[w5.heap.size + 1]? = some (.cells #[.int .i64 2, .int .i64 (-1)] 3) := by rw [← hX]; exact heap_top (by simp)
  have HBX : Hid (Below w1.heap.size w1 X) := HB5.out.trans (hbX.mono HB5.out.size)
  have HAs : Hid (Calls Try.prog 14 #[.pointer (some ⟨s.P, 0, none⟩), .slice (some ⟨w5.heap.size + 1, 0, none⟩) 2 2] X (AsgOut kM.vars kM.cons [2, -1] X)) := assignment_any (HM.out X HBX.out) _ [2, -1] (ints2 hN1) rfl k_in
  have HN0 : Hid (∀ w', Below X.heap.size X w' → w'.heap[w5.heap.size]? = some (.cells #[.int .i64 1, .int .i64 (-1), .bool true, .int .i64 0, .int .i64 0, .bool false] 42)) := fun w' hb => (hb.block _ (Array.getElem?_eq_some_iff.1 hN0).1).trans hN0
  rw [hX]
  clear hbX hN0 hN1 hX
  refine calls_at HAs.out (by with_reducible rfl) (by with_reducible rfl) ?_
  intro e w6 hAs
  obtain ⟨S, g, rfl, hR6, ⟨g0, g1, g2, g6⟩, hVL, hb6⟩ := k_asg hAs HG.out
  have HB6 : Hid (Below w1.heap.size w1 w6) := HBX.out.trans (hb6.mono HBX.out.size)
  have HX6 : Hid (Below X.heap.size X w6) := hb6
  have HR : Hid (∀ w', Below w6.heap.size w6 w' → BoolsIs w' S 10 g) := fun w' hb => hR6.next hb
  have HVa : Hid (Calls Try.prog 16 #[.pointer (some ⟨s.P, 0, none⟩), .slice (some ⟨S, 0, none⟩) 10 10] w6 (ValsOut [2, -1] w6)) := by
    have := values_any (HM.out w6 HB6.out) S 10 10 g (by rw [k_count]; rfl) (Nat.le_refl _) hR6
    rw [hVL] at this; exact this
  clear hAs hR6 hb6 hVL HAs
  go_wp2_with fail
  refine calls_at HVa.out (by with_reducible rfl) (by with_reducible rfl) ?_
  rintro e w7 ⟨⟨v7, rfl, hI7⟩, hb7⟩
  obtain ⟨a7, c7, rfl, _⟩ := hI7.form
  have HI7 : Hid (∀ w', Below w7.heap.size w7 w' → IntsAt w' (.slice a7 2 c7) [2, -1]) := fun w' hb => hI7.below hb
  have HB7 : Hid (Below w1.heap.size w1 w7) := HB6.out.trans (hb7.mono HB6.out.size)
  have hR7 := HR.out w7 hb7
  have s0 := World.rowIs.cell hR7 (i := 0) (by decide)
  have s1 := World.rowIs.cell hR7 (i := 1) (by decide)
  have s2 := World.rowIs.cell hR7 (i := 2) (by decide)
  have s6 := World.rowIs.cell hR7 (i := 6) (by decide)
  rw [g0] at s0
  rw [g1] at s1
  rw [g2] at s2
  rw [g6] at s6
  obtain ⟨⟨p0, p1, p2, p3, p4, p5⟩, _⟩ := box6 (HN0.out w7 (HX6.out.trans (hb7.mono HX6.out.size)))
  obtain ⟨Y, hY⟩ : ∃ Y, w7.alloc (.cells #[.int .i64 2, .int .i64 (-1)] 3) = Y := ⟨_, rfl⟩
  have hbY : Below w7.heap.size w7 Y := by rw [← hY]; exact (Below.refl _ _).alloc (Nat.le_refl _) _
  have hNY : Y.heap[w7.heap.size]? = some (.cells #[.int .i64 2, .int .i64 (-1)] 3) := by rw [← hY]; exact heap_alloc_new w7 _
  have HSa : Hid (Calls Try.prog 18 #[.slice a7 2 c7, .slice (some ⟨w7.heap.size, 0, none⟩) 2 2] Y fun e w' => e = .returned (.bool true) ∧ Below Y.heap.size Y w') := same_any _ _ [2, -1] Y (HI7.out Y hbY) (ints2 hNY)
  have HBY : Hid (Below w1.heap.size w1 Y) := HB7.out.trans (hbY.mono HB7.out.size)
  have meq := fun w => (mean_same ⟨1, -1, true, 0, 0, false⟩ w).2
  unfold mnVal at meq
  simp only at meq
  clear hb7 hI7 hR7 hbY hNY g0 g1 g2 g6
  simp only [List.length_cons, List.length_nil]
  go_wp2_with fail
  refine calls_at HSa.out (by with_reducible rfl) (by with_reducible rfl) ?_
  rintro e w8 ⟨rfl, hb8⟩
  go_wp2_with fail
  go_ret
  exact ⟨rfl, HB1.out.trans ((HBY.out.trans (hb8.mono HBY.out.size)).mono HB1.out.size)⟩
end Go.Proofs.Ytkgeknlmkkoobaa
