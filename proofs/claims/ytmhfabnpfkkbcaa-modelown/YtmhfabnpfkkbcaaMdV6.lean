/-
  right, within, Worth: the program's.
-/
import Derived.Test.YtmhfabnpfkkbcaaMdV5
import Derived.Test.YtmhfabnpfkkbcaaMdHolds
namespace Go.Proofs.Ytmhfabnpfkkbcaa
open Go.RowKit

def Md.rightB (m : Md.Mo) : Bool := (Md.check m).2 == 0
theorem Md.rightB_of {m : Md.Mo} (h : Md.rightB m = true) : Md.Right m := Md.right_of (by simpa [Md.rightB] using h)

set_option maxRecDepth 10000 in
set_option maxHeartbeats 400000 in
theorem right_any (m : Md.Mo) (vv vc vg : Value) (w : World) (h : MoAt w m vv vc vg) : Calls Try.prog 26 #[moVal m vv vc vg] w fun e w' => e = .returned (.bool (Md.rightB m)) ∧ Below w.heap.size w w' := by
  obtain ⟨W, hW⟩ : ∃ W, w.alloc (.cells #[vv, vc, .bool m.has, vg] 26) = W := ⟨_, rfl⟩
  have hbW : Below w.heap.size w W := by rw [← hW]; exact (Below.refl _ _).alloc (Nat.le_refl _) _
  have hN : W.heap[w.heap.size]? = some (.cells #[vv, vc, .bool m.has, vg] 26) := by rw [← hW]; exact heap_alloc_new w _
  have HB : Hid (Below w.heap.size w W) := hbW
  have HM : Hid (∀ w', Below W.heap.size W w' → MoAt w' m vv vc vg) := fun w' hb => (h.below hbW).below hb
  have HN : Hid (∀ w', Below W.heap.size W w' → w'.heap[w.heap.size]? = some (.cells #[vv, vc, .bool m.has, vg] 26)) := fun w' hb => (hb.block _ (Array.getElem?_eq_some_iff.1 hN).1).trans hN
  have HNL : Hid (w.heap.size < W.heap.size) := (Array.getElem?_eq_some_iff.1 hN).1
  obtain ⟨va, vp, rfl, hvm⟩ := h.v.form
  obtain ⟨ca, cp, rfl, hcm⟩ := h.c.form
  obtain ⟨ga, gp, rfl, hgm⟩ := h.g.form
  unfold maxLen at hvm hcm hgm
  obtain ⟨⟨p0, p1, p2, p3⟩, _⟩ := box4 hN
  have H10 : Hid (Calls Try.prog 24 #[.agg #[.slice va m.vars.length vp, .slice ca m.cons.length cp, .bool m.has, .slice ga m.goal.length gp]] W fun e w' => e = .returned (.tuple #[.int .i64 (Md.check m).1, .int .i64 (Md.check m).2]) ∧ Below W.heap.size W w') := check_any m _ _ _ W (HM.out W (Below.refl _ _))
  unfold moVal
  clear h hbW hN
  obtain ⟨r, hr⟩ : ∃ r, (Md.check m).2 = r := ⟨_, rfl⟩
  have hres : Hid (Md.rightB m = (r == 0)) := by show _ = _; unfold Md.rightB; rw [hr]
  rw [hr] at H10
  clear hr
  go_enter Try.func26, Try.ntmps26
  go_wp2_with (go_at_call 24; refine calls_at H10.out (by with_reducible rfl) (by with_reducible rfl) ?_; rintro e w1 ⟨rfl, hb1⟩)
  go_ret
  exact ⟨ret_bool hres.out.symm, HB.out.trans (hb1.mono HB.out.size)⟩

theorem Md.inside_iff : ∀ {l : List Md.Vr} {vs : List Int}, Md.insideB l vs = true ↔ vs.length = l.length ∧ ∀ j (h1 : j < l.length) (h2 : j < vs.length), l[j].lo ≤ vs[j] ∧ vs[j] ≤ l[j].hi
  | [], [] => by simp [Md.insideB]
  | [], x :: xs => by simp [Md.insideB]
  | v :: l, [] => by simp [Md.insideB]
  | v :: l, x :: xs => by
    rw [Md.insideB, Bool.and_eq_true, decide_eq_true_eq, Md.inside_iff]
    constructor
    · rintro ⟨h1, h2, h3⟩
      refine ⟨by simp [h2], fun j a b => ?_⟩
      cases j with
      | zero => exact h1
      | succ j => exact h3 j (by simpa using a) (by simpa using b)
    · rintro ⟨h1, h2⟩
      exact ⟨h2 0 (by simp) (by simp), by simpa using h1, fun j a b => by have := h2 (j + 1) (by simpa using a) (by simpa using b); simpa using this⟩
theorem Md.inside_no {l : List Md.Vr} {vs : List Int} (h : vs.length ≠ l.length ∨ ∃ j, ∃ (h1 : j < l.length) (h2 : j < vs.length), ¬ (l[j].lo ≤ vs[j] ∧ vs[j] ≤ l[j].hi)) : Md.insideB l vs = false := by
  rw [← Bool.not_eq_true, Md.inside_iff]
  rintro ⟨h1, h2⟩
  rcases h with h | ⟨j, a, b, c⟩
  · exact h h1
  · exact c (h2 j a b)

set_option maxRecDepth 10000 in
set_option maxHeartbeats 1000000 in
theorem within_any (va vx : Value) (l : List Md.Vr) (vs : List Int) (w : World) (hv : VarsAt w va l) (hx : IntsAt w vx vs) : Calls Try.prog 41 #[va, vx] w fun e w' => e = .returned (.bool (Md.insideB l vs)) ∧ Below w.heap.size w w' := by
  obtain ⟨a, cap, rfl, hm, _, hc⟩ := hv
  obtain ⟨xa, xc, rfl, hxm, hxo⟩ := hx
  unfold maxLen at hm hxm
  have HC : Hid (0 < l.length → ∃ b off, a = some ⟨b, off, none⟩ ∧ b < w.heap.size ∧ ∀ j (h : j < l.length), w.cell? ⟨b, off + j * 3, none⟩ = some (.string l[j].name) ∧ w.cell? ⟨b, off + j * 3 + 1, none⟩ = some (.int .i64 l[j].lo) ∧ w.cell? ⟨b, off + j * 3 + 2, none⟩ = some (.int .i64 l[j].hi)) := hc
  have HX : Hid (0 < vs.length → ∃ b off, xa = some ⟨b, off, none⟩ ∧ b < w.heap.size ∧ ∀ j (h : j < vs.length), w.cell? ⟨b, off + j, none⟩ = some (.int .i64 vs[j])) := hxo
  clear hc hxo
  by_cases hl : vs.length = l.length
  rotate_left
  · have hres : Hid (Md.insideB l vs = false) := Md.inside_no (.inl hl)
    have hlI : ((vs.length : Int) != (l.length : Int)) = true := by rw [bne_iff_ne]; omega
    go_enter Try.func41, Try.ntmps41
    go_wp2
    go_ret
    exact ⟨ret_bool hres.out.symm, Below.refl _ _⟩
  have HL : Hid (vs.length = l.length) := hl
  have hlI : ((vs.length : Int) != (l.length : Int)) = false := by rw [bne_eq_false_iff_eq]; omega
  clear hl
  go_enter Try.func41, Try.ntmps41
  go_wp2
  go_loopw [14] (fun iv wr => ∃ k : Nat, iv = .int .i64 (k : Int) ∧ k ≤ l.length ∧ Hid (∀ j (h1 : j < l.length) (h2 : j < vs.length), j < k → l[j].lo ≤ vs[j] ∧ vs[j] ≤ l[j].hi) ∧ Hid (Below w.heap.size w wr)) (fun iv _ => l.length - (intOf iv).toNat)
  case atStart => exact ⟨0, rfl, Nat.zero_le _, fun j _ _ h => absurd h (Nat.not_lt_zero _), Below.refl _ _⟩
  case round =>
    obtain ⟨k, rfl, hk, hA, hR⟩ := hrel
    by_cases hlt : k < l.length
    · have hkI : (k : Int) < (l.length : Int) := by omega
      have hkv : k < vs.length := by have := HL.out; omega
      have hkvI : (k : Int) < (vs.length : Int) := by omega
      obtain ⟨b, off, rfl, hb, hc⟩ := HC.out (by omega)
      obtain ⟨b2, o2, rfl, hb2, hc2⟩ := HX.out (by omega)
      obtain ⟨d0, d1, d2⟩ := hc k hlt
      have e0 := (hR.out.cell (p := ⟨b, off + k * 3, none⟩) hb).trans d0
      have e1 := (hR.out.cell (p := ⟨b, off + k * 3 + 1, none⟩) hb).trans d1
      have e2 := (hR.out.cell (p := ⟨b, off + k * 3 + 2, none⟩) hb).trans d2
      have e3 := (hR.out.cell (p := ⟨b2, o2 + k, none⟩) hb2).trans (hc2 k hkv)
      clear hc d0 d1 d2 hc2
      have HNo : Hid (¬ (l[k].lo ≤ vs[k] ∧ vs[k] ≤ l[k].hi) → Md.insideB l vs = false) := fun h => Md.inside_no (.inr ⟨k, hlt, hkv, h⟩)
      have HYes : Hid (l[k].lo ≤ vs[k] ∧ vs[k] ≤ l[k].hi → ∀ j (h1 : j < l.length) (h2 : j < vs.length), j < k + 1 → l[j].lo ≤ vs[j] ∧ vs[j] ≤ l[j].hi) := fun h j h1 h2 hj => by
        by_cases hjk : j < k
        · exact hA.out j h1 h2 hjk
        · obtain rfl : j = k := by omega
          exact h
      generalize l[k] = v at *
      generalize vs[k] = x at *
      obtain ⟨V, hV⟩ : ∃ V, wr.alloc (.cells #[.string v.name, .int .i64 v.lo, .int .i64 v.hi] 37) = V := ⟨_, rfl⟩
      have hbV : Below wr.heap.size wr V := by rw [← hV]; exact (Below.refl _ _).alloc (Nat.le_refl _) _
      have q1 : V.cell? ⟨wr.heap.size, 1, none⟩ = some (.int .i64 v.lo) := by rw [← hV]; simp
      have q2 : V.cell? ⟨wr.heap.size, 2, none⟩ = some (.int .i64 v.hi) := by rw [← hV]; simp
      have q3 := one_next hbV e3
      have HRV : Hid (Below w.heap.size w V) := hR.out.trans (hbV.mono hR.out.size)
      clear hbV
      by_cases h1 : x < v.lo
      · have hres : Hid (Md.insideB l vs = false) := HNo.out (by omega)
        have h1B : decide (x < v.lo) = true := by simpa using h1
        go_wp2_with fail
        go_quiet (fail)
        go_wp2
        go_ret
        exact ⟨ret_bool hres.out.symm, below_drewN HRV.out _⟩
      have h1B : decide (x < v.lo) = false := by simpa using h1
      by_cases h2 : v.hi < x
      · have hres : Hid (Md.insideB l vs = false) := HNo.out (by omega)
        have h2B : decide (v.hi < x) = true := by simpa using h2
        go_wp2_with fail
        go_quiet (fail)
        go_wp2
        go_ret
        exact ⟨ret_bool hres.out.symm, below_drewN HRV.out _⟩
      · have h2B : decide (v.hi < x) = false := by simpa using h2
        have hnx := HYes.out ⟨by omega, by omega⟩
        have HNX : Hid (∀ j (h1 : j < l.length) (h2 : j < vs.length), j < k + 1 → l[j].lo ≤ vs[j] ∧ vs[j] ≤ l[j].hi) := hnx
        clear hnx
        go_wp2_with fail
        go_quiet (fail)
        go_wp2
        go_roundw
        case rel => exact ⟨k + 1, by go_num, by omega, HNX, below_drewN HRV.out _⟩
        case measure => simp [intOf]; omega
    · have hkI : ¬ (k : Int) < (l.length : Int) := by omega
      have hres : Hid (Md.insideB l vs = true) := Md.inside_iff.2 ⟨HL.out, fun j h1 h2 => hA.out j h1 h2 (by omega)⟩
      go_wp2_with fail
      go_ret
      exact ⟨ret_bool hres.out.symm, hR.out⟩

theorem Md.worth_no {m : Md.Mo} {vs : List Int} (h : Md.rightB m = false ∨ vs.length ≠ m.vars.length ∨ vs.all Md.numB = false) : Md.worth m vs = 0 := by
  unfold Md.worth
  rw [if_neg]
  rintro ⟨h1, h2, h3⟩
  rcases h with h | h | h
  · simp [Md.rightB, h1] at h
  · exact h h2
  · rw [h] at h3; cases h3
theorem Md.worth_yes {m : Md.Mo} {vs : List Int} (h1 : Md.rightB m = true) (h2 : vs.length = m.vars.length) (h3 : vs.all Md.numB = true) : Md.worth m vs = Md.sum m.goal vs := by
  unfold Md.worth
  rw [if_pos ⟨by simpa [Md.rightB] using h1, h2, h3⟩]

set_option maxRecDepth 10000 in
set_option maxHeartbeats 1000000 in
theorem worth_any (m : Md.Mo) (vv vc vg vx : Value) (vs : List Int) (w : World) (h : MoAt w m vv vc vg) (hx : IntsAt w vx vs) : Calls Try.prog 9 #[moVal m vv vc vg, vx] w fun e w' => e = .returned (.int .i64 (Md.worth m vs)) ∧ Below w.heap.size w w' := by
  obtain ⟨W, hW⟩ : ∃ W, w.alloc (.cells #[vv, vc, .bool m.has, vg] 26) = W := ⟨_, rfl⟩
  have hbW : Below w.heap.size w W := by rw [← hW]; exact (Below.refl _ _).alloc (Nat.le_refl _) _
  have hN : W.heap[w.heap.size]? = some (.cells #[vv, vc, .bool m.has, vg] 26) := by rw [← hW]; exact heap_alloc_new w _
  have HB : Hid (Below w.heap.size w W) := hbW
  have HM : Hid (∀ w', Below W.heap.size W w' → MoAt w' m vv vc vg) := fun w' hb => (h.below hbW).below hb
  have HN : Hid (∀ w', Below W.heap.size W w' → w'.heap[w.heap.size]? = some (.cells #[vv, vc, .bool m.has, vg] 26)) := fun w' hb => (hb.block _ (Array.getElem?_eq_some_iff.1 hN).1).trans hN
  have HNL : Hid (w.heap.size < W.heap.size) := (Array.getElem?_eq_some_iff.1 hN).1
  obtain ⟨va, vp, rfl, hvm⟩ := h.v.form
  obtain ⟨ca, cp, rfl, hcm⟩ := h.c.form
  obtain ⟨ga, gp, rfl, hgm⟩ := h.g.form
  unfold maxLen at hvm hcm hgm
  obtain ⟨⟨p0, p1, p2, p3⟩, _⟩ := box4 hN
  have H42 : Hid (Calls Try.prog 26 #[.agg #[.slice va m.vars.length vp, .slice ca m.cons.length cp, .bool m.has, .slice ga m.goal.length gp]] W fun e w' => e = .returned (.bool (Md.rightB m)) ∧ Below W.heap.size W w') := right_any m _ _ _ W (HM.out W (Below.refl _ _))
  have HX : Hid (∀ w', Below W.heap.size W w' → IntsAt w' vx vs) := fun w' hb => (hx.below hbW).below hb
  obtain ⟨xa, xc, rfl, hxm⟩ := hx.form
  unfold moVal
  clear h hbW hN hx
  cases hr : Md.rightB m
  · have hres : Hid (Md.worth m vs = 0) := Md.worth_no (.inl hr)
    rw [hr] at H42
    clear hr
    go_enter Try.func9, Try.ntmps9
    go_wp2_with (go_at_call 26; refine calls_at H42.out (by with_reducible rfl) (by with_reducible rfl) ?_; rintro e w1 ⟨rfl, hb1⟩)
    go_ret
    exact ⟨ret_int hres.out.symm, HB.out.trans (hb1.mono HB.out.size)⟩
  have HR : Hid (Md.rightB m = true) := hr
  rw [hr] at H42
  clear hr
  by_cases hl : vs.length = m.vars.length
  rotate_left
  · have hres : Hid (Md.worth m vs = 0) := Md.worth_no (.inr (.inl hl))
    have hlI : ((vs.length : Int) != (m.vars.length : Int)) = true := by rw [bne_iff_ne]; omega
    go_enter Try.func9, Try.ntmps9
    go_wp2_with (go_at_call 26; refine calls_at H42.out (by with_reducible rfl) (by with_reducible rfl) ?_; rintro e w1 ⟨rfl, hb1⟩; have HB1 : Hid (Below W.heap.size W w1) := hb1; clear hb1 p0 p1 p2 p3; obtain ⟨⟨p0, p1, p2, p3⟩, _⟩ := box4 (HN.out _ HB1.out))
    go_ret
    exact ⟨ret_int hres.out.symm, HB.out.trans (HB1.out.mono HB.out.size)⟩
  have hlI : ((vs.length : Int) != (m.vars.length : Int)) = false := by rw [bne_eq_false_iff_eq]; omega
  have HL : Hid (vs.length = m.vars.length) := hl
  clear hl
  go_enter Try.func9, Try.ntmps9
  go_wp2_with (first | (go_at_call 26; refine calls_at H42.out (by with_reducible rfl) (by with_reducible rfl) ?_; rintro e w1 ⟨rfl, hb1⟩; have HB1 : Hid (Below W.heap.size W w1) := hb1; clear hb1 p0 p1 p2 p3; obtain ⟨⟨p0, p1, p2, p3⟩, _⟩ := box4 (HN.out _ HB1.out)) | fail)
  refine (areNumbers_any _ vs _ (HX.out _ HB1.out)).mono ?_
  rintro e w' ⟨rfl, hww⟩
  rw [hww]
  clear hww
  cases hn : vs.all Md.numB
  · have hres : Hid (Md.worth m vs = 0) := Md.worth_no (.inr (.inr hn))
    clear hn
    go_wp2_with fail
    go_ret
    exact ⟨ret_int hres.out.symm, HB.out.trans (HB1.out.mono HB.out.size)⟩
  have hres : Hid (Md.worth m vs = Md.sum m.goal vs) := Md.worth_yes HR.out HL.out hn
  have hg := Md.goal_of (Md.rightB_of HR.out).goal
  have H52 : Hid (Calls Try.prog 28 #[.slice ga m.goal.length gp, .slice xa vs.length xc] w1 fun e w' => e = .returned (.int .i64 (Md.sum m.goal vs)) ∧ Below w1.heap.size w1 w') := sum_any _ _ m.goal vs w1 (HM.out _ HB1.out).g (HX.out _ HB1.out) hn (fun x hx => by rw [HL.out]; exact hg.2.2.1 x hx) (fun x hx => (hg.2.2.2 x hx).2) hg.2.1
  clear hn hg
  go_wp2_with (go_at_call 28; refine calls_at H52.out (by with_reducible rfl) (by with_reducible rfl) ?_; rintro e w2 ⟨rfl, hb2⟩)
  go_ret
  exact ⟨ret_int hres.out.symm, (HB.out.trans (HB1.out.mono HB.out.size)).trans (hb2.mono (HB.out.trans (HB1.out.mono HB.out.size)).size)⟩
end Go.Proofs.Ytmhfabnpfkkbcaa
