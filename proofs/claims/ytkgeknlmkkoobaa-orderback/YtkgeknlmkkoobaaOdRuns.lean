/-
  Put together: OdRun, OdTold, OdKinds.
-/
import Derived.Test.YtkgeknlmkkoobaaOdLists
import Derived.Test.YtkgeknlmkkoobaaMdV5
import Derived.Test.YtkgeknlmkkoobaaMdReg
import Derived.Deep.QuietTactic
import Derived.BigQuiet
import Derived.Deep.RegionHeld3
namespace Go.Proofs.Ytkgeknlmkkoobaa
open Go.RowKit

def runVal (r : Od.Run) : Value := .agg #[.int .i64 r.a, .int .i64 r.f, .int .i64 r.t]
theorem box3 {w : World} {N : Nat} {a0 a1 a2 : Value} {t : TypeId} (h : w.heap[N]? = some (.cells #[a0, a1, a2] t (0, 0))) : (w.cell? ⟨N, 0, none⟩ = some a0 ∧ w.cell? ⟨N, 1, none⟩ = some a1 ∧ w.cell? ⟨N, 2, none⟩ = some a2) ∧ ∀ j, w.frozen? ⟨N, j, none⟩ = false := by
  refine ⟨⟨?_, ?_, ?_⟩, fun j => ?_⟩ <;> simp [World.cell?, World.frozen?, h]

set_option maxHeartbeats 400000 in
theorem size_any (r : Od.Run) (w : World) (h : r.Fit) : Calls Try.prog 46 #[runVal r] w fun e w' => e = .returned (.int .i64 r.size) ∧ Below w.heap.size w w' := by
  obtain ⟨a, f, t⟩ := r
  obtain ⟨a0, a1, f0, f1, t0, t1, s0⟩ := h
  simp only at a0 a1 f0 f1 t0 t1 s0
  have h1 : IntKind.i64.wrap (t - f) = t - f := wrap_ok (by omega) (by omega)
  have h2 : IntKind.i64.wrap (t - f + 1) = t - f + 1 := wrap_ok (by omega) (by omega)
  unfold runVal Od.Run.size
  simp only
  go_enter Try.func46, Try.ntmps46
  go_wp2
  go_ret
  exact ⟨rfl, (Below.refl _ _).alloc (Nat.le_refl _) _⟩

set_option maxHeartbeats 400000 in
theorem least_any (r : Od.Run) (w : World) (h : r.Fit) : Calls Try.prog 44 #[runVal r] w fun e w' => e = .returned (.int .i64 (r.f - 1)) ∧ Below w.heap.size w w' := by
  obtain ⟨a, f, t⟩ := r
  obtain ⟨a0, a1, f0, f1, t0, t1, s0⟩ := h
  simp only at a0 a1 f0 f1 t0 t1 s0
  have h1 : IntKind.i64.wrap (f - 1) = f - 1 := wrap_ok (by omega) (by omega)
  unfold runVal
  simp only
  go_enter Try.func44, Try.ntmps44
  go_wp2
  go_ret
  exact ⟨rfl, (Below.refl _ _).alloc (Nat.le_refl _) _⟩

theorem ret_two {a b a' b' : Int} (h : (a, b) = (a', b')) : Ending.returned (.tuple #[.int .i64 a, .int .i64 b]) = .returned (.tuple #[.int .i64 a', .int .i64 b']) := by
  injection h with h1 h2
  rw [h1, h2]
def pairVal (p : Int × Int) : Value := .tuple #[.int .i64 p.1, .int .i64 p.2]
def toldVal (p : Int × Bool) : Value := .tuple #[.int .i64 p.1, .bool p.2]

set_option maxHeartbeats 400000 in
theorem number_any (r : Od.Run) (v : Int) (w : World) (h : r.Fit) : Calls Try.prog 45 #[runVal r, .int .i64 v] w fun e w' => e = .returned (pairVal (r.number v)) ∧ Below w.heap.size w w' := by
  have HR : Hid (∀ p, r.number v = p → pairVal (r.number v) = pairVal p) := fun p h => by rw [h]
  have HO : Hid (v < r.f ∨ r.t < v → r.number v = (0, 3)) := fun h => Od.number_out h
  have HI : Hid (r.f ≤ v → v ≤ r.t → r.number v = (r.a + v - r.f + 1, 1)) := fun h1 h2 => Od.number_in h1 h2
  generalize r.number v = p at *
  obtain ⟨a, f, t⟩ := r
  obtain ⟨a0, a1, f0, f1, t0, t1, s0⟩ := h
  simp only at a0 a1 f0 f1 t0 t1 s0 HO HI
  unfold runVal
  simp only
  by_cases c1 : v < f
  · have hp := HO.out (.inl c1)
    subst hp
    clear HI HO HR
    go_enter Try.func45, Try.ntmps45
    go_wp2
    go_ret2
    exact ⟨rfl, (Below.refl _ _).alloc (Nat.le_refl _) _⟩
  · by_cases c2 : t < v
    · have hp := HO.out (.inr c2)
      subst hp
      clear HI HO HR
      go_enter Try.func45, Try.ntmps45
      go_wp2
      go_ret2
      exact ⟨rfl, (Below.refl _ _).alloc (Nat.le_refl _) _⟩
    · have hp := HI.out (by omega) (by omega)
      have h1 : IntKind.i64.wrap (a + v) = a + v := wrap_ok (by omega) (by omega)
      have h2 : IntKind.i64.wrap (a + v - f) = a + v - f := wrap_ok (by omega) (by omega)
      have h3 : IntKind.i64.wrap (a + v - f + 1) = a + v - f + 1 := wrap_ok (by omega) (by omega)
      subst hp
      clear HI HO HR
      go_enter Try.func45, Try.ntmps45
      go_wp2
      go_ret2
      exact ⟨rfl, (Below.refl _ _).alloc (Nat.le_refl _) _⟩
end Go.Proofs.Ytkgeknlmkkoobaa

namespace Go.Proofs.Ytkgeknlmkkoobaa
open Go.RowKit

theorem Bx3.next {V w1 w2 : World} {N : Nat} {a0 a1 a2 : Value} (h : w1.cell? ⟨N, 0, none⟩ = some a0 ∧ w1.cell? ⟨N, 1, none⟩ = some a1 ∧ w1.cell? ⟨N, 2, none⟩ = some a2 ∧ Below V.heap.size V w1) (hb : Below w1.heap.size w1 w2) : w2.cell? ⟨N, 0, none⟩ = some a0 ∧ w2.cell? ⟨N, 1, none⟩ = some a1 ∧ w2.cell? ⟨N, 2, none⟩ = some a2 ∧ Below V.heap.size V w2 :=
  ⟨one_next hb h.1, one_next hb h.2.1, one_next hb h.2.2.1, h.2.2.2.trans (hb.mono h.2.2.2.size)⟩

set_option maxHeartbeats 1000000 in
theorem told_any (r : Od.Run) (n : Int) (w : World) (h : r.Fit) : Calls Try.prog 28 #[runVal r, .int .i64 n] w fun e w' => e = .returned (toldVal (r.told n)) ∧ Below w.heap.size w w' := by
  have HO : Hid (n ≤ r.a ∨ r.a + (r.t - r.f + 1) < n → r.told n = (0, false)) := fun h => Od.told_out h
  have HI : Hid (r.a < n → n ≤ r.a + (r.t - r.f + 1) → r.told n = (r.f + n - r.a - 1, true)) := fun h1 h2 => Od.told_in h1 h2
  have HS : Hid (∀ w, Calls Try.prog 46 #[runVal r] w fun e w' => e = .returned (.int .i64 r.size) ∧ Below w.heap.size w w') := fun w => size_any r w h
  generalize r.told n = p at *
  unfold Od.Run.size runVal at HS
  obtain ⟨a, f, t⟩ := r
  obtain ⟨a0, a1, f0, f1, t0, t1, s0⟩ := h
  simp only at a0 a1 f0 f1 t0 t1 s0 HO HI HS
  unfold runVal
  simp only
  obtain ⟨W, hW⟩ : ∃ W, w.alloc (.cells #[.int .i64 a, .int .i64 f, .int .i64 t] 72) = W := ⟨_, rfl⟩
  have hbW : Below w.heap.size w W := by rw [← hW]; exact (Below.refl _ _).alloc (Nat.le_refl _) _
  have hN : W.heap[w.heap.size]? = some (.cells #[.int .i64 a, .int .i64 f, .int .i64 t] 72) := by rw [← hW]; exact heap_alloc_new w _
  have HB : Hid (Below w.heap.size w W) := hbW
  obtain ⟨⟨p0, p1, p2⟩, _⟩ := box3 hN
  have hS0 : Hid (W.cell? ⟨w.heap.size, 0, none⟩ = some (.int .i64 a) ∧ W.cell? ⟨w.heap.size, 1, none⟩ = some (.int .i64 f) ∧ W.cell? ⟨w.heap.size, 2, none⟩ = some (.int .i64 t) ∧ Below W.heap.size W W) := ⟨p0, p1, p2, Below.refl _ _⟩
  clear hbW hN
  by_cases c1 : n ≤ a
  · have hp := HO.out (.inl c1)
    subst hp
    clear HI HO HS
    go_enter Try.func28, Try.ntmps28
    have hd : decide (n ≤ a) = true := decide_eq_true c1
    go_wp2_with fail
    go_quiet (fail)
    go_wp2_with fail
    go_ret2
    exact ⟨rfl, below_drewN HB.out _⟩
  · have hd : decide (n ≤ a) = false := decide_eq_false c1
    have h0 : IntKind.i64.wrap (a + (t - f + 1)) = a + (t - f + 1) := wrap_ok (by omega) (by omega)
    go_enter Try.func28, Try.ntmps28
    go_wp2_with fail
    go_region_held3 (fun w' => w'.cell? ⟨w.heap.size, 0, none⟩ = some (.int .i64 a) ∧ w'.cell? ⟨w.heap.size, 1, none⟩ = some (.int .i64 f) ∧ w'.cell? ⟨w.heap.size, 2, none⟩ = some (.int .i64 t) ∧ Below W.heap.size W w')
      (first | exact Bx3.next hS0.out (Below.refl _ _).drew | exact Bx3.next (by assumption) (by assumption) | assumption)
      (first | (go_at_call 46; refine calls_at (HS.out _) (by with_reducible rfl) (by with_reducible rfl) ?_; rintro e w' ⟨rfl, hb⟩))
    rename_i hHeld
    have HH : Hid (Below W.heap.size W w') := hHeld.2.2.2
    obtain ⟨p0, p1, p2, _⟩ := hHeld
    by_cases c2 : a + (t - f + 1) < n
    · have hp := HO.out (.inr c2)
      subst hp
      clear HI HO HS
      go_wp2_with fail
      go_ret2
      exact ⟨rfl, HB.out.trans (HH.out.mono HB.out.size)⟩
    · have hp := HI.out (by omega) (by omega)
      have h1 : IntKind.i64.wrap (f + n) = f + n := wrap_ok (by omega) (by omega)
      have h2 : IntKind.i64.wrap (f + n - a) = f + n - a := wrap_ok (by omega) (by omega)
      have h3 : IntKind.i64.wrap (f + n - a - 1) = f + n - a - 1 := wrap_ok (by omega) (by omega)
      subst hp
      clear HI HO HS
      go_wp2_with fail
      go_ret2
      exact ⟨rfl, HB.out.trans (HH.out.mono HB.out.size)⟩
end Go.Proofs.Ytkgeknlmkkoobaa

namespace Go.Proofs.Ytkgeknlmkkoobaa
open Go.RowKit

set_option maxHeartbeats 1000000 in
theorem atLeast_any (r : Od.Run) (k : Int) (w : World) (h : r.Fit) : Calls Try.prog 25 #[runVal r, .int .i64 k] w fun e w' => e = .returned (pairVal (r.atLeast k)) ∧ Below w.heap.size w w' := by
  have HL : Hid (∀ w, Calls Try.prog 44 #[runVal r] w fun e w' => e = .returned (.int .i64 (r.f - 1)) ∧ Below w.heap.size w w') := fun w => least_any r w h
  have HM : Hid (∀ w, Calls Try.prog 45 #[runVal r, .int .i64 k] w fun e w' => e = .returned (pairVal (r.number k)) ∧ Below w.heap.size w w') := fun w => number_any r k w h
  have HO : Hid (k ≤ r.f - 1 → r.atLeast k = (0, 2)) := fun h => if_pos h
  have HI : Hid (¬ k ≤ r.f - 1 → r.atLeast k = r.number k) := fun h => if_neg h
  generalize r.atLeast k = p at *
  generalize r.number k = q at *
  unfold runVal at HL HM ⊢
  unfold pairVal at HM
  obtain ⟨a, f, t⟩ := r
  simp only at HO HI HL HM ⊢
  obtain ⟨W, hW⟩ : ∃ W, w.alloc (.cells #[.int .i64 a, .int .i64 f, .int .i64 t] 74) = W := ⟨_, rfl⟩
  have HB : Hid (Below w.heap.size w W) := by show Below _ _ _; rw [← hW]; exact (Below.refl _ _).alloc (Nat.le_refl _) _
  have hN : W.heap[w.heap.size]? = some (.cells #[.int .i64 a, .int .i64 f, .int .i64 t] 74) := by rw [← hW]; exact heap_alloc_new w _
  have HN : Hid (∀ w', Below W.heap.size W w' → w'.heap[w.heap.size]? = some (.cells #[.int .i64 a, .int .i64 f, .int .i64 t] 74)) := fun w' hb => (hb.block _ (Array.getElem?_eq_some_iff.1 hN).1).trans hN
  obtain ⟨⟨p0, p1, p2⟩, _⟩ := box3 hN
  clear hN h
  go_enter Try.func25, Try.ntmps25
  go_wp2_with fail
  refine calls_at (HL.out _) (by with_reducible rfl) (by with_reducible rfl) ?_
  rintro e w1 ⟨rfl, hb1⟩
  have HB1 : Hid (Below W.heap.size W w1) := hb1
  obtain ⟨⟨q0, q1, q2⟩, _⟩ := box3 (HN.out _ hb1)
  clear hb1 p0 p1 p2
  by_cases c : k ≤ f - 1
  · have hp := HO.out c
    subst hp
    clear HO HI
    go_wp2_with fail
    go_ret2
    exact ⟨rfl, HB.out.trans (HB1.out.mono HB.out.size)⟩
  · have hp := HI.out (by omega)
    subst hp
    clear HO HI
    go_wp2_with fail
    refine calls_at (HM.out _) (by with_reducible rfl) (by with_reducible rfl) ?_
    rintro e w2 ⟨rfl, hb2⟩
    go_wp2_with fail
    go_ret2
    exact ⟨rfl, HB.out.trans ((HB1.out.trans (hb2.mono HB1.out.size)).mono HB.out.size)⟩

set_option maxHeartbeats 1000000 in
theorem is_any (r : Od.Run) (k : Int) (w : World) (h : r.Fit) : Calls Try.prog 29 #[runVal r, .int .i64 k] w fun e w' => e = .returned (pairVal (r.is k)) ∧ Below w.heap.size w w' := by
  have HL : Hid (∀ w, Calls Try.prog 46 #[runVal r] w fun e w' => e = .returned (.int .i64 r.size) ∧ Below w.heap.size w w') := fun w => size_any r w h
  have HM : Hid (∀ w, Calls Try.prog 45 #[runVal r, .int .i64 k] w fun e w' => e = .returned (pairVal (r.number k)) ∧ Below w.heap.size w w') := fun w => number_any r k w h
  have HO : Hid (r.size = 0 → r.is k = (0, 0)) := fun h => if_pos h
  have HI : Hid (¬ r.size = 0 → r.is k = r.number k) := fun h => if_neg h
  generalize r.is k = p at *
  generalize r.number k = q at *
  generalize r.size = z at *
  unfold runVal at HL HM ⊢
  unfold pairVal at HM
  obtain ⟨a, f, t⟩ := r
  simp only at HO HI HL HM ⊢
  obtain ⟨W, hW⟩ : ∃ W, w.alloc (.cells #[.int .i64 a, .int .i64 f, .int .i64 t] 75) = W := ⟨_, rfl⟩
  have HB : Hid (Below w.heap.size w W) := by show Below _ _ _; rw [← hW]; exact (Below.refl _ _).alloc (Nat.le_refl _) _
  have hN : W.heap[w.heap.size]? = some (.cells #[.int .i64 a, .int .i64 f, .int .i64 t] 75) := by rw [← hW]; exact heap_alloc_new w _
  have HN : Hid (∀ w', Below W.heap.size W w' → w'.heap[w.heap.size]? = some (.cells #[.int .i64 a, .int .i64 f, .int .i64 t] 75)) := fun w' hb => (hb.block _ (Array.getElem?_eq_some_iff.1 hN).1).trans hN
  obtain ⟨⟨p0, p1, p2⟩, _⟩ := box3 hN
  clear hN h
  go_enter Try.func29, Try.ntmps29
  go_wp2_with fail
  refine calls_at (HL.out _) (by with_reducible rfl) (by with_reducible rfl) ?_
  rintro e w1 ⟨rfl, hb1⟩
  have HB1 : Hid (Below W.heap.size W w1) := hb1
  obtain ⟨⟨q0, q1, q2⟩, _⟩ := box3 (HN.out _ hb1)
  clear hb1 p0 p1 p2
  by_cases c : z = 0
  · have hp := HO.out c
    subst hp
    have hd : (z == 0) = true := by simpa using c
    clear HO HI c
    go_wp2_with fail
    go_ret2
    exact ⟨rfl, HB.out.trans (HB1.out.mono HB.out.size)⟩
  · have hp := HI.out c
    subst hp
    have hd : (z == 0) = false := by simpa using c
    clear HO HI
    go_wp2_with fail
    refine calls_at (HM.out _) (by with_reducible rfl) (by with_reducible rfl) ?_
    rintro e w2 ⟨rfl, hb2⟩
    go_wp2_with fail
    go_ret2
    exact ⟨rfl, HB.out.trans ((HB1.out.trans (hb2.mono HB1.out.size)).mono HB.out.size)⟩

theorem box5 {w : World} {N : Nat} {a0 a1 a2 a3 a4 : Value} {t : TypeId} (h : w.heap[N]? = some (.cells #[a0, a1, a2, a3, a4] t (0, 0))) : (w.cell? ⟨N, 0, none⟩ = some a0 ∧ w.cell? ⟨N, 1, none⟩ = some a1 ∧ w.cell? ⟨N, 2, none⟩ = some a2 ∧ w.cell? ⟨N, 3, none⟩ = some a3 ∧ w.cell? ⟨N, 4, none⟩ = some a4) ∧ ∀ j, w.frozen? ⟨N, j, none⟩ = false := by
  refine ⟨⟨?_, ?_, ?_, ?_, ?_⟩, fun j => ?_⟩ <;> simp [World.cell?, World.frozen?, h]

set_option maxHeartbeats 1000000 in
theorem pick_any (r : Od.Run) (vx vr : Value) (k : Int) (w : World) (h : r.Fit) (hx : ∃ a n c, vx = .slice a n c) (hr : ∃ a n c, vr = .slice a n c) : Calls Try.prog 34 #[.agg #[.int .i64 r.a, .int .i64 r.f, .int .i64 r.t, vx, vr], .int .i64 k] w fun e w' => e = .returned (pairVal (r.pick k)) ∧ Below w.heap.size w w' := by
  obtain ⟨xa, xn, xc, rfl⟩ := hx
  obtain ⟨ra, rn, rc, rfl⟩ := hr
  have HM : Hid (∀ w, Calls Try.prog 45 #[runVal r, .int .i64 k] w fun e w' => e = .returned (pairVal (r.number k)) ∧ Below w.heap.size w w') := fun w => number_any r k w h
  have HO : Hid ((r.number k).2 = 1 → r.pick k = r.number k) := fun h => if_pos h
  have HI : Hid (¬ (r.number k).2 = 1 → r.pick k = (0, 0)) := fun h => if_neg h
  generalize r.pick k = p at *
  generalize r.number k = q at *
  obtain ⟨q1, q2⟩ := q
  unfold runVal at HM
  unfold pairVal at HM
  obtain ⟨a, f, t⟩ := r
  simp only at HO HI HM ⊢
  obtain ⟨W, hW⟩ : ∃ W, w.alloc (.cells #[.int .i64 a, .int .i64 f, .int .i64 t, .slice xa xn xc, .slice ra rn rc] 86) = W := ⟨_, rfl⟩
  have HB : Hid (Below w.heap.size w W) := by show Below _ _ _; rw [← hW]; exact (Below.refl _ _).alloc (Nat.le_refl _) _
  have hN : W.heap[w.heap.size]? = some (.cells #[.int .i64 a, .int .i64 f, .int .i64 t, .slice xa xn xc, .slice ra rn rc] 86) := by rw [← hW]; exact heap_alloc_new w _
  obtain ⟨⟨p0, p1, p2, p3, p4⟩, _⟩ := box5 hN
  clear hN h
  go_enter Try.func34, Try.ntmps34
  go_wp2_with fail
  refine calls_at (HM.out _) (by with_reducible rfl) (by with_reducible rfl) ?_
  rintro e w1 ⟨rfl, hb1⟩
  have HB1 : Hid (Below W.heap.size W w1) := hb1
  clear hb1 p0 p1 p2 p3 p4
  by_cases c : q2 = 1
  · have hp := HO.out c
    subst hp c
    clear HO HI
    go_wp2_with fail
    go_ret2
    exact ⟨rfl, HB.out.trans (HB1.out.mono HB.out.size)⟩
  · have hp := HI.out c
    subst hp
    have hd : (q2 == 1) = false := by simpa using c
    clear HO HI
    go_wp2_with fail
    go_ret2
    exact ⟨rfl, HB.out.trans (HB1.out.mono HB.out.size)⟩

def OwnOut (e : Ending) (b A Z : Nat) : Prop := ∃ off k, e = .returned (.slice (some ⟨b, off, none⟩) Z k) ∧ (0 < Z → off = A)
set_option maxHeartbeats 1000000 in
theorem own_any (r : Od.Run) (b n c : Nat) (w : World) (h : r.Fit) (hn : r.a + r.size ≤ (n : Int)) (hc : n ≤ c) (hm : n ≤ 1000000000000) : Calls Try.prog 47 #[runVal r, .slice (some ⟨b, 0, none⟩) n c] w fun e w' => OwnOut e b r.a.toNat r.size.toNat ∧ Below w.heap.size w w' := by
  have HL : Hid (∀ w, Calls Try.prog 46 #[runVal r] w fun e w' => e = .returned (.int .i64 r.size) ∧ Below w.heap.size w w') := fun w => size_any r w h
  obtain ⟨A, hA⟩ : ∃ A : Nat, r.a = (A : Int) := ⟨r.a.toNat, by have := h.a0; omega⟩
  obtain ⟨Z, hZ⟩ : ∃ Z : Nat, r.size = (Z : Int) := ⟨r.size.toNat, by have := h.s0; unfold Od.Run.size; omega⟩
  have ha1 := h.a1
  unfold runVal at HL ⊢
  obtain ⟨a, f, t⟩ := r
  rw [hZ] at HL ⊢ hn
  simp only at HL hA hn ha1 ⊢
  clear hZ h
  subst hA
  simp only [Int.toNat_natCast]
  have h0 : IntKind.i64.wrap ((A : Int) + (Z : Int)) = (A : Int) + (Z : Int) := wrap_ok (by omega) (by omega)
  obtain ⟨W, hW⟩ : ∃ W, w.alloc (.cells #[.int .i64 (A : Int), .int .i64 f, .int .i64 t] 72) = W := ⟨_, rfl⟩
  have HB : Hid (Below w.heap.size w W) := by show Below _ _ _; rw [← hW]; exact (Below.refl _ _).alloc (Nat.le_refl _) _
  have hN : W.heap[w.heap.size]? = some (.cells #[.int .i64 (A : Int), .int .i64 f, .int .i64 t] 72) := by rw [← hW]; exact heap_alloc_new w _
  obtain ⟨⟨p0, p1, p2⟩, _⟩ := box3 hN
  have hS0 : Hid (W.cell? ⟨w.heap.size, 0, none⟩ = some (.int .i64 (A : Int)) ∧ W.cell? ⟨w.heap.size, 1, none⟩ = some (.int .i64 f) ∧ W.cell? ⟨w.heap.size, 2, none⟩ = some (.int .i64 t) ∧ Below W.heap.size W W) := ⟨p0, p1, p2, Below.refl _ _⟩
  clear hN
  have hle0 : (0 : Int) ≤ (A : Int) := by omega
  have hle1 : (0 : Int) ≤ (A : Int) + (Z : Int) := by omega
  have hle : (A : Int) ≤ (A : Int) + (Z : Int) := by omega
  have hle2 : (A : Int) + (Z : Int) ≤ (c : Int) := by omega
  have hle3 : (A : Int) ≤ (c : Int) := by omega
  have e1 : ((A : Int) + (Z : Int)).toNat = A + Z := by omega
  have e2 : A + Z - A = Z := by omega
  by_cases hAc : A = c
  · have HZ : Hid (Z = 0) := by show _ = _; omega
    have hcc : c - A = 0 := by omega
    clear hAc
    go_enter Try.func47, Try.ntmps47
    go_wp2_with fail
    go_region_held3 (fun w' => w'.cell? ⟨w.heap.size, 0, none⟩ = some (.int .i64 (A : Int)) ∧ w'.cell? ⟨w.heap.size, 1, none⟩ = some (.int .i64 f) ∧ w'.cell? ⟨w.heap.size, 2, none⟩ = some (.int .i64 t) ∧ Below W.heap.size W w')
      (first | exact Bx3.next hS0.out (Below.refl _ _).drew | exact Bx3.next (by assumption) (by assumption) | assumption)
      (first | (go_at_call 46; refine calls_at (HL.out _) (by with_reducible rfl) (by with_reducible rfl) ?_; rintro e w' ⟨rfl, hb⟩))
    rename_i hHeld
    have HH : Hid (Below W.heap.size W w') := hHeld.2.2.2
    go_wp2_with fail
    go_ret
    exact ⟨⟨_, _, rfl, fun h => absurd h (by rw [HZ.out]; exact Nat.lt_irrefl _)⟩, HB.out.trans (HH.out.mono HB.out.size)⟩
  · have hcc : ((c - A : Nat) == 0) = false := by simp; omega
    have hcc2 : c - A ≠ 0 := by omega
    go_enter Try.func47, Try.ntmps47
    go_wp2_with fail
    go_region_held3 (fun w' => w'.cell? ⟨w.heap.size, 0, none⟩ = some (.int .i64 (A : Int)) ∧ w'.cell? ⟨w.heap.size, 1, none⟩ = some (.int .i64 f) ∧ w'.cell? ⟨w.heap.size, 2, none⟩ = some (.int .i64 t) ∧ Below W.heap.size W w')
      (first | exact Bx3.next hS0.out (Below.refl _ _).drew | exact Bx3.next (by assumption) (by assumption) | assumption)
      (first | (go_at_call 46; refine calls_at (HL.out _) (by with_reducible rfl) (by with_reducible rfl) ?_; rintro e w' ⟨rfl, hb⟩))
    rename_i hHeld
    have HH : Hid (Below W.heap.size W w') := hHeld.2.2.2
    go_wp2_with fail
    go_ret
    exact ⟨⟨_, _, rfl, fun _ => rfl⟩, HB.out.trans (HH.out.mono HB.out.size)⟩
end Go.Proofs.Ytkgeknlmkkoobaa
