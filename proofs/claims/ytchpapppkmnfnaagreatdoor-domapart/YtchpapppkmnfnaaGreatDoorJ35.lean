/-
  Put together: DmKn0, DmKnown, DmLight, DmOrdM.
-/
import Derived.Test.YtchpapppkmnfnaaGreatDoorJ34
import Derived.Laws.BitsAllLaws
namespace Go.Proofs.YtchpapppkmnfnaaGreatDoor
open Go.RowKit

/-- The example's problem, and its store step by step. -/
def kM : Md.Mo := ⟨[⟨⟨#[120]⟩, -2, 2⟩], [], false, []⟩
def k0 : St := ⟨[⟨-2, 31, 0⟩], [], 0⟩
def k1 : St := ⟨[⟨-2, 30, 0⟩], [], 0⟩
def k2 : St := ⟨[⟨-2, 26, 0⟩], [], 0⟩
def k3 : St := ⟨[⟨-2, 26, 0⟩], [⟨-2, 26, 0⟩], 1⟩
def k4 : St := ⟨[⟨-2, 2, 0⟩], [⟨-2, 26, 0⟩], 1⟩
def k6 : St := ⟨[⟨-2, 2, 0⟩], [⟨-2, 26, 0⟩, ⟨-2, 2, 0⟩], 2⟩
def k8 : St := ⟨[⟨-2, 26, 0⟩], [], 0⟩
theorem kn0 : newS kM = k0 := by kernel_rfl
theorem kn1 : k0.cut 1 0 (-1) = k1 ∧ k0.went 1 0 (-1) = true ∧ k0.may 1 0 (-1) = true := ⟨by kernel_rfl, by kernel_rfl, by kernel_rfl⟩
theorem kn2 : k1.cut 3 0 0 = k2 ∧ k1.went 3 0 0 = true ∧ k1.may 3 0 0 = true := ⟨by kernel_rfl, by kernel_rfl, by kernel_rfl⟩
theorem kn3 : k2.mark = k3 := by kernel_rfl
theorem kn4 : k3.cut 2 0 0 = k4 ∧ k3.went 2 0 0 = true ∧ k3.may 2 0 0 = true := ⟨by kernel_rfl, by kernel_rfl, by kernel_rfl⟩
theorem kn5 : k4.cut 3 0 (-1) = k4 ∧ k4.went 3 0 (-1) = false ∧ k4.may 3 0 (-1) = false := ⟨by kernel_rfl, by kernel_rfl, by kernel_rfl⟩
theorem kn6 : k4.mark = k6 := by kernel_rfl
theorem kn7 : k6.back 2 = k6 ∧ k6.backB 2 = false := ⟨by kernel_rfl, by kernel_rfl⟩
theorem kn8 : k6.back 0 = k8 ∧ k6.backB 0 = true := ⟨by kernel_rfl, by kernel_rfl⟩
theorem kv9 : openL k8.now k8.now.length = [0] := by kernel_rfl

/-- A cut, a mark, a way back of the example. -/
theorem k_cut {s t : St} {k v : Int} {a b : Bool} (hc : s.cut k 0 v = t ∧ s.went k 0 v = a ∧ s.may k 0 v = b) {B p : Nat} {nv mv : Value} {w : World} (h : StAt B w p nv mv s) : Calls Tryz.prog 21 #[.pointer (some ⟨p, 0, none⟩), .agg #[.int .i64 k, .int .i64 0, .int .i64 v]] w fun e w' => e = .returned (.tuple #[.bool a, .bool b]) ∧ StAt B w' p nv mv t ∧ Stp B p nv mv w w' := by
  obtain ⟨rfl, rfl, rfl⟩ := hc
  exact cut_any B p nv mv s k 0 v w h
theorem k_mark {s t : St} {n : Int} (hm : s.mark = t) (hn : (s.marks : Int) = n) (hk : s.marks + 1 ≤ 10000) {B p : Nat} {nv mv : Value} {w : World} (h : StAt B w p nv mv s) : Calls Tryz.prog 22 #[.pointer (some ⟨p, 0, none⟩)] w fun e w' => ∃ mv', e = .returned (.int .i64 n) ∧ StAt B w' p nv mv' t ∧ Below B w w' := by
  subst hm hn
  exact (mark_any B p nv mv s w h hk).mono fun e w' ⟨mv', h1, h2, h3, _⟩ => ⟨mv', h1, h2, h3.below⟩
theorem k_back {s t : St} {k : Int} {a : Bool} (hb : s.back k = t ∧ s.backB k = a) {B p : Nat} {nv mv : Value} {w : World} (h : StAt B w p nv mv s) : Calls Tryz.prog 26 #[.pointer (some ⟨p, 0, none⟩), .int .i64 k] w fun e w' => ∃ mv', e = .returned (.bool a) ∧ StAt B w' p nv mv' t ∧ Below B w w' := by
  obtain ⟨rfl, rfl⟩ := hb
  exact (back_any B p nv mv s k w h).mono fun e w' ⟨mv', h1, h2, h3, _⟩ => ⟨mv', h1, h2, h3.below⟩

theorem kM_at {W : World} {N : Nat} (h : W.heap[N]? = some (.cells #[.string ⟨#[120]⟩, .int .i64 (-2), .int .i64 2] 34 (0, 0))) : MoAt W kM (.slice (some ⟨N, 0, none⟩) 1 1) (.slice none 0 0) (.slice none 0 0) := by
  refine ⟨⟨_, 1, rfl, by unfold maxLen; decide, ?_, fun _ => ⟨N, 0, rfl, (Array.getElem?_eq_some_iff.1 h).1, fun j hj => ?_⟩⟩, ?_, ⟨none, 0, rfl, Nat.zero_le _, fun h0 => absurd h0 (Nat.not_lt_zero _)⟩, ?_⟩
  · intro x hx
    rw [List.mem_singleton.1 hx]
    show (1 : Nat) ≤ maxLen
    unfold maxLen
    decide
  · match j, hj with
    | 0, _ => exact ⟨cell_of h 0, cell_of h 1, cell_of h 2⟩
  · intro a n cp e
    injection e with _ e1 e2
    omega
  · exact ⟨none, 0, rfl, Nat.zero_le _, fun h0 => absurd h0 (Nat.not_lt_zero _)⟩
/-- A literal list. -/
theorem lit_row {W : World} {N : Nat} {L : List Int} {cs : Array Value} (h : W.heap[N]? = some (.cells cs 3 (0, 0))) (hc : cs = (L.map (.int .i64)).toArray) (hl : L.length ≤ 1000) : W.ownsRow 0 3 1 (.slice (some ⟨N, 0, none⟩) L.length L.length) L.length (L.map (.int .i64)) := by
  subst hc
  exact ⟨by simp, .inr ⟨N, L.length, _, rfl, Nat.zero_le _, h, Nat.le_refl _, by unfold maxLen; omega, by simp, by simp [List.take_of_length_le]⟩⟩

theorem k_size {s : St} {z : Int} (h0 : 0 < s.now.length) (hz : bSize s.now[0].a s.now[0].b = z) {B p : Nat} {nv mv : Value} {w : World} (h : StAt B w p nv mv s) : Calls Tryz.prog 20 #[.pointer (some ⟨p, 0, none⟩), .int .i64 0] w fun e w' => e = .returned (.int .i64 z) ∧ Below w.heap.size w w' := by
  subst hz
  exact size_in B p nv mv s 0 h0 w h
theorem k_lo {s : St} {z : Int} (h0 : 0 < s.now.length) (hz : s.now[0].f + bLow s.now[0].a s.now[0].b = z) {B p : Nat} {nv mv : Value} {w : World} (h : StAt B w p nv mv s) (hT : Tz w) : Calls Tryz.prog 24 #[.pointer (some ⟨p, 0, none⟩), .int .i64 0] w fun e w' => e = .returned (.int .i64 z) ∧ Below w.heap.size w w' := by
  subst hz
  exact lo_in B p nv mv s 0 h0 w h hT
theorem k_hi {s : St} {z : Int} (h0 : 0 < s.now.length) (hz : s.now[0].f + bHigh s.now[0].a s.now[0].b = z) {B p : Nat} {nv mv : Value} {w : World} (h : StAt B w p nv mv s) : Calls Tryz.prog 23 #[.pointer (some ⟨p, 0, none⟩), .int .i64 0] w fun e w' => e = .returned (.int .i64 z) ∧ Below w.heap.size w w' := by
  subst hz
  exact hi_in B p nv mv s 0 h0 w h
theorem k_has {s : St} {z : Bool} {v : Int} (h0 : 0 < s.now.length) (hz : dHas s.now[0].f s.now[0].a s.now[0].b v = z) {B p : Nat} {nv mv : Value} {w : World} (h : StAt B w p nv mv s) : Calls Tryz.prog 25 #[.pointer (some ⟨p, 0, none⟩), .int .i64 0, .int .i64 v] w fun e w' => e = .returned (.bool z) ∧ Below w.heap.size w w' := by
  subst hz
  exact has_in B p nv mv s 0 h0 v w h
theorem k_vals {s : St} {L : List Int} (h0 : 0 < s.now.length) (hz : dAll s.now[0].f s.now[0].a s.now[0].b = L) {B p : Nat} {nv mv : Value} {w : World} (h : StAt B w p nv mv s) (hT : Tz w) : Calls Tryz.prog 11 #[.pointer (some ⟨p, 0, none⟩), .int .i64 0] w (VsOut L w) := by
  subst hz
  exact values_in B p nv mv s 0 h0 w h hT
theorem k_open {s : St} {L : List Int} (hz : openL s.now s.now.length = L) {B p : Nat} {nv mv : Value} {w : World} (h : StAt B w p nv mv s) : Calls Tryz.prog 15 #[.pointer (some ⟨p, 0, none⟩)] w (VsOut L w) := by
  subst hz
  exact open_any B p nv mv s w h
theorem k_vars {s : St} {n : Int} (hz : (s.now.length : Int) = n) {B p : Nat} {nv mv : Value} {w : World} (h : StAt B w p nv mv s) : Calls Tryz.prog 19 #[.pointer (some ⟨p, 0, none⟩)] w fun e w' => e = .returned (.int .i64 n) ∧ w' = w := by
  subst hz
  exact vars_any B p nv mv s w h

section
variable {B p : Nat} {nv mv : Value} {w : World}
theorem q_vars (h : StAt B w p nv mv k0) : Calls Tryz.prog 19 #[.pointer (some ⟨p, 0, none⟩)] w fun e w' => e = .returned (.int .i64 1) ∧ w' = w := k_vars (s := k0) (n := 1) rfl h
theorem q_size (h : StAt B w p nv mv k0) : Calls Tryz.prog 20 #[.pointer (some ⟨p, 0, none⟩), .int .i64 0] w fun e w' => e = .returned (.int .i64 5) ∧ Below w.heap.size w w' := k_size (s := k0) (z := 5) (by decide) (by kernel_rfl) h
theorem q_kn1 (h : StAt B w p nv mv k0) : Calls Tryz.prog 21 #[.pointer (some ⟨p, 0, none⟩), .agg #[.int .i64 1, .int .i64 0, .int .i64 (-1)]] w fun e w' => e = .returned (.tuple #[.bool true, .bool true]) ∧ StAt B w' p nv mv k1 ∧ Stp B p nv mv w w' := k_cut kn1 h
theorem q_kn2 (h : StAt B w p nv mv k1) : Calls Tryz.prog 21 #[.pointer (some ⟨p, 0, none⟩), .agg #[.int .i64 3, .int .i64 0, .int .i64 0]] w fun e w' => e = .returned (.tuple #[.bool true, .bool true]) ∧ StAt B w' p nv mv k2 ∧ Stp B p nv mv w w' := k_cut kn2 h
theorem q_vals (h : StAt B w p nv mv k2) (hT : Tz w) : Calls Tryz.prog 11 #[.pointer (some ⟨p, 0, none⟩), .int .i64 0] w (VsOut [-1, 1, 2] w) := k_vals (s := k2) (L := [-1, 1, 2]) (by decide) (by kernel_rfl) h hT
theorem q_mark3 (h : StAt B w p nv mv k2) : Calls Tryz.prog 22 #[.pointer (some ⟨p, 0, none⟩)] w fun e w' => ∃ mv', e = .returned (.int .i64 0) ∧ StAt B w' p nv mv' k3 ∧ Below B w w' := k_mark (s := k2) (t := k3) (n := 0) kn3 rfl (by decide) h
theorem q_kn4 (h : StAt B w p nv mv k3) : Calls Tryz.prog 21 #[.pointer (some ⟨p, 0, none⟩), .agg #[.int .i64 2, .int .i64 0, .int .i64 0]] w fun e w' => e = .returned (.tuple #[.bool true, .bool true]) ∧ StAt B w' p nv mv k4 ∧ Stp B p nv mv w w' := k_cut kn4 h
theorem q_kn5 (h : StAt B w p nv mv k4) : Calls Tryz.prog 21 #[.pointer (some ⟨p, 0, none⟩), .agg #[.int .i64 3, .int .i64 0, .int .i64 (-1)]] w fun e w' => e = .returned (.tuple #[.bool false, .bool false]) ∧ StAt B w' p nv mv k4 ∧ Stp B p nv mv w w' := k_cut kn5 h
theorem q_hi (h : StAt B w p nv mv k4) : Calls Tryz.prog 23 #[.pointer (some ⟨p, 0, none⟩), .int .i64 0] w fun e w' => e = .returned (.int .i64 (-1)) ∧ Below w.heap.size w w' := k_hi (s := k4) (z := -1) (by decide) (by kernel_rfl) h
theorem q_lo (h : StAt B w p nv mv k4) (hT : Tz w) : Calls Tryz.prog 24 #[.pointer (some ⟨p, 0, none⟩), .int .i64 0] w fun e w' => e = .returned (.int .i64 (-1)) ∧ Below w.heap.size w w' := k_lo (s := k4) (z := -1) (by decide) (by kernel_rfl) h hT
theorem q_has4 (h : StAt B w p nv mv k4) : Calls Tryz.prog 25 #[.pointer (some ⟨p, 0, none⟩), .int .i64 0, .int .i64 2] w fun e w' => e = .returned (.bool false) ∧ Below w.heap.size w w' := k_has (s := k4) (z := false) (v := 2) (by decide) (by kernel_rfl) h
theorem q_mark6 (h : StAt B w p nv mv k4) : Calls Tryz.prog 22 #[.pointer (some ⟨p, 0, none⟩)] w fun e w' => ∃ mv', e = .returned (.int .i64 1) ∧ StAt B w' p nv mv' k6 ∧ Below B w w' := k_mark (s := k4) (t := k6) (n := 1) kn6 rfl (by decide) h
theorem q_back7 (h : StAt B w p nv mv k6) : Calls Tryz.prog 26 #[.pointer (some ⟨p, 0, none⟩), .int .i64 2] w fun e w' => ∃ mv', e = .returned (.bool false) ∧ StAt B w' p nv mv' k6 ∧ Below B w w' := k_back kn7 h
theorem q_back8 (h : StAt B w p nv mv k6) : Calls Tryz.prog 26 #[.pointer (some ⟨p, 0, none⟩), .int .i64 0] w fun e w' => ∃ mv', e = .returned (.bool true) ∧ StAt B w' p nv mv' k8 ∧ Below B w w' := k_back kn8 h
theorem q_has8 (h : StAt B w p nv mv k8) : Calls Tryz.prog 25 #[.pointer (some ⟨p, 0, none⟩), .int .i64 0, .int .i64 2] w fun e w' => e = .returned (.bool true) ∧ Below w.heap.size w w' := k_has (s := k8) (z := true) (v := 2) (by decide) (by kernel_rfl) h
theorem q_open (h : StAt B w p nv mv k8) : Calls Tryz.prog 15 #[.pointer (some ⟨p, 0, none⟩)] w (VsOut [0] w) := k_open kv9 h
theorem q_new {m : Md.Mo} {e : Ending} {w' : World} (hm : newS m = k0) (h : NewOut m w e w') : ∃ p nv mv, e = .returned (.pointer (some ⟨p, 0, none⟩)) ∧ StAt w.heap.size w' p nv mv k0 ∧ Below w.heap.size w w' := by
  obtain ⟨p, nv, mv, h1, h2, h3⟩ := h
  rw [hm] at h2
  exact ⟨p, nv, mv, h1, h2, h3⟩
end
end Go.Proofs.YtchpapppkmnfnaaGreatDoor

namespace Go.Proofs.YtchpapppkmnfnaaGreatDoor
open Go.RowKit

set_option maxRecDepth 10000 in
set_option maxHeartbeats 2000000 in
theorem known_any (w : World) (hT : Tz w) (hs : 0 < w.heap.size) : Calls Tryz.prog 4 #[] w fun e w' => e = .returned (.bool true) ∧ Below w.heap.size w w' := by
  obtain ⟨W, hW⟩ : ∃ W, w.alloc (.cells #[.string ⟨#[120]⟩, .int .i64 (-2), .int .i64 2] 34) = W := ⟨_, rfl⟩
  have hb0 : Below w.heap.size w W := by rw [← hW]; exact (Below.refl _ _).alloc (Nat.le_refl _) _
  have g0 : W.heap[w.heap.size]? = some (.cells #[.string ⟨#[120]⟩, .int .i64 (-2), .int .i64 2] 34 (0, 0)) := by rw [← hW]; exact heap_alloc_new w _
  have hsW : 0 < W.heap.size := Nat.lt_of_lt_of_le hs hb0.size
  have HB : Hid (Below w.heap.size w W) := hb0
  have HTz : Hid (∀ w', Below W.heap.size W w' → Tz w') := fun w' hb => (hT.below hb0 hs).below hb hsW
  have HNew : Hid (Calls Tryz.prog 7 #[.agg #[.slice (some ⟨w.heap.size, 0, none⟩) 1 1, .slice none 0 0, .bool false, .slice none 0 0]] W (fun e w' => ∃ p nv mv, e = .returned (.pointer (some ⟨p, 0, none⟩)) ∧ StAt W.heap.size w' p nv mv k0 ∧ Below W.heap.size W w')) := (new_any kM _ _ _ W (kM_at g0) hsW).mono fun e w' h => q_new kn0 h
  clear hb0 g0 hT
  go_enter Tryz.func4, Tryz.ntmps4
  go_wp2_with fail
  refine calls_at HNew.out (by with_reducible rfl) (by with_reducible rfl) ?_
  rintro e w1 ⟨p, nv, mv, rfl, hA1, hb1⟩
  have HA1 : Hid (StAt W.heap.size w1 p nv mv k0) := hA1
  have HB1 : Hid (Below W.heap.size W w1) := hb1
  clear hA1 hb1 hW
  go_wp2_with fail
  refine calls_at (q_vars HA1.out) (by with_reducible rfl) (by with_reducible rfl) ?_
  rintro e w2 ⟨rfl, rfl⟩
  have HA2 := HA1
  have HB2 := HB1
  go_wp2_with fail
  refine calls_at (q_size HA2.out) (by with_reducible rfl) (by with_reducible rfl) ?_
  rintro e w3 ⟨rfl, hb3⟩
  have HA3 : Hid (StAt W.heap.size w3 p nv mv k0) := HA2.out.below hb3
  have HB3 : Hid (Below W.heap.size W w3) := HB2.out.trans (hb3.mono HB2.out.size)
  clear hb3
  go_wp2_with fail
  refine calls_at (q_kn1 HA3.out) (by with_reducible rfl) (by with_reducible rfl) ?_
  rintro e w4 ⟨rfl, ha4, hs4⟩
  have HA4 : Hid (StAt W.heap.size w4 p nv mv k1) := ha4
  have HB4 : Hid (Below W.heap.size W w4) := HB3.out.trans hs4.below
  clear ha4 hs4
  go_wp2_with fail
  refine calls_at (q_kn2 HA4.out) (by with_reducible rfl) (by with_reducible rfl) ?_
  rintro e w5 ⟨rfl, ha5, hs5⟩
  have HA5 : Hid (StAt W.heap.size w5 p nv mv k2) := ha5
  have HB5 : Hid (Below W.heap.size W w5) := HB4.out.trans hs5.below
  clear ha5 hs5
  go_wp2_with fail
  refine calls_at (q_vals HA5.out (HTz.out _ HB5.out)) (by with_reducible rfl) (by with_reducible rfl) ?_
  rintro e w6 ⟨v6, rfl, ho6, hb6⟩
  have HA6 : Hid (StAt W.heap.size w6 p nv mv k2) := HA5.out.below hb6
  have HB6 : Hid (Below W.heap.size W w6) := HB5.out.trans (hb6.mono HB5.out.size)
  obtain ⟨W7, hW7⟩ : ∃ X, w6.alloc (.cells #[.int .i64 (-1), .int .i64 1, .int .i64 2] 3) = X := ⟨_, rfl⟩
  have hbx7 : Below w6.heap.size w6 W7 := by rw [← hW7]; exact (Below.refl _ _).alloc (Nat.le_refl _) _
  have HA7 : Hid (StAt W.heap.size W7 p nv mv k2) := HA6.out.below hbx7
  have HB7 : Hid (Below W.heap.size W W7) := HB6.out.trans (hbx7.mono HB6.out.size)
  obtain ⟨oa6, oc6, rfl⟩ : ∃ a c, v6 = .slice a 3 c := own_slice ho6
  have HI7 : Hid (Calls Tryz.prog 12 #[.slice oa6 3 oc6, .slice (some ⟨w6.heap.size, 0, none⟩) 3 3] W7 fun e w' => e = .returned (.bool true) ∧ Below W7.heap.size W7 w') := ints_same _ 0 _ _ [-1, 1, 2] W7 (own_below ho6 hbx7) (lit_row (L := [-1, 1, 2]) (by rw [← hW7]; exact heap_alloc_new w6 _) rfl (by decide)) (by decide)
  clear ho6 hb6 hbx7
  go_wp2_with fail
  refine calls_at HI7.out (by with_reducible rfl) (by with_reducible rfl) ?_
  rintro e w8 ⟨rfl, hb8⟩
  have HA8 : Hid (StAt W.heap.size w8 p nv mv k2) := HA7.out.below hb8
  have HB8 : Hid (Below W.heap.size W w8) := HB7.out.trans (hb8.mono HB7.out.size)
  clear hb8 hW7
  go_wp2_with fail
  refine calls_at (q_mark3 HA8.out) (by with_reducible rfl) (by with_reducible rfl) ?_
  rintro e w9 ⟨mv9, rfl, ha9, hs9⟩
  have HA9 : Hid (StAt W.heap.size w9 p nv mv9 k3) := ha9
  have HB9 : Hid (Below W.heap.size W w9) := HB8.out.trans hs9
  clear ha9 hs9
  go_wp2_with fail
  refine calls_at (q_kn4 HA9.out) (by with_reducible rfl) (by with_reducible rfl) ?_
  rintro e w10 ⟨rfl, ha10, hs10⟩
  have HA10 : Hid (StAt W.heap.size w10 p nv mv9 k4) := ha10
  have HB10 : Hid (Below W.heap.size W w10) := HB9.out.trans hs10.below
  clear ha10 hs10
  go_wp2_with fail
  refine calls_at (q_kn5 HA10.out) (by with_reducible rfl) (by with_reducible rfl) ?_
  rintro e w11 ⟨rfl, ha11, hs11⟩
  have HA11 : Hid (StAt W.heap.size w11 p nv mv9 k4) := ha11
  have HB11 : Hid (Below W.heap.size W w11) := HB10.out.trans hs11.below
  clear ha11 hs11
  go_wp2_with fail
  refine calls_at (q_hi HA11.out) (by with_reducible rfl) (by with_reducible rfl) ?_
  rintro e w12 ⟨rfl, hb12⟩
  have HA12 : Hid (StAt W.heap.size w12 p nv mv9 k4) := HA11.out.below hb12
  have HB12 : Hid (Below W.heap.size W w12) := HB11.out.trans (hb12.mono HB11.out.size)
  clear hb12
  go_wp2_with fail
  refine calls_at (q_lo HA12.out (HTz.out _ HB12.out)) (by with_reducible rfl) (by with_reducible rfl) ?_
  rintro e w13 ⟨rfl, hb13⟩
  have HA13 : Hid (StAt W.heap.size w13 p nv mv9 k4) := HA12.out.below hb13
  have HB13 : Hid (Below W.heap.size W w13) := HB12.out.trans (hb13.mono HB12.out.size)
  clear hb13
  go_wp2_with fail
  refine calls_at (q_has4 HA13.out) (by with_reducible rfl) (by with_reducible rfl) ?_
  rintro e w14 ⟨rfl, hb14⟩
  have HA14 : Hid (StAt W.heap.size w14 p nv mv9 k4) := HA13.out.below hb14
  have HB14 : Hid (Below W.heap.size W w14) := HB13.out.trans (hb14.mono HB13.out.size)
  clear hb14
  go_wp2_with fail
  refine calls_at (q_mark6 HA14.out) (by with_reducible rfl) (by with_reducible rfl) ?_
  rintro e w15 ⟨mv15, rfl, ha15, hs15⟩
  have HA15 : Hid (StAt W.heap.size w15 p nv mv15 k6) := ha15
  have HB15 : Hid (Below W.heap.size W w15) := HB14.out.trans hs15
  clear ha15 hs15
  go_wp2_with fail
  refine calls_at (q_back7 HA15.out) (by with_reducible rfl) (by with_reducible rfl) ?_
  rintro e w16 ⟨mv16, rfl, ha16, hs16⟩
  have HA16 : Hid (StAt W.heap.size w16 p nv mv16 k6) := ha16
  have HB16 : Hid (Below W.heap.size W w16) := HB15.out.trans hs16
  clear ha16 hs16
  go_wp2_with fail
  refine calls_at (q_back8 HA16.out) (by with_reducible rfl) (by with_reducible rfl) ?_
  rintro e w17 ⟨mv17, rfl, ha17, hs17⟩
  have HA17 : Hid (StAt W.heap.size w17 p nv mv17 k8) := ha17
  have HB17 : Hid (Below W.heap.size W w17) := HB16.out.trans hs17
  clear ha17 hs17
  go_wp2_with fail
  refine calls_at (q_has8 HA17.out) (by with_reducible rfl) (by with_reducible rfl) ?_
  rintro e w18 ⟨rfl, hb18⟩
  have HA18 : Hid (StAt W.heap.size w18 p nv mv17 k8) := HA17.out.below hb18
  have HB18 : Hid (Below W.heap.size W w18) := HB17.out.trans (hb18.mono HB17.out.size)
  clear hb18
  go_wp2_with fail
  refine calls_at (q_open HA18.out) (by with_reducible rfl) (by with_reducible rfl) ?_
  rintro e w19 ⟨v19, rfl, ho19, hb19⟩
  have HA19 : Hid (StAt W.heap.size w19 p nv mv17 k8) := HA18.out.below hb19
  have HB19 : Hid (Below W.heap.size W w19) := HB18.out.trans (hb19.mono HB18.out.size)
  obtain ⟨W20, hW20⟩ : ∃ X, w19.alloc (.cells #[.int .i64 0] 3) = X := ⟨_, rfl⟩
  have hbx20 : Below w19.heap.size w19 W20 := by rw [← hW20]; exact (Below.refl _ _).alloc (Nat.le_refl _) _
  have HA20 : Hid (StAt W.heap.size W20 p nv mv17 k8) := HA19.out.below hbx20
  have HB20 : Hid (Below W.heap.size W W20) := HB19.out.trans (hbx20.mono HB19.out.size)
  obtain ⟨oa19, oc19, rfl⟩ : ∃ a c, v19 = .slice a 1 c := own_slice ho19
  have HI20 : Hid (Calls Tryz.prog 12 #[.slice oa19 1 oc19, .slice (some ⟨w19.heap.size, 0, none⟩) 1 1] W20 fun e w' => e = .returned (.bool true) ∧ Below W20.heap.size W20 w') := ints_same _ 0 _ _ [0] W20 (own_below ho19 hbx20) (lit_row (L := [0]) (by rw [← hW20]; exact heap_alloc_new w19 _) rfl (by decide)) (by decide)
  clear ho19 hb19 hbx20
  go_wp2_with fail
  refine calls_at HI20.out (by with_reducible rfl) (by with_reducible rfl) ?_
  rintro e w21 ⟨rfl, hb21⟩
  have HA21 : Hid (StAt W.heap.size w21 p nv mv17 k8) := HA20.out.below hb21
  have HB21 : Hid (Below W.heap.size W w21) := HB20.out.trans (hb21.mono HB20.out.size)
  clear hb21 hW20
  go_wp2_with fail
  refine calls_at (copy_any _ p nv mv17 k8 w21 HA21.out) (by with_reducible rfl) (by with_reducible rfl) ?_
  rintro e w22 ⟨p2, nv2, mv2, rfl, hA2, hb22⟩
  have HA22 : Hid (StAt W.heap.size w22 p nv mv17 k8) := HA21.out.below hb22
  have HB22 : Hid (Below W.heap.size W w22) := HB21.out.trans (hb22.mono HB21.out.size)
  clear hA2 hb22
  go_wp2_with fail
  refine calls_at (same_any _ p _ p _ _ _ _ _ _ w22 HA22.out HA22.out rfl (HTz.out _ HB22.out)) (by with_reducible rfl) (by with_reducible rfl) ?_
  rintro e wz ⟨rfl, hbz⟩
  have HBz : Hid (Below W.heap.size W wz) := HB22.out.trans (hbz.mono HB22.out.size)
  clear hbz
  go_wp2_with fail
  go_ret
  exact ⟨rfl, HB.out.trans (HBz.out.mono HB.out.size)⟩
end Go.Proofs.YtchpapppkmnfnaaGreatDoor

namespace Go.Proofs.YtchpapppkmnfnaaGreatDoor
open Go.RowKit

set_option maxRecDepth 10000 in
set_option maxHeartbeats 1000000 in
theorem light_any (m : Md.Mo) (vv vc vg : Value) (w : World) (h : MoAt w m vv vc vg) : Calls Tryz.prog 29 #[moVal m vv vc vg] w fun e w' => (∃ b, e = .returned (.bool b)) ∧ Below w.heap.size w w' := by
  obtain ⟨va, vp, rfl, hvm, _, hvo⟩ := id h.v
  obtain ⟨ca, cp, rfl, hcm, hco⟩ := id h.c
  have HVC : Hid (∀ w', Below w.heap.size w w' → ∀ j (hj : j < m.vars.length), ∃ b off, va = some ⟨b, off, none⟩ ∧ w'.cell? ⟨b, off + j * 3, none⟩ = some (.string m.vars[j].name)) := fun w' hb j hj => by
    obtain ⟨b, off, e1, e2, e3⟩ := hvo (by omega)
    exact ⟨b, off, e1, (hb.cell (p := ⟨b, off + j * 3, none⟩) e2).trans (e3 j hj).1⟩
  have HCC : Hid (∀ w', Below w.heap.size w w' → ∀ j (hj : j < m.cons.length), ∃ b off ta tl tc xa xl xc ba bl bc, ca = some ⟨b, off, none⟩ ∧ w'.cell? ⟨b, off + j * 10 + 2, none⟩ = some (.slice ta tl tc) ∧ w'.cell? ⟨b, off + j * 10 + 7, none⟩ = some (.slice xa xl xc) ∧ w'.cell? ⟨b, off + j * 10 + 8, none⟩ = some (.slice ba bl bc)) := fun w' hb j hj => by
    obtain ⟨b, off, e1, e2, e3⟩ := hco (by omega)
    obtain ⟨vt, vx, vb, vr, f1, f2⟩ := e3 j hj
    obtain ⟨ta, tc, rfl, _⟩ := f1.t.form
    obtain ⟨xa, xc, rfl, _⟩ := f1.x.form
    obtain ⟨ba, bc, rfl, _⟩ := f1.b.form
    obtain ⟨_, _, q2, _, _, _, _, q7, q8, _⟩ := f2
    exact ⟨b, off, _, _, _, _, _, _, _, _, _, e1, (hb.cell (p := ⟨b, off + j * 10 + 2, none⟩) e2).trans q2, (hb.cell (p := ⟨b, off + j * 10 + 7, none⟩) e2).trans q7, (hb.cell (p := ⟨b, off + j * 10 + 8, none⟩) e2).trans q8⟩
  obtain ⟨ga, gp, rfl, hgm⟩ := h.g.form
  obtain ⟨W, hW⟩ : ∃ W, w.alloc (.cells #[.slice va m.vars.length vp, .slice ca m.cons.length cp, .bool m.has, .slice ga m.goal.length gp] 26) = W := ⟨_, rfl⟩
  have hb0 : Below w.heap.size w W := by rw [← hW]; exact (Below.refl _ _).alloc (Nat.le_refl _) _
  have g0 : W.heap[w.heap.size]? = some (.cells #[.slice va m.vars.length vp, .slice ca m.cons.length cp, .bool m.has, .slice ga m.goal.length gp] 26 (0, 0)) := by rw [← hW]; exact heap_alloc_new w _
  have hlt := (Array.getElem?_eq_some_iff.1 g0).1
  have HB : Hid (Below w.heap.size w W) := hb0
  have HM : Hid (∀ w', Below W.heap.size W w' → w'.cell? ⟨w.heap.size, 0, none⟩ = some (.slice va m.vars.length vp) ∧ w'.cell? ⟨w.heap.size, 1, none⟩ = some (.slice ca m.cons.length cp)) := fun w' hb => ⟨(hb.cell (p := ⟨w.heap.size, 0, none⟩) hlt).trans (cell_of g0 0), (hb.cell (p := ⟨w.heap.size, 1, none⟩) hlt).trans (cell_of g0 1)⟩
  unfold maxLen at hvm hcm
  clear hb0 g0 hlt h hvo hco
  unfold moVal
  go_enter Tryz.func29, Tryz.ntmps29
  go_wp2_with fail
  go_loopw [3, 4] (fun nv iv wr => ∃ (k : Nat) (n : Int), nv = .int .i64 n ∧ iv = .int .i64 (k : Int) ∧ k ≤ m.cons.length ∧ Hid (Below W.heap.size W wr)) (fun _ iv _ => m.cons.length - (intOf iv).toNat)
  case atStart => exact ⟨0, 0, rfl, rfl, Nat.zero_le _, Below.refl _ _⟩
  case round =>
    obtain ⟨k, n, rfl, rfl, hk, HBr⟩ := hrel
    obtain ⟨d0, d1⟩ := HM.out wr HBr.out
    by_cases hgo : k < m.cons.length ∧ n ≤ 65536
    · obtain ⟨hkn, hn⟩ := hgo
      have hkI : (k : Int) < (m.cons.length : Int) := by omega
      obtain ⟨b, off, ta, tl, tc, xa, xl, xc, ba, bl, bc, rfl, x2, x7, x8⟩ := HCC.out wr (HB.out.trans (HBr.out.mono HB.out.size)) k hkn
      go_wp2_with fail
      go_region
      have HBd : Hid (Below W.heap.size W wr.drew) := HBr.out.drew
      go_wp2_with fail
      go_roundw
      case rel => exact ⟨k + 1, _, rfl, by go_num, hkn, HBd⟩
      case measure => simp [intOf]; omega
    · have hout : ((k : Int) < (m.cons.length : Int) ∧ 65536 < n) ∨ (m.cons.length : Int) ≤ (k : Int) := by omega
      rcases hout with ⟨ho1, ho2⟩ | ho1
      all_goals
        go_wp2_with fail
        go_loopw [3, 5] (fun nv iv wr => ∃ (k : Nat) (n : Int), nv = .int .i64 n ∧ iv = .int .i64 (k : Int) ∧ k ≤ m.vars.length ∧ Hid (Below W.heap.size W wr)) (fun _ iv _ => m.vars.length - (intOf iv).toNat)
        case atStart => exact ⟨0, n, rfl, rfl, Nat.zero_le _, HBr⟩
        case round =>
          obtain ⟨k2, n2, rfl, rfl, hk2, HB2⟩ := hrel
          obtain ⟨f0, f1⟩ := HM.out wr HB2.out
          have hHB2 : Hid (Below w.heap.size w wr) := HB.out.trans (HB2.out.mono HB.out.size)
          by_cases hgo2 : k2 < m.vars.length ∧ n2 ≤ 65536
          · obtain ⟨hkn2, hn2⟩ := hgo2
            have hkI2 : (k2 : Int) < (m.vars.length : Int) := by omega
            obtain ⟨b, off, rfl, y0⟩ := HVC.out wr hHB2.out k2 hkn2
            go_wp2_with fail
            go_roundw
            case rel => exact ⟨k2 + 1, _, rfl, by go_num, hkn2, HB2⟩
            case measure => simp [intOf]; omega
          · have hout2 : ((k2 : Int) < (m.vars.length : Int) ∧ 65536 < n2) ∨ (m.vars.length : Int) ≤ (k2 : Int) := by omega
            rcases hout2 with ⟨hp1, hp2⟩ | hp1
            all_goals
              go_wp2_with fail
              go_ret
              exact ⟨⟨_, rfl⟩, hHB2.out⟩

/-- What small leaves. -/
def SmOut (m : Md.Mo) (ln : Nat) (w : World) (e : Ending) (w' : World) : Prop := (∃ b, e = .returned (.bool b) ∧ (b = true → m.vars.length ≤ 300 ∧ m.cons.length ≤ 300 ∧ m.goal.length ≤ 300 ∧ ln ≤ 300)) ∧ Below w.heap.size w w'
set_option maxRecDepth 10000 in
set_option maxHeartbeats 1000000 in
theorem small_any (m : Md.Mo) (vv vc vg : Value) (la : Option Addr) (ln lc : Nat) (w : World) (h : MoAt w m vv vc vg) : Calls Tryz.prog 5 #[moVal m vv vc vg, .slice la ln lc] w (SmOut m ln w) := by
  obtain ⟨va, vp, rfl, hvm, _, _⟩ := id h.v
  obtain ⟨ca, cp, rfl, hcm, _⟩ := id h.c
  obtain ⟨ga, gp, rfl, hgm⟩ := h.g.form
  obtain ⟨W, hW⟩ : ∃ W, w.alloc (.cells #[.slice va m.vars.length vp, .slice ca m.cons.length cp, .bool m.has, .slice ga m.goal.length gp] 26) = W := ⟨_, rfl⟩
  have hb0 : Below w.heap.size w W := by rw [← hW]; exact (Below.refl _ _).alloc (Nat.le_refl _) _
  have g0 : W.heap[w.heap.size]? = some (.cells #[.slice va m.vars.length vp, .slice ca m.cons.length cp, .bool m.has, .slice ga m.goal.length gp] 26 (0, 0)) := by rw [← hW]; exact heap_alloc_new w _
  have c0 : W.cell? ⟨w.heap.size, 0, none⟩ = some (.slice va m.vars.length vp) := cell_of g0 0
  have c1 : W.cell? ⟨w.heap.size, 1, none⟩ = some (.slice ca m.cons.length cp) := cell_of g0 1
  have c2 : W.cell? ⟨w.heap.size, 2, none⟩ = some (.bool m.has) := cell_of g0 2
  have c3 : W.cell? ⟨w.heap.size, 3, none⟩ = some (.slice ga m.goal.length gp) := cell_of g0 3
  have HB : Hid (Below w.heap.size w W) := hb0
  have HL : Hid (Calls Tryz.prog 29 #[.agg #[.slice va m.vars.length vp, .slice ca m.cons.length cp, .bool m.has, .slice ga m.goal.length gp]] W fun e w' => (∃ b, e = .returned (.bool b)) ∧ Below W.heap.size W w') := light_any m _ _ _ W (h.below hb0)
  clear h hb0 g0
  unfold moVal
  by_cases h1 : m.vars.length ≤ 300
  · have i1 : (m.vars.length : Int) ≤ 300 := by omega
    by_cases h2 : m.cons.length ≤ 300
    · have i2 : (m.cons.length : Int) ≤ 300 := by omega
      by_cases h3 : m.goal.length ≤ 300
      · have i3 : (m.goal.length : Int) ≤ 300 := by omega
        go_enter Tryz.func5, Tryz.ntmps5
        go_wp2_with fail
        refine calls_at HL.out (by with_reducible rfl) (by with_reducible rfl) ?_
        rintro e w1 ⟨⟨b, rfl⟩, hb1⟩
        have HB1 : Hid (Below w.heap.size w w1) := HB.out.trans (hb1.mono HB.out.size)
        clear hb1
        cases b with
        | false =>
          go_wp2_with fail
          go_ret
          exact ⟨⟨false, rfl, fun h => by cases h⟩, HB1.out⟩
        | true =>
          go_wp2_with fail
          go_ret
          exact ⟨⟨_, rfl, fun h => ⟨h1, h2, h3, by have := of_decide_eq_true h; omega⟩⟩, HB1.out⟩
      · have i3 : 300 < (m.goal.length : Int) := by omega
        go_enter Tryz.func5, Tryz.ntmps5
        go_wp2_with fail
        go_ret
        exact ⟨⟨false, rfl, fun h => by cases h⟩, HB.out⟩
    · have i2 : 300 < (m.cons.length : Int) := by omega
      go_enter Tryz.func5, Tryz.ntmps5
      go_wp2_with fail
      go_ret
      exact ⟨⟨false, rfl, fun h => by cases h⟩, HB.out⟩
  · have i1 : 300 < (m.vars.length : Int) := by omega
    go_enter Tryz.func5, Tryz.ntmps5
    go_wp2_with fail
    go_ret
    exact ⟨⟨false, rfl, fun h => by cases h⟩, HB.out⟩
end Go.Proofs.YtchpapppkmnfnaaGreatDoor

namespace Go.Proofs.YtchpapppkmnfnaaGreatDoor
open Go.RowKit

/-- A word's bit. -/
def wb (x : Int) (j : Nat) : Bool := x.toNat.testBit j
theorem wb_ext {x y : Int} (hx : IsW x) (hy : IsW y) (h : ∀ j, j < 32 → wb x j = wb y j) : x = y := by
  have e : x.toNat = y.toNat := Nat.eq_of_testBit_eq fun j => by
    rcases Nat.lt_or_ge j 32 with hj | hj
    · exact h j hj
    · have p : 4294967296 ≤ 2 ^ j := by
        have := Nat.pow_le_pow_right (n := 2) (by decide) hj
        simpa using this
      rw [Nat.testBit_lt_two_pow (by have := hx.2; have := hx.1; omega), Nat.testBit_lt_two_pow (by have := hy.2; have := hy.1; omega)]
  have := hx.1
  have := hy.1
  omega
theorem wb_and {x y : Int} (hx : IsW x) (hy : IsW y) (j : Nat) : wb (bits .and .u32 x y) j = (wb x j && wb y j) := by
  unfold wb
  rw [u32_and x y hx.1 hx.2 hy.1 hy.2, Int.toNat_natCast, Nat.testBit_and]
theorem wb_less {x y : Int} (hx : IsW x) (hy : IsW y) (j : Nat) (hj : j < 32) : wb (bits .andNot .u32 x y) j = (wb x j && !wb y j) := by
  unfold wb
  rw [u32_andNot x y hx.1 hx.2 hy.1 hy.2, Int.toNat_natCast, Nat.testBit_and]
  congr 1
  have h := Nat.testBit_two_pow_sub_succ (n := 32) (x := y.toNat) (by have := hy.2; have := hy.1; omega) j
  rw [show 4294967295 - y.toNat = 2 ^ 32 - (y.toNat + 1) by omega, h]
  simp [hj]
theorem wb_from (k i : Int) (j : Nat) (hj : j < 32) : wb (fWd k i) j = decide (k - i * 32 ≤ (j : Int)) := by
  unfold wb fWd
  obtain ⟨s, hs, hs2⟩ : ∃ s : Nat, (fCl (k - i * 32)).toNat = s ∧ (s ≤ j ↔ k - i * 32 ≤ (j : Int)) := by
    refine ⟨_, rfl, ?_⟩
    unfold fCl
    split
    · split at * <;> omega
    · split at * <;> omega
  rw [hs]
  have e : ((4294967295 : Int) * 2 ^ s % 4294967296).toNat = (4294967295 * 2 ^ s) % 2 ^ 32 := by
    have : ((4294967295 : Int) * 2 ^ s % 4294967296) = (((4294967295 * 2 ^ s) % 2 ^ 32 : Nat) : Int) := by
      rw [Int.natCast_emod, Int.natCast_mul, Int.natCast_pow]
      rfl
    rw [this, Int.toNat_natCast]
  rw [e, Nat.testBit_mod_two_pow, Nat.testBit_mul_two_pow]
  have h1 : (4294967295 : Nat).testBit (j - s) = true := by
    have := Nat.testBit_two_pow_sub_one 32 (j - s)
    rw [show (4294967295 : Nat) = 2 ^ 32 - 1 by decide, this]
    simp
    omega
  rw [h1]
  simp [hj, hs2]
/-- A place of a set. -/
def bt (a b : Int) (k : Nat) : Bool := if k < 32 then wb a k else wb b (k - 32)
theorem wb_at {x : Int} (hx : IsW x) (j : Nat) : (bits .and .u32 (x / 2 ^ j) 1 == 1) = wb x j := by
  have hp : (0 : Int) < 2 ^ j := Int.pow_pos (by decide)
  have h1 : 0 ≤ x / 2 ^ j := Int.ediv_nonneg hx.1 (Int.le_of_lt hp)
  have h2 : x / 2 ^ j < 4294967296 := Int.lt_of_le_of_lt (Int.ediv_le_self _ hx.1) hx.2
  rw [u32_and _ 1 h1 h2 (by decide) (by decide)]
  unfold wb
  obtain ⟨n, rfl⟩ : ∃ n : Nat, x = (n : Int) := ⟨x.toNat, by have := hx.1; omega⟩
  have e : ((n : Int) / 2 ^ j).toNat = n / 2 ^ j := by
    have : ((n : Int) / 2 ^ j) = ((n / 2 ^ j : Nat) : Int) := by rw [Int.natCast_ediv, Int.natCast_pow]; rfl
    rw [this, Int.toNat_natCast]
  rw [e, Int.toNat_natCast, Nat.testBit_eq_decide_div_mod_eq, show (1 : Int).toNat = 1 from rfl, Nat.and_one_is_mod]
  have hm : n / 2 ^ j % 2 = 0 ∨ n / 2 ^ j % 2 = 1 := by omega
  rcases hm with h | h <;> simp [h]
theorem btAt_bt {a b : Int} (ha : IsW a) (hb : IsW b) (k : Nat) (hk : k < 64) : btAt a b (k : Int) = bt a b k := by
  unfold btAt bt
  have h0 : (0 : Int) ≤ (k : Int) := by omega
  have h1 : (k : Int) < 64 := by omega
  simp only [h0, h1, decide_true, Bool.true_and]
  by_cases h : k < 32
  · have e : ((k : Int) % 32).toNat = k := by omega
    rw [if_pos (by omega), if_pos h, e]
    exact wb_at ha k
  · have e : ((k : Int) % 32).toNat = k - 32 := by omega
    rw [if_neg (by omega), if_neg h, e]
    exact wb_at hb (k - 32)
theorem bt_ext {a b c d : Int} (ha : IsW a) (hb : IsW b) (hc : IsW c) (hd : IsW d) (h : ∀ k, k < 64 → bt a b k = bt c d k) : a = c ∧ b = d := by
  refine ⟨wb_ext ha hc fun j hj => ?_, wb_ext hb hd fun j hj => ?_⟩
  · have := h j (by omega)
    unfold bt at this
    rwa [if_pos hj, if_pos hj] at this
  · have := h (j + 32) (by omega)
    unfold bt at this
    rw [if_neg (by omega), if_neg (by omega), show j + 32 - 32 = j by omega] at this
    exact this
theorem bt_from (q : Int) (k : Nat) (hk : k < 64) : bt (fWd q 0) (fWd q 1) k = decide (q ≤ (k : Int)) := by
  unfold bt
  split
  · rename_i h
    rw [wb_from q 0 k h]
    congr 1
    exact propext (by omega)
  · rename_i h
    rw [wb_from q 1 (k - 32) (by omega)]
    congr 1
    exact propext (by omega)
theorem bt_and {a b c d : Int} (ha : IsW a) (hb : IsW b) (hc : IsW c) (hd : IsW d) (k : Nat) : bt (bits .and .u32 a c) (bits .and .u32 b d) k = (bt a b k && bt c d k) := by
  unfold bt
  split
  · exact wb_and ha hc k
  · exact wb_and hb hd (k - 32)
theorem bt_less {a b c d : Int} (ha : IsW a) (hb : IsW b) (hc : IsW c) (hd : IsW d) (k : Nat) (hk : k < 64) : bt (bits .andNot .u32 a c) (bits .andNot .u32 b d) k = (bt a b k && !bt c d k) := by
  unfold bt
  split
  · rename_i h
    exact wb_less ha hc k h
  · exact wb_less hb hd (k - 32) (by omega)
/-- Does a cut take a value? -/
def takesB (kind cv v : Int) : Bool := (kind == 1 && decide (v < cv)) || (kind == 2 && decide (cv < v)) || (kind == 3 && v == cv)
theorem bt_cut {f a b : Int} (ha : IsW a) (hb : IsW b) (kind cv : Int) (k : Nat) (hk : k < 64) : bt (lWd (dPlc f cv) kind a 0) (lWd (dPlc f cv) kind b 1) k = (bt a b k && !takesB kind cv (f + (k : Int))) := by
  have w0 := isW_fWd
  unfold lWd takesB
  by_cases h1 : kind = 1
  · subst h1
    rw [if_pos rfl, if_pos rfl, bt_and ha hb (w0 _ _) (w0 _ _), bt_from _ k hk]
    congr 1
    have : (dPlc f cv ≤ (k : Int)) ↔ ¬ (f + (k : Int) < cv) := by unfold dPlc; omega
    by_cases h : dPlc f cv ≤ (k : Int)
    · simp [h, this.1 h]
    · have h2 : f + (k : Int) < cv := by
        rcases Int.lt_or_le (f + (k : Int)) cv with h3 | h3
        · exact h3
        · exact absurd (this.2 (by omega)) h
      simp [h, h2]
  by_cases h2 : kind = 2
  · subst h2
    rw [if_neg (by decide), if_pos rfl, if_neg (by decide), if_pos rfl, bt_less ha hb (w0 _ _) (w0 _ _) k hk, bt_from _ k hk]
    congr 1
    have : (dPlc f cv + 1 ≤ (k : Int)) ↔ (cv < f + (k : Int)) := by unfold dPlc; omega
    by_cases h : dPlc f cv + 1 ≤ (k : Int)
    · simp [h, this.1 h]
    · have h3 : ¬ cv < f + (k : Int) := fun e => h (this.2 e)
      simp [h, h3]
  by_cases h3 : kind = 3
  · subst h3
    rw [if_neg (by decide), if_neg (by decide), if_pos rfl, if_neg (by decide), if_neg (by decide), if_pos rfl]
    unfold oWd
    rw [bt_less ha hb (isW_bits _ _ _) (isW_bits _ _ _) k hk, bt_less (w0 _ _) (w0 _ _) (w0 _ _) (w0 _ _) k hk, bt_from _ k hk, bt_from _ k hk]
    congr 1
    have : (dPlc f cv ≤ (k : Int) ∧ ¬ dPlc f cv + 1 ≤ (k : Int)) ↔ f + (k : Int) = cv := by unfold dPlc; omega
    by_cases h : f + (k : Int) = cv
    · have h4 := this.2 h
      simp [h, h4.1, h4.2]
    · by_cases h5 : dPlc f cv ≤ (k : Int)
      · have h6 : dPlc f cv + 1 ≤ (k : Int) := by
          rcases Int.lt_or_le (k : Int) (dPlc f cv + 1) with h7 | h7
          · exact absurd (this.1 ⟨h5, by omega⟩) h
          · exact h7
        simp [h, h5, h6]
      · simp [h, h5]
  · rw [if_neg h1, if_neg h2, if_neg h3, if_neg h1, if_neg h2, if_neg h3]
    simp [h1, h2, h3]
theorem bt_whole (lo hi : Int) (k : Nat) (hk : k < 64) : bt (wWd lo hi 0) (wWd lo hi 1) k = decide ((k : Int) ≤ hi - lo) := by
  have w0 := isW_fWd
  unfold wWd
  rw [bt_less (w0 _ _) (w0 _ _) (w0 _ _) (w0 _ _) k hk, bt_from _ k hk, bt_from _ k hk]
  have h0 : (0 : Int) ≤ (k : Int) := by omega
  by_cases h : (k : Int) ≤ hi - lo
  · have : ¬ hi - lo + 1 ≤ (k : Int) := by omega
    simp [h, h0, this]
  · have : hi - lo + 1 ≤ (k : Int) := by omega
    simp [h, h0, this]
theorem cut_len (s : St) (k x v : Int) : (s.cut k x v).now.length = s.now.length ∧ (s.cut k x v).noted = s.noted ∧ (s.cut k x v).marks = s.marks := by
  unfold St.cut
  split
  · exact ⟨rfl, rfl, rfl⟩
  · split
    · exact ⟨List.length_set, rfl, rfl⟩
    · exact ⟨rfl, rfl, rfl⟩
end Go.Proofs.YtchpapppkmnfnaaGreatDoor
