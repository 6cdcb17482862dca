/-
  The law's known: the chapter's example.
-/
import Derived.Test.YtakdboddbgihpaaDoorJ40
namespace Go.Proofs.YtakdboddbgihpaaDoor
open Go.RowKit

/-- The example's problem, and its store step by step. -/
def kM : Md.Mo := ⟨[⟨⟨#[120]⟩, -2, 2⟩], [], false, []⟩
def k0 : St := ⟨[⟨-2, 31, 0⟩], [], 0⟩
def k1 : St := ⟨[⟨-2, 30, 0⟩], [], 0⟩
def k2 : St := ⟨[⟨-2, 26, 0⟩], [], 0⟩
def k3 : St := ⟨[⟨-2, 26, 0⟩], [⟨-2, 26, 0⟩], 1⟩
def k4 : St := ⟨[⟨-2, 2, 0⟩], [⟨-2, 26, 0⟩], 1⟩
def k6 : St := ⟨[⟨-2, 2, 0⟩], [⟨-2, 26, 0⟩, ⟨-2, 2, 0⟩], 2⟩
def k8 : St := ⟨[⟨-2, 26, 0⟩], [], 0⟩
theorem kn0 : newS kM = k0 := by kernel_rfl
theorem kn1 : k0.cut 1 0 (-1) = k1 ∧ k0.went 1 0 (-1) = true ∧ k0.may 1 0 (-1) = true := ⟨by kernel_rfl, by kernel_rfl, by kernel_rfl⟩
theorem kn2 : k1.cut 3 0 0 = k2 ∧ k1.went 3 0 0 = true ∧ k1.may 3 0 0 = true := ⟨by kernel_rfl, by kernel_rfl, by kernel_rfl⟩
theorem kn3 : k2.mark = k3 := by kernel_rfl
theorem kn4 : k3.cut 2 0 0 = k4 ∧ k3.went 2 0 0 = true ∧ k3.may 2 0 0 = true := ⟨by kernel_rfl, by kernel_rfl, by kernel_rfl⟩
theorem kn5 : k4.cut 3 0 (-1) = k4 ∧ k4.went 3 0 (-1) = false ∧ k4.may 3 0 (-1) = false := ⟨by kernel_rfl, by kernel_rfl, by kernel_rfl⟩
theorem kn6 : k4.mark = k6 := by kernel_rfl
theorem kn7 : k6.back 2 = k6 ∧ k6.backB 2 = false := ⟨by kernel_rfl, by kernel_rfl⟩
theorem kn8 : k6.back 0 = k8 ∧ k6.backB 0 = true := ⟨by kernel_rfl, by kernel_rfl⟩
theorem kv0 : bSize 31 0 = 5 := by kernel_rfl
theorem kv2 : dAll (-2) 26 0 = [-1, 1, 2] := by kernel_rfl
theorem kv4 : -2 + bHigh 2 0 = -1 ∧ -2 + bLow 2 0 = -1 ∧ dHas (-2) 2 0 2 = false := ⟨by kernel_rfl, by kernel_rfl, by kernel_rfl⟩
theorem kv8 : dHas (-2) 26 0 2 = true := by kernel_rfl
theorem kv9 : openL k8.now k8.now.length = [0] := by kernel_rfl

/-- A cut, a mark, a way back of the example. -/
theorem k_cut {s t : St} {k v : Int} {a b : Bool} (hc : s.cut k 0 v = t ∧ s.went k 0 v = a ∧ s.may k 0 v = b) {B p : Nat} {nv mv : Value} {w : World} (h : StAt B w p nv mv s) : Calls Tryd.prog 18 #[.pointer (some ⟨p, 0, none⟩), .agg #[.int .i64 k, .int .i64 0, .int .i64 v]] w fun e w' => e = .returned (.tuple #[.bool a, .bool b]) ∧ StAt B w' p nv mv t ∧ Stp B p nv mv w w' := by
  obtain ⟨rfl, rfl, rfl⟩ := hc
  exact cut_any B p nv mv s k 0 v w h
theorem k_mark {s t : St} {n : Int} (hm : s.mark = t) (hn : (s.marks : Int) = n) (hk : s.marks + 1 ≤ 10000) {B p : Nat} {nv mv : Value} {w : World} (h : StAt B w p nv mv s) : Calls Tryd.prog 15 #[.pointer (some ⟨p, 0, none⟩)] w fun e w' => ∃ mv', e = .returned (.int .i64 n) ∧ StAt B w' p nv mv' t ∧ Below B w w' := by
  subst hm hn
  exact (mark_any B p nv mv s w h hk).mono fun e w' ⟨mv', h1, h2, h3, _⟩ => ⟨mv', h1, h2, h3.below⟩
theorem k_back {s t : St} {k : Int} {a : Bool} (hb : s.back k = t ∧ s.backB k = a) {B p : Nat} {nv mv : Value} {w : World} (h : StAt B w p nv mv s) : Calls Tryd.prog 16 #[.pointer (some ⟨p, 0, none⟩), .int .i64 k] w fun e w' => ∃ mv', e = .returned (.bool a) ∧ StAt B w' p nv mv' t ∧ Below B w w' := by
  obtain ⟨rfl, rfl⟩ := hb
  exact (back_any B p nv mv s k w h).mono fun e w' ⟨mv', h1, h2, h3, _⟩ => ⟨mv', h1, h2, h3.below⟩

theorem kM_at {W : World} {N : Nat} (h : W.heap[N]? = some (.cells #[.string ⟨#[120]⟩, .int .i64 (-2), .int .i64 2] 39 (0, 0))) : MoAt W kM (.slice (some ⟨N, 0, none⟩) 1 1) (.slice none 0 0) (.slice none 0 0) := by
  refine ⟨⟨_, 1, rfl, by unfold maxLen; decide, ?_, fun _ => ⟨N, 0, rfl, (Array.getElem?_eq_some_iff.1 h).1, fun j hj => ?_⟩⟩, ?_, ⟨none, 0, rfl, Nat.zero_le _, fun h0 => absurd h0 (Nat.not_lt_zero _)⟩, ?_⟩
  · intro x hx
    rw [List.mem_singleton.1 hx]
    show (1 : Nat) ≤ maxLen
    unfold maxLen
    decide
  · match j, hj with
    | 0, _ => exact ⟨cell_of h 0, cell_of h 1, cell_of h 2⟩
  · intro a n cp e
    injection e with _ e1 e2
    omega
  · exact ⟨none, 0, rfl, Nat.zero_le _, fun h0 => absurd h0 (Nat.not_lt_zero _)⟩
/-- A literal list. -/
theorem lit_row {W : World} {N : Nat} {L : List Int} {cs : Array Value} (h : W.heap[N]? = some (.cells cs 3 (0, 0))) (hc : cs = (L.map (.int .i64)).toArray) (hl : L.length ≤ 1000) : W.ownsRow 0 3 1 (.slice (some ⟨N, 0, none⟩) L.length L.length) L.length (L.map (.int .i64)) := by
  subst hc
  exact ⟨by simp, .inr ⟨N, L.length, _, rfl, Nat.zero_le _, h, Nat.le_refl _, by unfold maxLen; omega, by simp, by simp [List.take_of_length_le]⟩⟩

theorem k_size {s : St} {z : Int} (h0 : 0 < s.now.length) (hz : bSize s.now[0].a s.now[0].b = z) {B p : Nat} {nv mv : Value} {w : World} (h : StAt B w p nv mv s) : Calls Tryd.prog 17 #[.pointer (some ⟨p, 0, none⟩), .int .i64 0] w fun e w' => e = .returned (.int .i64 z) ∧ Below w.heap.size w w' := by
  subst hz
  exact size_in B p nv mv s 0 h0 w h
theorem k_lo {s : St} {z : Int} (h0 : 0 < s.now.length) (hz : s.now[0].f + bLow s.now[0].a s.now[0].b = z) {B p : Nat} {nv mv : Value} {w : World} (h : StAt B w p nv mv s) (hT : Tz w) : Calls Tryd.prog 22 #[.pointer (some ⟨p, 0, none⟩), .int .i64 0] w fun e w' => e = .returned (.int .i64 z) ∧ Below w.heap.size w w' := by
  subst hz
  exact lo_in B p nv mv s 0 h0 w h hT
theorem k_hi {s : St} {z : Int} (h0 : 0 < s.now.length) (hz : s.now[0].f + bHigh s.now[0].a s.now[0].b = z) {B p : Nat} {nv mv : Value} {w : World} (h : StAt B w p nv mv s) : Calls Tryd.prog 21 #[.pointer (some ⟨p, 0, none⟩), .int .i64 0] w fun e w' => e = .returned (.int .i64 z) ∧ Below w.heap.size w w' := by
  subst hz
  exact hi_in B p nv mv s 0 h0 w h
theorem k_has {s : St} {z : Bool} {v : Int} (h0 : 0 < s.now.length) (hz : dHas s.now[0].f s.now[0].a s.now[0].b v = z) {B p : Nat} {nv mv : Value} {w : World} (h : StAt B w p nv mv s) : Calls Tryd.prog 12 #[.pointer (some ⟨p, 0, none⟩), .int .i64 0, .int .i64 v] w fun e w' => e = .returned (.bool z) ∧ Below w.heap.size w w' := by
  subst hz
  exact has_in B p nv mv s 0 h0 v w h
theorem k_vals {s : St} {L : List Int} (h0 : 0 < s.now.length) (hz : dAll s.now[0].f s.now[0].a s.now[0].b = L) {B p : Nat} {nv mv : Value} {w : World} (h : StAt B w p nv mv s) (hT : Tz w) : Calls Tryd.prog 20 #[.pointer (some ⟨p, 0, none⟩), .int .i64 0] w (VsOut L w) := by
  subst hz
  exact values_in B p nv mv s 0 h0 w h hT
theorem k_open {s : St} {L : List Int} (hz : openL s.now s.now.length = L) {B p : Nat} {nv mv : Value} {w : World} (h : StAt B w p nv mv s) : Calls Tryd.prog 23 #[.pointer (some ⟨p, 0, none⟩)] w (VsOut L w) := by
  subst hz
  exact open_any B p nv mv s w h
theorem k_vars {s : St} {n : Int} (hz : (s.now.length : Int) = n) {B p : Nat} {nv mv : Value} {w : World} (h : StAt B w p nv mv s) : Calls Tryd.prog 11 #[.pointer (some ⟨p, 0, none⟩)] w fun e w' => e = .returned (.int .i64 n) ∧ w' = w := by
  subst hz
  exact vars_any B p nv mv s w h

section
variable {B p : Nat} {nv mv : Value} {w : World}
theorem q_vars (h : StAt B w p nv mv k0) : Calls Tryd.prog 11 #[.pointer (some ⟨p, 0, none⟩)] w fun e w' => e = .returned (.int .i64 1) ∧ w' = w := k_vars (s := k0) (n := 1) rfl h
theorem q_size (h : StAt B w p nv mv k0) : Calls Tryd.prog 17 #[.pointer (some ⟨p, 0, none⟩), .int .i64 0] w fun e w' => e = .returned (.int .i64 5) ∧ Below w.heap.size w w' := k_size (s := k0) (z := 5) (by decide) (by kernel_rfl) h
theorem q_kn1 (h : StAt B w p nv mv k0) : Calls Tryd.prog 18 #[.pointer (some ⟨p, 0, none⟩), .agg #[.int .i64 1, .int .i64 0, .int .i64 (-1)]] w fun e w' => e = .returned (.tuple #[.bool true, .bool true]) ∧ StAt B w' p nv mv k1 ∧ Stp B p nv mv w w' := k_cut kn1 h
theorem q_kn2 (h : StAt B w p nv mv k1) : Calls Tryd.prog 18 #[.pointer (some ⟨p, 0, none⟩), .agg #[.int .i64 3, .int .i64 0, .int .i64 0]] w fun e w' => e = .returned (.tuple #[.bool true, .bool true]) ∧ StAt B w' p nv mv k2 ∧ Stp B p nv mv w w' := k_cut kn2 h
theorem q_vals (h : StAt B w p nv mv k2) (hT : Tz w) : Calls Tryd.prog 20 #[.pointer (some ⟨p, 0, none⟩), .int .i64 0] w (VsOut [-1, 1, 2] w) := k_vals (s := k2) (L := [-1, 1, 2]) (by decide) (by kernel_rfl) h hT
theorem q_mark3 (h : StAt B w p nv mv k2) : Calls Tryd.prog 15 #[.pointer (some ⟨p, 0, none⟩)] w fun e w' => ∃ mv', e = .returned (.int .i64 0) ∧ StAt B w' p nv mv' k3 ∧ Below B w w' := k_mark (s := k2) (t := k3) (n := 0) kn3 rfl (by decide) h
theorem q_kn4 (h : StAt B w p nv mv k3) : Calls Tryd.prog 18 #[.pointer (some ⟨p, 0, none⟩), .agg #[.int .i64 2, .int .i64 0, .int .i64 0]] w fun e w' => e = .returned (.tuple #[.bool true, .bool true]) ∧ StAt B w' p nv mv k4 ∧ Stp B p nv mv w w' := k_cut kn4 h
theorem q_kn5 (h : StAt B w p nv mv k4) : Calls Tryd.prog 18 #[.pointer (some ⟨p, 0, none⟩), .agg #[.int .i64 3, .int .i64 0, .int .i64 (-1)]] w fun e w' => e = .returned (.tuple #[.bool false, .bool false]) ∧ StAt B w' p nv mv k4 ∧ Stp B p nv mv w w' := k_cut kn5 h
theorem q_hi (h : StAt B w p nv mv k4) : Calls Tryd.prog 21 #[.pointer (some ⟨p, 0, none⟩), .int .i64 0] w fun e w' => e = .returned (.int .i64 (-1)) ∧ Below w.heap.size w w' := k_hi (s := k4) (z := -1) (by decide) (by kernel_rfl) h
theorem q_lo (h : StAt B w p nv mv k4) (hT : Tz w) : Calls Tryd.prog 22 #[.pointer (some ⟨p, 0, none⟩), .int .i64 0] w fun e w' => e = .returned (.int .i64 (-1)) ∧ Below w.heap.size w w' := k_lo (s := k4) (z := -1) (by decide) (by kernel_rfl) h hT
theorem q_has4 (h : StAt B w p nv mv k4) : Calls Tryd.prog 12 #[.pointer (some ⟨p, 0, none⟩), .int .i64 0, .int .i64 2] w fun e w' => e = .returned (.bool false) ∧ Below w.heap.size w w' := k_has (s := k4) (z := false) (v := 2) (by decide) (by kernel_rfl) h
theorem q_mark6 (h : StAt B w p nv mv k4) : Calls Tryd.prog 15 #[.pointer (some ⟨p, 0, none⟩)] w fun e w' => ∃ mv', e = .returned (.int .i64 1) ∧ StAt B w' p nv mv' k6 ∧ Below B w w' := k_mark (s := k4) (t := k6) (n := 1) kn6 rfl (by decide) h
theorem q_back7 (h : StAt B w p nv mv k6) : Calls Tryd.prog 16 #[.pointer (some ⟨p, 0, none⟩), .int .i64 2] w fun e w' => ∃ mv', e = .returned (.bool false) ∧ StAt B w' p nv mv' k6 ∧ Below B w w' := k_back kn7 h
theorem q_back8 (h : StAt B w p nv mv k6) : Calls Tryd.prog 16 #[.pointer (some ⟨p, 0, none⟩), .int .i64 0] w fun e w' => ∃ mv', e = .returned (.bool true) ∧ StAt B w' p nv mv' k8 ∧ Below B w w' := k_back kn8 h
theorem q_has8 (h : StAt B w p nv mv k8) : Calls Tryd.prog 12 #[.pointer (some ⟨p, 0, none⟩), .int .i64 0, .int .i64 2] w fun e w' => e = .returned (.bool true) ∧ Below w.heap.size w w' := k_has (s := k8) (z := true) (v := 2) (by decide) (by kernel_rfl) h
theorem q_open (h : StAt B w p nv mv k8) : Calls Tryd.prog 23 #[.pointer (some ⟨p, 0, none⟩)] w (VsOut [0] w) := k_open kv9 h
theorem q_new {m : Md.Mo} {e : Ending} {w' : World} (hm : newS m = k0) (h : NewOut m w e w') : ∃ p nv mv, e = .returned (.pointer (some ⟨p, 0, none⟩)) ∧ StAt w.heap.size w' p nv mv k0 ∧ Below w.heap.size w w' := by
  obtain ⟨p, nv, mv, h1, h2, h3⟩ := h
  rw [hm] at h2
  exact ⟨p, nv, mv, h1, h2, h3⟩
end
end Go.Proofs.YtakdboddbgihpaaDoor
