/-
  Put together: DmKn0, DmBackM.
-/
import Derived.Test.YtakdboddbgihpaaDoorJ42
namespace Go.Proofs.YtakdboddbgihpaaDoor
open Go.RowKit

/-- The example's problem, and its store step by step. -/
def kM : Md.Mo := ⟨[⟨⟨#[120]⟩, -2, 2⟩], [], false, []⟩
def k0 : St := ⟨[⟨-2, 31, 0⟩], [], 0⟩
def k1 : St := ⟨[⟨-2, 30, 0⟩], [], 0⟩
def k2 : St := ⟨[⟨-2, 26, 0⟩], [], 0⟩
def k3 : St := ⟨[⟨-2, 26, 0⟩], [⟨-2, 26, 0⟩], 1⟩
def k4 : St := ⟨[⟨-2, 2, 0⟩], [⟨-2, 26, 0⟩], 1⟩
def k6 : St := ⟨[⟨-2, 2, 0⟩], [⟨-2, 26, 0⟩, ⟨-2, 2, 0⟩], 2⟩
def k8 : St := ⟨[⟨-2, 26, 0⟩], [], 0⟩
theorem kn0 : newS kM = k0 := by kernel_rfl
theorem kn1 : k0.cut 1 0 (-1) = k1 ∧ k0.went 1 0 (-1) = true ∧ k0.may 1 0 (-1) = true := ⟨by kernel_rfl, by kernel_rfl, by kernel_rfl⟩
theorem kn2 : k1.cut 3 0 0 = k2 ∧ k1.went 3 0 0 = true ∧ k1.may 3 0 0 = true := ⟨by kernel_rfl, by kernel_rfl, by kernel_rfl⟩
theorem kn3 : k2.mark = k3 := by kernel_rfl
theorem kn4 : k3.cut 2 0 0 = k4 ∧ k3.went 2 0 0 = true ∧ k3.may 2 0 0 = true := ⟨by kernel_rfl, by kernel_rfl, by kernel_rfl⟩
theorem kn5 : k4.cut 3 0 (-1) = k4 ∧ k4.went 3 0 (-1) = false ∧ k4.may 3 0 (-1) = false := ⟨by kernel_rfl, by kernel_rfl, by kernel_rfl⟩
theorem kn6 : k4.mark = k6 := by kernel_rfl
theorem kn7 : k6.back 2 = k6 ∧ k6.backB 2 = false := ⟨by kernel_rfl, by kernel_rfl⟩
theorem kn8 : k6.back 0 = k8 ∧ k6.backB 0 = true := ⟨by kernel_rfl, by kernel_rfl⟩
theorem kv0 : bSize 31 0 = 5 := by kernel_rfl
theorem kv2 : dAll (-2) 26 0 = [-1, 1, 2] := by kernel_rfl
theorem kv4 : -2 + bHigh 2 0 = -1 ∧ -2 + bLow 2 0 = -1 ∧ dHas (-2) 2 0 2 = false := ⟨by kernel_rfl, by kernel_rfl, by kernel_rfl⟩
theorem kv8 : dHas (-2) 26 0 2 = true := by kernel_rfl
theorem kv9 : openL k8.now k8.now.length = [0] := by kernel_rfl

/-- A cut, a mark, a way back of the example. -/
theorem k_cut {s t : St} {k v : Int} {a b : Bool} (hc : s.cut k 0 v = t ∧ s.went k 0 v = a ∧ s.may k 0 v = b) {B p : Nat} {nv mv : Value} {w : World} (h : StAt B w p nv mv s) : Calls Tryd.prog 18 #[.pointer (some ⟨p, 0, none⟩), .agg #[.int .i64 k, .int .i64 0, .int .i64 v]] w fun e w' => e = .returned (.tuple #[.bool a, .bool b]) ∧ StAt B w' p nv mv t ∧ Stp B p nv mv w w' := by
  obtain ⟨rfl, rfl, rfl⟩ := hc
  exact cut_any B p nv mv s k 0 v w h
theorem k_mark {s t : St} {n : Int} (hm : s.mark = t) (hn : (s.marks : Int) = n) (hk : s.marks + 1 ≤ 10000) {B p : Nat} {nv mv : Value} {w : World} (h : StAt B w p nv mv s) : Calls Tryd.prog 15 #[.pointer (some ⟨p, 0, none⟩)] w fun e w' => ∃ mv', e = .returned (.int .i64 n) ∧ StAt B w' p nv mv' t ∧ Below B w w' := by
  subst hm hn
  exact (mark_any B p nv mv s w h hk).mono fun e w' ⟨mv', h1, h2, h3, _⟩ => ⟨mv', h1, h2, h3.below⟩
theorem k_back {s t : St} {k : Int} {a : Bool} (hb : s.back k = t ∧ s.backB k = a) {B p : Nat} {nv mv : Value} {w : World} (h : StAt B w p nv mv s) : Calls Tryd.prog 16 #[.pointer (some ⟨p, 0, none⟩), .int .i64 k] w fun e w' => ∃ mv', e = .returned (.bool a) ∧ StAt B w' p nv mv' t ∧ Below B w w' := by
  obtain ⟨rfl, rfl⟩ := hb
  exact (back_any B p nv mv s k w h).mono fun e w' ⟨mv', h1, h2, h3, _⟩ => ⟨mv', h1, h2, h3.below⟩

theorem kM_at {W : World} {N : Nat} (h : W.heap[N]? = some (.cells #[.string ⟨#[120]⟩, .int .i64 (-2), .int .i64 2] 39 (0, 0))) : MoAt W kM (.slice (some ⟨N, 0, none⟩) 1 1) (.slice none 0 0) (.slice none 0 0) := by
  refine ⟨⟨_, 1, rfl, by unfold maxLen; decide, ?_, fun _ => ⟨N, 0, rfl, (Array.getElem?_eq_some_iff.1 h).1, fun j hj => ?_⟩⟩, ?_, ⟨none, 0, rfl, Nat.zero_le _, fun h0 => absurd h0 (Nat.not_lt_zero _)⟩, ?_⟩
  · intro x hx
    rw [List.mem_singleton.1 hx]
    show (1 : Nat) ≤ maxLen
    unfold maxLen
    decide
  · match j, hj with
    | 0, _ => exact ⟨cell_of h 0, cell_of h 1, cell_of h 2⟩
  · intro a n cp e
    injection e with _ e1 e2
    omega
  · exact ⟨none, 0, rfl, Nat.zero_le _, fun h0 => absurd h0 (Nat.not_lt_zero _)⟩
/-- A literal list. -/
theorem lit_row {W : World} {N : Nat} {L : List Int} {cs : Array Value} (h : W.heap[N]? = some (.cells cs 3 (0, 0))) (hc : cs = (L.map (.int .i64)).toArray) (hl : L.length ≤ 1000) : W.ownsRow 0 3 1 (.slice (some ⟨N, 0, none⟩) L.length L.length) L.length (L.map (.int .i64)) := by
  subst hc
  exact ⟨by simp, .inr ⟨N, L.length, _, rfl, Nat.zero_le _, h, Nat.le_refl _, by unfold maxLen; omega, by simp, by simp [List.take_of_length_le]⟩⟩

theorem k_size {s : St} {z : Int} (h0 : 0 < s.now.length) (hz : bSize s.now[0].a s.now[0].b = z) {B p : Nat} {nv mv : Value} {w : World} (h : StAt B w p nv mv s) : Calls Tryd.prog 17 #[.pointer (some ⟨p, 0, none⟩), .int .i64 0] w fun e w' => e = .returned (.int .i64 z) ∧ Below w.heap.size w w' := by
  subst hz
  exact size_in B p nv mv s 0 h0 w h
theorem k_lo {s : St} {z : Int} (h0 : 0 < s.now.length) (hz : s.now[0].f + bLow s.now[0].a s.now[0].b = z) {B p : Nat} {nv mv : Value} {w : World} (h : StAt B w p nv mv s) (hT : Tz w) : Calls Tryd.prog 22 #[.pointer (some ⟨p, 0, none⟩), .int .i64 0] w fun e w' => e = .returned (.int .i64 z) ∧ Below w.heap.size w w' := by
  subst hz
  exact lo_in B p nv mv s 0 h0 w h hT
theorem k_hi {s : St} {z : Int} (h0 : 0 < s.now.length) (hz : s.now[0].f + bHigh s.now[0].a s.now[0].b = z) {B p : Nat} {nv mv : Value} {w : World} (h : StAt B w p nv mv s) : Calls Tryd.prog 21 #[.pointer (some ⟨p, 0, none⟩), .int .i64 0] w fun e w' => e = .returned (.int .i64 z) ∧ Below w.heap.size w w' := by
  subst hz
  exact hi_in B p nv mv s 0 h0 w h
theorem k_has {s : St} {z : Bool} {v : Int} (h0 : 0 < s.now.length) (hz : dHas s.now[0].f s.now[0].a s.now[0].b v = z) {B p : Nat} {nv mv : Value} {w : World} (h : StAt B w p nv mv s) : Calls Tryd.prog 12 #[.pointer (some ⟨p, 0, none⟩), .int .i64 0, .int .i64 v] w fun e w' => e = .returned (.bool z) ∧ Below w.heap.size w w' := by
  subst hz
  exact has_in B p nv mv s 0 h0 v w h
theorem k_vals {s : St} {L : List Int} (h0 : 0 < s.now.length) (hz : dAll s.now[0].f s.now[0].a s.now[0].b = L) {B p : Nat} {nv mv : Value} {w : World} (h : StAt B w p nv mv s) (hT : Tz w) : Calls Tryd.prog 20 #[.pointer (some ⟨p, 0, none⟩), .int .i64 0] w (VsOut L w) := by
  subst hz
  exact values_in B p nv mv s 0 h0 w h hT
theorem k_open {s : St} {L : List Int} (hz : openL s.now s.now.length = L) {B p : Nat} {nv mv : Value} {w : World} (h : StAt B w p nv mv s) : Calls Tryd.prog 23 #[.pointer (some ⟨p, 0, none⟩)] w (VsOut L w) := by
  subst hz
  exact open_any B p nv mv s w h
theorem k_vars {s : St} {n : Int} (hz : (s.now.length : Int) = n) {B p : Nat} {nv mv : Value} {w : World} (h : StAt B w p nv mv s) : Calls Tryd.prog 11 #[.pointer (some ⟨p, 0, none⟩)] w fun e w' => e = .returned (.int .i64 n) ∧ w' = w := by
  subst hz
  exact vars_any B p nv mv s w h

section
variable {B p : Nat} {nv mv : Value} {w : World}
theorem q_vars (h : StAt B w p nv mv k0) : Calls Tryd.prog 11 #[.pointer (some ⟨p, 0, none⟩)] w fun e w' => e = .returned (.int .i64 1) ∧ w' = w := k_vars (s := k0) (n := 1) rfl h
theorem q_size (h : StAt B w p nv mv k0) : Calls Tryd.prog 17 #[.pointer (some ⟨p, 0, none⟩), .int .i64 0] w fun e w' => e = .returned (.int .i64 5) ∧ Below w.heap.size w w' := k_size (s := k0) (z := 5) (by decide) (by kernel_rfl) h
theorem q_kn1 (h : StAt B w p nv mv k0) : Calls Tryd.prog 18 #[.pointer (some ⟨p, 0, none⟩), .agg #[.int .i64 1, .int .i64 0, .int .i64 (-1)]] w fun e w' => e = .returned (.tuple #[.bool true, .bool true]) ∧ StAt B w' p nv mv k1 ∧ Stp B p nv mv w w' := k_cut kn1 h
theorem q_kn2 (h : StAt B w p nv mv k1) : Calls Tryd.prog 18 #[.pointer (some ⟨p, 0, none⟩), .agg #[.int .i64 3, .int .i64 0, .int .i64 0]] w fun e w' => e = .returned (.tuple #[.bool true, .bool true]) ∧ StAt B w' p nv mv k2 ∧ Stp B p nv mv w w' := k_cut kn2 h
theorem q_vals (h : StAt B w p nv mv k2) (hT : Tz w) : Calls Tryd.prog 20 #[.pointer (some ⟨p, 0, none⟩), .int .i64 0] w (VsOut [-1, 1, 2] w) := k_vals (s := k2) (L := [-1, 1, 2]) (by decide) (by kernel_rfl) h hT
theorem q_mark3 (h : StAt B w p nv mv k2) : Calls Tryd.prog 15 #[.pointer (some ⟨p, 0, none⟩)] w fun e w' => ∃ mv', e = .returned (.int .i64 0) ∧ StAt B w' p nv mv' k3 ∧ Below B w w' := k_mark (s := k2) (t := k3) (n := 0) kn3 rfl (by decide) h
theorem q_kn4 (h : StAt B w p nv mv k3) : Calls Tryd.prog 18 #[.pointer (some ⟨p, 0, none⟩), .agg #[.int .i64 2, .int .i64 0, .int .i64 0]] w fun e w' => e = .returned (.tuple #[.bool true, .bool true]) ∧ StAt B w' p nv mv k4 ∧ Stp B p nv mv w w' := k_cut kn4 h
theorem q_kn5 (h : StAt B w p nv mv k4) : Calls Tryd.prog 18 #[.pointer (some ⟨p, 0, none⟩), .agg #[.int .i64 3, .int .i64 0, .int .i64 (-1)]] w fun e w' => e = .returned (.tuple #[.bool false, .bool false]) ∧ StAt B w' p nv mv k4 ∧ Stp B p nv mv w w' := k_cut kn5 h
theorem q_hi (h : StAt B w p nv mv k4) : Calls Tryd.prog 21 #[.pointer (some ⟨p, 0, none⟩), .int .i64 0] w fun e w' => e = .returned (.int .i64 (-1)) ∧ Below w.heap.size w w' := k_hi (s := k4) (z := -1) (by decide) (by kernel_rfl) h
theorem q_lo (h : StAt B w p nv mv k4) (hT : Tz w) : Calls Tryd.prog 22 #[.pointer (some ⟨p, 0, none⟩), .int .i64 0] w fun e w' => e = .returned (.int .i64 (-1)) ∧ Below w.heap.size w w' := k_lo (s := k4) (z := -1) (by decide) (by kernel_rfl) h hT
theorem q_has4 (h : StAt B w p nv mv k4) : Calls Tryd.prog 12 #[.pointer (some ⟨p, 0, none⟩), .int .i64 0, .int .i64 2] w fun e w' => e = .returned (.bool false) ∧ Below w.heap.size w w' := k_has (s := k4) (z := false) (v := 2) (by decide) (by kernel_rfl) h
theorem q_mark6 (h : StAt B w p nv mv k4) : Calls Tryd.prog 15 #[.pointer (some ⟨p, 0, none⟩)] w fun e w' => ∃ mv', e = .returned (.int .i64 1) ∧ StAt B w' p nv mv' k6 ∧ Below B w w' := k_mark (s := k4) (t := k6) (n := 1) kn6 rfl (by decide) h
theorem q_back7 (h : StAt B w p nv mv k6) : Calls Tryd.prog 16 #[.pointer (some ⟨p, 0, none⟩), .int .i64 2] w fun e w' => ∃ mv', e = .returned (.bool false) ∧ StAt B w' p nv mv' k6 ∧ Below B w w' := k_back kn7 h
theorem q_back8 (h : StAt B w p nv mv k6) : Calls Tryd.prog 16 #[.pointer (some ⟨p, 0, none⟩), .int .i64 0] w fun e w' => ∃ mv', e = .returned (.bool true) ∧ StAt B w' p nv mv' k8 ∧ Below B w w' := k_back kn8 h
theorem q_has8 (h : StAt B w p nv mv k8) : Calls Tryd.prog 12 #[.pointer (some ⟨p, 0, none⟩), .int .i64 0, .int .i64 2] w fun e w' => e = .returned (.bool true) ∧ Below w.heap.size w w' := k_has (s := k8) (z := true) (v := 2) (by decide) (by kernel_rfl) h
theorem q_open (h : StAt B w p nv mv k8) : Calls Tryd.prog 23 #[.pointer (some ⟨p, 0, none⟩)] w (VsOut [0] w) := k_open kv9 h
theorem q_new {m : Md.Mo} {e : Ending} {w' : World} (hm : newS m = k0) (h : NewOut m w e w') : ∃ p nv mv, e = .returned (.pointer (some ⟨p, 0, none⟩)) ∧ StAt w.heap.size w' p nv mv k0 ∧ Below w.heap.size w w' := by
  obtain ⟨p, nv, mv, h1, h2, h3⟩ := h
  rw [hm] at h2
  exact ⟨p, nv, mv, h1, h2, h3⟩
end
end Go.Proofs.YtakdboddbgihpaaDoor

namespace Go.Proofs.YtakdboddbgihpaaDoor
open Go.RowKit

/-- Behind a mark: what was noted up to it stands. -/
structure Since (a s : St) : Prop where
  n : s.now.length = a.now.length
  m : a.marks + 1 ≤ s.marks
  t : s.noted.take (a.noted.length + a.now.length) = a.noted ++ a.now
  l : s.noted.length = s.marks * s.now.length
theorem cut_len (s : St) (k x v : Int) : (s.cut k x v).now.length = s.now.length ∧ (s.cut k x v).noted = s.noted ∧ (s.cut k x v).marks = s.marks := by
  unfold St.cut
  split
  · exact ⟨rfl, rfl, rfl⟩
  · split
    · exact ⟨List.length_set, rfl, rfl⟩
    · exact ⟨rfl, rfl, rfl⟩
theorem since_does {a s : St} (hl : a.noted.length = a.marks * a.now.length) (h : Since a s) (o : Cl) : Since a (s.does o ((a.marks : Int) + 1)) := by
  unfold St.does
  split
  · obtain ⟨e1, e2, e3⟩ := cut_len s o.ck o.cx o.cv
    exact ⟨e1.trans h.n, by rw [e3]; exact h.m, by rw [e2]; exact h.t, by rw [e2, e3, e1]; exact h.l⟩
  · split
    · have hle : a.noted.length + a.now.length ≤ s.noted.length := by
        have h1 := congrArg List.length h.t
        rw [List.length_take, List.length_append] at h1
        omega
      refine ⟨h.n, Nat.le_succ_of_le h.m, ?_, ?_⟩
      · show (s.noted ++ s.now).take _ = _
        rw [List.take_append_of_le_length hle]
        exact h.t
      · show (s.noted ++ s.now).length = (s.marks + 1) * s.now.length
        rw [List.length_append, h.l, Nat.add_mul, Nat.one_mul]
    · split
      · split
        · rename_i hn
          unfold St.back
          split
          · rename_i hb
            have hb' : 0 ≤ o.n ∧ o.n < (s.marks : Int) := by simpa [St.backB] using hb
            obtain ⟨q, hq⟩ : ∃ q : Nat, o.n = (q : Int) := ⟨o.n.toNat, by omega⟩
            have hq1 : a.marks + 1 ≤ q := by omega
            have hq2 : q < s.marks := by omega
            rw [hq, Int.toNat_natCast]
            have hmul : a.noted.length + a.now.length ≤ q * s.now.length := by
              rw [hl, h.n]
              have := Nat.mul_le_mul_right a.now.length hq1
              rw [Nat.add_mul, Nat.one_mul] at this
              exact this
            have hlen : q * s.now.length + s.now.length ≤ s.noted.length := by
              rw [h.l]
              have := Nat.mul_le_mul_right s.now.length hq2
              rw [Nat.succ_mul] at this
              exact this
            have hn1 : ((s.noted.drop (q * s.now.length)).take s.now.length).length = s.now.length := by rw [List.length_take, List.length_drop]; omega
            refine ⟨hn1.trans h.n, hq1, ?_, ?_⟩
            · show (s.noted.take (q * s.now.length)).take _ = _
              rw [List.take_take, Nat.min_eq_left hmul]
              exact h.t
            · show (s.noted.take (q * s.now.length)).length = q * ((s.noted.drop (q * s.now.length)).take s.now.length).length
              rw [hn1, List.length_take]
              omega
          · exact h
        · exact h
      · exact h
theorem since_mark {a : St} (hl : a.noted.length = a.marks * a.now.length) : Since a a.mark :=
  ⟨rfl, Nat.le_refl _, by show (a.noted ++ a.now).take _ = _; rw [← List.length_append, List.take_length], by show (a.noted ++ a.now).length = (a.marks + 1) * a.now.length; rw [List.length_append, hl, Nat.add_mul, Nat.one_mul]⟩
/-- Back to the mark: all is as it was; and the mark stands no more. -/
theorem since_back {a s : St} (hl : a.noted.length = a.marks * a.now.length) (h : Since a s) : s.backB (a.marks : Int) = true ∧ (s.back (a.marks : Int)).now = a.now ∧ (s.back (a.marks : Int)).backB (a.marks : Int) = false := by
  have h1 : s.backB (a.marks : Int) = true := by
    have := h.m
    simp [St.backB]
    omega
  have hlen := congrArg List.length h.t
  rw [List.length_take, List.length_append] at hlen
  refine ⟨h1, ?_, ?_⟩
  · unfold St.back
    rw [h1, if_pos rfl, Int.toNat_natCast]
    show (s.noted.drop (a.marks * s.now.length)).take s.now.length = a.now
    rw [h.n, ← hl]
    have e : (s.noted.take (a.noted.length + a.now.length)).drop a.noted.length = a.now := by rw [h.t, List.drop_left]
    rw [List.drop_take] at e
    rw [show a.noted.length + a.now.length - a.noted.length = a.now.length by omega] at e
    exact e
  · unfold St.back
    rw [h1, if_pos rfl, Int.toNat_natCast]
    simp [St.backB]
/-- A call makes at most one mark. -/
theorem does_marks (s : St) (o : Cl) (l : Int) : (s.does o l).marks ≤ s.marks + 1 := by
  unfold St.does
  split
  · rw [(cut_len s o.ck o.cx o.cv).2.2]; omega
  · split
    · exact Nat.le_refl _
    · split
      · split
        · unfold St.back
          split
          · rename_i hb
            have hb' : 0 ≤ o.n ∧ o.n < (s.marks : Int) := by simpa [St.backB] using hb
            show o.n.toNat ≤ _
            omega
          · omega
        · omega
      · omega
end Go.Proofs.YtakdboddbgihpaaDoor
