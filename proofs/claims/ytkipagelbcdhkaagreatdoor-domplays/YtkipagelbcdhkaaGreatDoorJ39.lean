/-
  Put together: DmOpen, DmKn0, DmOrdM.
-/
import Derived.Test.YtkipagelbcdhkaaGreatDoorJ38
import Derived.Laws.BitsAllLaws
namespace Go.Proofs.YtkipagelbcdhkaaGreatDoor
open Go.RowKit

/-- The variables that have more than one value. -/
def openL (L : List Dm) (k : Nat) : List Int := ((List.range k).filter fun j => match L[j]? with | some d => decide (1 < bSize d.a d.b) | none => false).map fun j : Nat => (j : Int)
theorem openL_succ (L : List Dm) (k : Nat) (hk : k < L.length) : openL L (k + 1) = openL L k ++ (if 1 < bSize L[k].a L[k].b then [(k : Int)] else []) := by
  unfold openL
  rw [List.range_succ, List.filter_append, List.map_append]
  refine congrArg (HAppend.hAppend _) ?_
  have e : L[k]? = some L[k] := List.getElem?_eq_getElem hk
  generalize L[k] = d at e
  by_cases h : 1 < bSize d.a d.b
  · rw [if_pos h, List.filter_cons_of_pos (by rw [e]; simpa using h)]; rfl
  · rw [if_neg h, List.filter_cons_of_neg (by rw [e]; simpa using h)]; rfl
theorem openL_len (L : List Dm) (k : Nat) : (openL L k).length ≤ k := by
  have := List.length_filter_le (fun j => match L[j]? with | some d => decide (1 < bSize d.a d.b) | none => false) (List.range k)
  simpa [openL] using this

set_option maxRecDepth 10000 in
set_option maxHeartbeats 1000000 in
theorem open_any (B p : Nat) (nv mv : Value) (s : St) (w : World) (h : StAt B w p nv mv s) : Calls Tryz.prog 23 #[.pointer (some ⟨p, 0, none⟩)] w (VsOut (openL s.now s.now.length) w) := by
  have c0 : w.cell? ⟨p, 0, none⟩ = some nv := cell_of h.o 0
  have hn := h.n32
  have HSz : Hid (∀ x, x < s.now.length → ∀ w', Below w.heap.size w w' → ∀ (hx : x < s.now.length), Calls Tryz.prog 14 #[.pointer (some ⟨p, 0, none⟩), .int .i64 (x : Int)] w' fun e w2 => e = .returned (.int .i64 (bSize s.now[x].a s.now[x].b)) ∧ Below w'.heap.size w' w2) := fun x _ w' hb hx => size_in B p nv mv s x hx w' (h.below hb)
  obtain ⟨a, cap, rfl, _⟩ := dm_form h.n
  clear h
  have HLen := openL_len s.now
  go_enter Tryz.func23, Tryz.ntmps23
  go_wp2_with fail
  go_loopw [3, 10] (fun oq iv wr => ∃ (k : Nat) (ov : Value), oq = ov ∧ iv = .int .i64 (k : Int) ∧ k ≤ s.now.length ∧ Hid (wr.ownsRow w.heap.size 3 1 ov (openL s.now k).length ((openL s.now k).map (.int .i64))) ∧ Hid (Below w.heap.size w wr)) (fun _ iv _ => s.now.length - (intOf iv).toNat)
  case atStart => exact ⟨0, _, rfl, rfl, Nat.zero_le _, World.ownsRow_nil _ _ _ _, Below.refl _ _⟩
  case round =>
    obtain ⟨k, _, rfl, rfl, hk, HOr, HBr⟩ := hrel
    by_cases hkn : k < s.now.length
    · have hkI : (k : Int) < (s.now.length : Int) := by omega
      have HS1 := HSz.out k hkn wr HBr.out hkn
      have HV := openL_succ s.now k hkn
      obtain ⟨z, hz⟩ : ∃ z, bSize s.now[k].a s.now[k].b = z := ⟨_, rfl⟩
      rw [hz] at HS1 HV
      have HS2 : Hid (Calls Tryz.prog 14 #[.pointer (some ⟨p, 0, none⟩), .int .i64 (k : Int)] wr fun e w2 => e = .returned (.int .i64 z) ∧ Below wr.heap.size wr w2) := HS1
      clear HS1 hz
      go_wp2_with fail
      refine calls_at HS2.out (by with_reducible rfl) (by with_reducible rfl) ?_
      rintro e w5 ⟨rfl, hb5⟩
      have HB5 : Hid (Below w.heap.size w w5) := bl_next HBr.out hb5
      have HO5 : Hid (w5.ownsRow w.heap.size 3 1 u3 (openL s.now k).length ((openL s.now k).map (.int .i64))) := own_below HOr.out hb5
      clear hb5
      by_cases hd : 1 < z
      · have HV1 : Hid (openL s.now (k + 1) = openL s.now k ++ [(k : Int)]) := by show _ = _; rw [HV, if_pos hd]
        clear HV
        have hlk := HLen k
        go_wp2_with (first
          | (at_builtin; refine append_one w5 (.int .i64 (k : Int)) rfl _ _ 53 3 (.int .i64 0) 8 rfl und53 info3 rfl w.heap.size _ _ _ (by rfl) HO5.out rfl _ rfl (by rfl) (by unfold maxLen; omega) (by omega) HB5.out.size ?_; intro v6 w6 ho6 hg6 hn6))
        have HO6 : Hid (w6.ownsRow w.heap.size 3 1 v6 (openL s.now (k + 1)).length ((openL s.now (k + 1)).map (.int .i64))) := by
          show World.ownsRow _ _ _ _ _ _ _
          rw [HV1.out, List.map_append, List.length_append]
          exact ho6
        have HB6 : Hid (Below w.heap.size w w6) := (HB5.out.alloc HB5.out.size _).grown hg6 (Nat.le_trans HB5.out.size (by simp)) (fun g hg => (HO5.out.lt g hg).1)
        clear ho6 hg6 hn6
        go_wp2_with fail
        go_roundw
        case rel => exact ⟨k + 1, v6, rfl, by go_num, hkn, HO6, HB6⟩
        case measure => simp [intOf]; omega
      · have HV1 : Hid (openL s.now (k + 1) = openL s.now k) := by show _ = _; rw [HV, if_neg hd, List.append_nil]
        clear HV
        go_wp2_with fail
        go_roundw
        case rel => exact ⟨k + 1, u3, rfl, by go_num, hkn, by rw [HV1.out]; exact HO5, HB5⟩
        case measure => simp [intOf]; omega
    · have hke : k = s.now.length := by omega
      subst hke
      go_wp2_with fail
      go_ret
      exact ⟨_, rfl, HOr.out, HBr.out⟩

set_option maxRecDepth 10000 in
set_option maxHeartbeats 1000000 in
theorem ints_same (B B' : Nat) (v v' : Value) (L : List Int) (w : World) (h : w.ownsRow B 3 1 v L.length (L.map (.int .i64))) (h' : w.ownsRow B' 3 1 v' L.length (L.map (.int .i64))) (hl : L.length ≤ 1000) : Calls Tryz.prog 16 #[v, v'] w fun e w' => e = .returned (.bool true) ∧ Below w.heap.size w w' := by
  obtain ⟨a, cap, rfl, hc⟩ := row_form h
  obtain ⟨a', cap', rfl, hc'⟩ := row_form h'
  have HC : Hid (∀ w', Below w.heap.size w w' → ∀ j (hj : j < L.length), ∃ g, a = some ⟨g, 0, none⟩ ∧ w'.cell? ⟨g, j, none⟩ = some (.int .i64 L[j])) := fun w' hb j hj => by
    obtain ⟨g, e1, _, e2, e3⟩ := hc j hj
    exact ⟨g, e1, (hb.cell (p := ⟨g, j, none⟩) e2).trans e3⟩
  have HC' : Hid (∀ w', Below w.heap.size w w' → ∀ j (hj : j < L.length), ∃ g, a' = some ⟨g, 0, none⟩ ∧ w'.cell? ⟨g, j, none⟩ = some (.int .i64 L[j])) := fun w' hb j hj => by
    obtain ⟨g, e1, _, e2, e3⟩ := hc' j hj
    exact ⟨g, e1, (hb.cell (p := ⟨g, j, none⟩) e2).trans e3⟩
  clear h h' hc hc'
  go_enter Tryz.func16, Tryz.ntmps16
  go_wp2_with fail
  go_loopw [5] (fun iv wr => ∃ k : Nat, iv = .int .i64 (k : Int) ∧ k ≤ L.length ∧ Hid (Below w.heap.size w wr)) (fun iv _ => L.length - (intOf iv).toNat)
  case atStart => exact ⟨0, rfl, Nat.zero_le _, Below.refl _ _⟩
  case round =>
    obtain ⟨k, rfl, hk, HBr⟩ := hrel
    by_cases hkn : k < L.length
    · have hkI : (k : Int) < (L.length : Int) := by omega
      obtain ⟨g, rfl, x0⟩ := HC.out wr HBr.out k hkn
      obtain ⟨g', rfl, y0⟩ := HC'.out wr HBr.out k hkn
      go_wp2_with fail
      go_region
      have HBd : Hid (Below w.heap.size w wr.drew) := HBr.out.drew
      go_wp2_with fail
      go_roundw
      case rel => exact ⟨k + 1, by go_num, hkn, HBd⟩
      case measure => simp [intOf]; omega
    · have hke : k = L.length := by omega
      subst hke
      go_wp2_with fail
      go_ret
      exact ⟨rfl, HBr.out⟩
end Go.Proofs.YtkipagelbcdhkaaGreatDoor

namespace Go.Proofs.YtkipagelbcdhkaaGreatDoor
open Go.RowKit

/-- The example's problem, and its store step by step. -/
def kM : Md.Mo := ⟨[⟨⟨#[120]⟩, -2, 2⟩], [], false, []⟩
def k0 : St := ⟨[⟨-2, 31, 0⟩], [], 0⟩
def k1 : St := ⟨[⟨-2, 30, 0⟩], [], 0⟩
def k2 : St := ⟨[⟨-2, 26, 0⟩], [], 0⟩
def k3 : St := ⟨[⟨-2, 26, 0⟩], [⟨-2, 26, 0⟩], 1⟩
def k4 : St := ⟨[⟨-2, 2, 0⟩], [⟨-2, 26, 0⟩], 1⟩
def k6 : St := ⟨[⟨-2, 2, 0⟩], [⟨-2, 26, 0⟩, ⟨-2, 2, 0⟩], 2⟩
def k8 : St := ⟨[⟨-2, 26, 0⟩], [], 0⟩
theorem kn0 : newS kM = k0 := by kernel_rfl
theorem kn1 : k0.cut 1 0 (-1) = k1 ∧ k0.went 1 0 (-1) = true ∧ k0.may 1 0 (-1) = true := ⟨by kernel_rfl, by kernel_rfl, by kernel_rfl⟩
theorem kn2 : k1.cut 3 0 0 = k2 ∧ k1.went 3 0 0 = true ∧ k1.may 3 0 0 = true := ⟨by kernel_rfl, by kernel_rfl, by kernel_rfl⟩
theorem kn3 : k2.mark = k3 := by kernel_rfl
theorem kn4 : k3.cut 2 0 0 = k4 ∧ k3.went 2 0 0 = true ∧ k3.may 2 0 0 = true := ⟨by kernel_rfl, by kernel_rfl, by kernel_rfl⟩
theorem kn5 : k4.cut 3 0 (-1) = k4 ∧ k4.went 3 0 (-1) = false ∧ k4.may 3 0 (-1) = false := ⟨by kernel_rfl, by kernel_rfl, by kernel_rfl⟩
theorem kn6 : k4.mark = k6 := by kernel_rfl
theorem kn7 : k6.back 2 = k6 ∧ k6.backB 2 = false := ⟨by kernel_rfl, by kernel_rfl⟩
theorem kn8 : k6.back 0 = k8 ∧ k6.backB 0 = true := ⟨by kernel_rfl, by kernel_rfl⟩
theorem kv0 : bSize 31 0 = 5 := by kernel_rfl
theorem kv2 : dAll (-2) 26 0 = [-1, 1, 2] := by kernel_rfl
theorem kv4 : -2 + bHigh 2 0 = -1 ∧ -2 + bLow 2 0 = -1 ∧ dHas (-2) 2 0 2 = false := ⟨by kernel_rfl, by kernel_rfl, by kernel_rfl⟩
theorem kv8 : dHas (-2) 26 0 2 = true := by kernel_rfl
theorem kv9 : openL k8.now k8.now.length = [0] := by kernel_rfl

/-- A cut, a mark, a way back of the example. -/
theorem k_cut {s t : St} {k v : Int} {a b : Bool} (hc : s.cut k 0 v = t ∧ s.went k 0 v = a ∧ s.may k 0 v = b) {B p : Nat} {nv mv : Value} {w : World} (h : StAt B w p nv mv s) : Calls Tryz.prog 15 #[.pointer (some ⟨p, 0, none⟩), .agg #[.int .i64 k, .int .i64 0, .int .i64 v]] w fun e w' => e = .returned (.tuple #[.bool a, .bool b]) ∧ StAt B w' p nv mv t ∧ Stp B p nv mv w w' := by
  obtain ⟨rfl, rfl, rfl⟩ := hc
  exact cut_any B p nv mv s k 0 v w h
theorem k_mark {s t : St} {n : Int} (hm : s.mark = t) (hn : (s.marks : Int) = n) (hk : s.marks + 1 ≤ 10000) {B p : Nat} {nv mv : Value} {w : World} (h : StAt B w p nv mv s) : Calls Tryz.prog 18 #[.pointer (some ⟨p, 0, none⟩)] w fun e w' => ∃ mv', e = .returned (.int .i64 n) ∧ StAt B w' p nv mv' t ∧ Below B w w' := by
  subst hm hn
  exact (mark_any B p nv mv s w h hk).mono fun e w' ⟨mv', h1, h2, h3, _⟩ => ⟨mv', h1, h2, h3.below⟩
theorem k_back {s t : St} {k : Int} {a : Bool} (hb : s.back k = t ∧ s.backB k = a) {B p : Nat} {nv mv : Value} {w : World} (h : StAt B w p nv mv s) : Calls Tryz.prog 22 #[.pointer (some ⟨p, 0, none⟩), .int .i64 k] w fun e w' => ∃ mv', e = .returned (.bool a) ∧ StAt B w' p nv mv' t ∧ Below B w w' := by
  obtain ⟨rfl, rfl⟩ := hb
  exact (back_any B p nv mv s k w h).mono fun e w' ⟨mv', h1, h2, h3, _⟩ => ⟨mv', h1, h2, h3.below⟩

theorem kM_at {W : World} {N : Nat} (h : W.heap[N]? = some (.cells #[.string ⟨#[120]⟩, .int .i64 (-2), .int .i64 2] 47 (0, 0))) : MoAt W kM (.slice (some ⟨N, 0, none⟩) 1 1) (.slice none 0 0) (.slice none 0 0) := by
  refine ⟨⟨_, 1, rfl, by unfold maxLen; decide, ?_, fun _ => ⟨N, 0, rfl, (Array.getElem?_eq_some_iff.1 h).1, fun j hj => ?_⟩⟩, ?_, ⟨none, 0, rfl, Nat.zero_le _, fun h0 => absurd h0 (Nat.not_lt_zero _)⟩, ?_⟩
  · intro x hx
    rw [List.mem_singleton.1 hx]
    show (1 : Nat) ≤ maxLen
    unfold maxLen
    decide
  · match j, hj with
    | 0, _ => exact ⟨cell_of h 0, cell_of h 1, cell_of h 2⟩
  · intro a n cp e
    injection e with _ e1 e2
    omega
  · exact ⟨none, 0, rfl, Nat.zero_le _, fun h0 => absurd h0 (Nat.not_lt_zero _)⟩
/-- A literal list. -/
theorem lit_row {W : World} {N : Nat} {L : List Int} {cs : Array Value} (h : W.heap[N]? = some (.cells cs 3 (0, 0))) (hc : cs = (L.map (.int .i64)).toArray) (hl : L.length ≤ 1000) : W.ownsRow 0 3 1 (.slice (some ⟨N, 0, none⟩) L.length L.length) L.length (L.map (.int .i64)) := by
  subst hc
  exact ⟨by simp, .inr ⟨N, L.length, _, rfl, Nat.zero_le _, h, Nat.le_refl _, by unfold maxLen; omega, by simp, by simp [List.take_of_length_le]⟩⟩

theorem k_size {s : St} {z : Int} (h0 : 0 < s.now.length) (hz : bSize s.now[0].a s.now[0].b = z) {B p : Nat} {nv mv : Value} {w : World} (h : StAt B w p nv mv s) : Calls Tryz.prog 14 #[.pointer (some ⟨p, 0, none⟩), .int .i64 0] w fun e w' => e = .returned (.int .i64 z) ∧ Below w.heap.size w w' := by
  subst hz
  exact size_in B p nv mv s 0 h0 w h
theorem k_lo {s : St} {z : Int} (h0 : 0 < s.now.length) (hz : s.now[0].f + bLow s.now[0].a s.now[0].b = z) {B p : Nat} {nv mv : Value} {w : World} (h : StAt B w p nv mv s) (hT : Tz w) : Calls Tryz.prog 20 #[.pointer (some ⟨p, 0, none⟩), .int .i64 0] w fun e w' => e = .returned (.int .i64 z) ∧ Below w.heap.size w w' := by
  subst hz
  exact lo_in B p nv mv s 0 h0 w h hT
theorem k_hi {s : St} {z : Int} (h0 : 0 < s.now.length) (hz : s.now[0].f + bHigh s.now[0].a s.now[0].b = z) {B p : Nat} {nv mv : Value} {w : World} (h : StAt B w p nv mv s) : Calls Tryz.prog 19 #[.pointer (some ⟨p, 0, none⟩), .int .i64 0] w fun e w' => e = .returned (.int .i64 z) ∧ Below w.heap.size w w' := by
  subst hz
  exact hi_in B p nv mv s 0 h0 w h
theorem k_has {s : St} {z : Bool} {v : Int} (h0 : 0 < s.now.length) (hz : dHas s.now[0].f s.now[0].a s.now[0].b v = z) {B p : Nat} {nv mv : Value} {w : World} (h : StAt B w p nv mv s) : Calls Tryz.prog 21 #[.pointer (some ⟨p, 0, none⟩), .int .i64 0, .int .i64 v] w fun e w' => e = .returned (.bool z) ∧ Below w.heap.size w w' := by
  subst hz
  exact has_in B p nv mv s 0 h0 v w h
theorem k_vals {s : St} {L : List Int} (h0 : 0 < s.now.length) (hz : dAll s.now[0].f s.now[0].a s.now[0].b = L) {B p : Nat} {nv mv : Value} {w : World} (h : StAt B w p nv mv s) (hT : Tz w) : Calls Tryz.prog 17 #[.pointer (some ⟨p, 0, none⟩), .int .i64 0] w (VsOut L w) := by
  subst hz
  exact values_in B p nv mv s 0 h0 w h hT
theorem k_open {s : St} {L : List Int} (hz : openL s.now s.now.length = L) {B p : Nat} {nv mv : Value} {w : World} (h : StAt B w p nv mv s) : Calls Tryz.prog 23 #[.pointer (some ⟨p, 0, none⟩)] w (VsOut L w) := by
  subst hz
  exact open_any B p nv mv s w h
theorem k_vars {s : St} {n : Int} (hz : (s.now.length : Int) = n) {B p : Nat} {nv mv : Value} {w : World} (h : StAt B w p nv mv s) : Calls Tryz.prog 13 #[.pointer (some ⟨p, 0, none⟩)] w fun e w' => e = .returned (.int .i64 n) ∧ w' = w := by
  subst hz
  exact vars_any B p nv mv s w h

section
variable {B p : Nat} {nv mv : Value} {w : World}
theorem q_vars (h : StAt B w p nv mv k0) : Calls Tryz.prog 13 #[.pointer (some ⟨p, 0, none⟩)] w fun e w' => e = .returned (.int .i64 1) ∧ w' = w := k_vars (s := k0) (n := 1) rfl h
theorem q_size (h : StAt B w p nv mv k0) : Calls Tryz.prog 14 #[.pointer (some ⟨p, 0, none⟩), .int .i64 0] w fun e w' => e = .returned (.int .i64 5) ∧ Below w.heap.size w w' := k_size (s := k0) (z := 5) (by decide) (by kernel_rfl) h
theorem q_kn1 (h : StAt B w p nv mv k0) : Calls Tryz.prog 15 #[.pointer (some ⟨p, 0, none⟩), .agg #[.int .i64 1, .int .i64 0, .int .i64 (-1)]] w fun e w' => e = .returned (.tuple #[.bool true, .bool true]) ∧ StAt B w' p nv mv k1 ∧ Stp B p nv mv w w' := k_cut kn1 h
theorem q_kn2 (h : StAt B w p nv mv k1) : Calls Tryz.prog 15 #[.pointer (some ⟨p, 0, none⟩), .agg #[.int .i64 3, .int .i64 0, .int .i64 0]] w fun e w' => e = .returned (.tuple #[.bool true, .bool true]) ∧ StAt B w' p nv mv k2 ∧ Stp B p nv mv w w' := k_cut kn2 h
theorem q_vals (h : StAt B w p nv mv k2) (hT : Tz w) : Calls Tryz.prog 17 #[.pointer (some ⟨p, 0, none⟩), .int .i64 0] w (VsOut [-1, 1, 2] w) := k_vals (s := k2) (L := [-1, 1, 2]) (by decide) (by kernel_rfl) h hT
theorem q_mark3 (h : StAt B w p nv mv k2) : Calls Tryz.prog 18 #[.pointer (some ⟨p, 0, none⟩)] w fun e w' => ∃ mv', e = .returned (.int .i64 0) ∧ StAt B w' p nv mv' k3 ∧ Below B w w' := k_mark (s := k2) (t := k3) (n := 0) kn3 rfl (by decide) h
theorem q_kn4 (h : StAt B w p nv mv k3) : Calls Tryz.prog 15 #[.pointer (some ⟨p, 0, none⟩), .agg #[.int .i64 2, .int .i64 0, .int .i64 0]] w fun e w' => e = .returned (.tuple #[.bool true, .bool true]) ∧ StAt B w' p nv mv k4 ∧ Stp B p nv mv w w' := k_cut kn4 h
theorem q_kn5 (h : StAt B w p nv mv k4) : Calls Tryz.prog 15 #[.pointer (some ⟨p, 0, none⟩), .agg #[.int .i64 3, .int .i64 0, .int .i64 (-1)]] w fun e w' => e = .returned (.tuple #[.bool false, .bool false]) ∧ StAt B w' p nv mv k4 ∧ Stp B p nv mv w w' := k_cut kn5 h
theorem q_hi (h : StAt B w p nv mv k4) : Calls Tryz.prog 19 #[.pointer (some ⟨p, 0, none⟩), .int .i64 0] w fun e w' => e = .returned (.int .i64 (-1)) ∧ Below w.heap.size w w' := k_hi (s := k4) (z := -1) (by decide) (by kernel_rfl) h
theorem q_lo (h : StAt B w p nv mv k4) (hT : Tz w) : Calls Tryz.prog 20 #[.pointer (some ⟨p, 0, none⟩), .int .i64 0] w fun e w' => e = .returned (.int .i64 (-1)) ∧ Below w.heap.size w w' := k_lo (s := k4) (z := -1) (by decide) (by kernel_rfl) h hT
theorem q_has4 (h : StAt B w p nv mv k4) : Calls Tryz.prog 21 #[.pointer (some ⟨p, 0, none⟩), .int .i64 0, .int .i64 2] w fun e w' => e = .returned (.bool false) ∧ Below w.heap.size w w' := k_has (s := k4) (z := false) (v := 2) (by decide) (by kernel_rfl) h
theorem q_mark6 (h : StAt B w p nv mv k4) : Calls Tryz.prog 18 #[.pointer (some ⟨p, 0, none⟩)] w fun e w' => ∃ mv', e = .returned (.int .i64 1) ∧ StAt B w' p nv mv' k6 ∧ Below B w w' := k_mark (s := k4) (t := k6) (n := 1) kn6 rfl (by decide) h
theorem q_back7 (h : StAt B w p nv mv k6) : Calls Tryz.prog 22 #[.pointer (some ⟨p, 0, none⟩), .int .i64 2] w fun e w' => ∃ mv', e = .returned (.bool false) ∧ StAt B w' p nv mv' k6 ∧ Below B w w' := k_back kn7 h
theorem q_back8 (h : StAt B w p nv mv k6) : Calls Tryz.prog 22 #[.pointer (some ⟨p, 0, none⟩), .int .i64 0] w fun e w' => ∃ mv', e = .returned (.bool true) ∧ StAt B w' p nv mv' k8 ∧ Below B w w' := k_back kn8 h
theorem q_has8 (h : StAt B w p nv mv k8) : Calls Tryz.prog 21 #[.pointer (some ⟨p, 0, none⟩), .int .i64 0, .int .i64 2] w fun e w' => e = .returned (.bool true) ∧ Below w.heap.size w w' := k_has (s := k8) (z := true) (v := 2) (by decide) (by kernel_rfl) h
theorem q_open (h : StAt B w p nv mv k8) : Calls Tryz.prog 23 #[.pointer (some ⟨p, 0, none⟩)] w (VsOut [0] w) := k_open kv9 h
theorem q_new {m : Md.Mo} {e : Ending} {w' : World} (hm : newS m = k0) (h : NewOut m w e w') : ∃ p nv mv, e = .returned (.pointer (some ⟨p, 0, none⟩)) ∧ StAt w.heap.size w' p nv mv k0 ∧ Below w.heap.size w w' := by
  obtain ⟨p, nv, mv, h1, h2, h3⟩ := h
  rw [hm] at h2
  exact ⟨p, nv, mv, h1, h2, h3⟩
end
end Go.Proofs.YtkipagelbcdhkaaGreatDoor

namespace Go.Proofs.YtkipagelbcdhkaaGreatDoor
open Go.RowKit

/-- A word's bit. -/
def wb (x : Int) (j : Nat) : Bool := x.toNat.testBit j
theorem wb_ext {x y : Int} (hx : IsW x) (hy : IsW y) (h : ∀ j, j < 32 → wb x j = wb y j) : x = y := by
  have e : x.toNat = y.toNat := Nat.eq_of_testBit_eq fun j => by
    rcases Nat.lt_or_ge j 32 with hj | hj
    · exact h j hj
    · have p : 4294967296 ≤ 2 ^ j := by
        have := Nat.pow_le_pow_right (n := 2) (by decide) hj
        simpa using this
      rw [Nat.testBit_lt_two_pow (by have := hx.2; have := hx.1; omega), Nat.testBit_lt_two_pow (by have := hy.2; have := hy.1; omega)]
  have := hx.1
  have := hy.1
  omega
theorem wb_and {x y : Int} (hx : IsW x) (hy : IsW y) (j : Nat) : wb (bits .and .u32 x y) j = (wb x j && wb y j) := by
  unfold wb
  rw [u32_and x y hx.1 hx.2 hy.1 hy.2, Int.toNat_natCast, Nat.testBit_and]
theorem wb_less {x y : Int} (hx : IsW x) (hy : IsW y) (j : Nat) (hj : j < 32) : wb (bits .andNot .u32 x y) j = (wb x j && !wb y j) := by
  unfold wb
  rw [u32_andNot x y hx.1 hx.2 hy.1 hy.2, Int.toNat_natCast, Nat.testBit_and]
  congr 1
  have h := Nat.testBit_two_pow_sub_succ (n := 32) (x := y.toNat) (by have := hy.2; have := hy.1; omega) j
  rw [show 4294967295 - y.toNat = 2 ^ 32 - (y.toNat + 1) by omega, h]
  simp [hj]
theorem wb_from (k i : Int) (j : Nat) (hj : j < 32) : wb (fWd k i) j = decide (k - i * 32 ≤ (j : Int)) := by
  unfold wb fWd
  obtain ⟨s, hs, hs2⟩ : ∃ s : Nat, (fCl (k - i * 32)).toNat = s ∧ (s ≤ j ↔ k - i * 32 ≤ (j : Int)) := by
    refine ⟨_, rfl, ?_⟩
    unfold fCl
    split
    · split at * <;> omega
    · split at * <;> omega
  rw [hs]
  have e : ((4294967295 : Int) * 2 ^ s % 4294967296).toNat = (4294967295 * 2 ^ s) % 2 ^ 32 := by
    have : ((4294967295 : Int) * 2 ^ s % 4294967296) = (((4294967295 * 2 ^ s) % 2 ^ 32 : Nat) : Int) := by
      rw [Int.natCast_emod, Int.natCast_mul, Int.natCast_pow]
      rfl
    rw [this, Int.toNat_natCast]
  rw [e, Nat.testBit_mod_two_pow, Nat.testBit_mul_two_pow]
  have h1 : (4294967295 : Nat).testBit (j - s) = true := by
    have := Nat.testBit_two_pow_sub_one 32 (j - s)
    rw [show (4294967295 : Nat) = 2 ^ 32 - 1 by decide, this]
    simp
    omega
  rw [h1]
  simp [hj, hs2]
/-- A place of a set. -/
def bt (a b : Int) (k : Nat) : Bool := if k < 32 then wb a k else wb b (k - 32)
theorem wb_at {x : Int} (hx : IsW x) (j : Nat) : (bits .and .u32 (x / 2 ^ j) 1 == 1) = wb x j := by
  have hp : (0 : Int) < 2 ^ j := Int.pow_pos (by decide)
  have h1 : 0 ≤ x / 2 ^ j := Int.ediv_nonneg hx.1 (Int.le_of_lt hp)
  have h2 : x / 2 ^ j < 4294967296 := Int.lt_of_le_of_lt (Int.ediv_le_self _ hx.1) hx.2
  rw [u32_and _ 1 h1 h2 (by decide) (by decide)]
  unfold wb
  obtain ⟨n, rfl⟩ : ∃ n : Nat, x = (n : Int) := ⟨x.toNat, by have := hx.1; omega⟩
  have e : ((n : Int) / 2 ^ j).toNat = n / 2 ^ j := by
    have : ((n : Int) / 2 ^ j) = ((n / 2 ^ j : Nat) : Int) := by rw [Int.natCast_ediv, Int.natCast_pow]; rfl
    rw [this, Int.toNat_natCast]
  rw [e, Int.toNat_natCast, Nat.testBit_eq_decide_div_mod_eq, show (1 : Int).toNat = 1 from rfl, Nat.and_one_is_mod]
  have hm : n / 2 ^ j % 2 = 0 ∨ n / 2 ^ j % 2 = 1 := by omega
  rcases hm with h | h <;> simp [h]
theorem btAt_bt {a b : Int} (ha : IsW a) (hb : IsW b) (k : Nat) (hk : k < 64) : btAt a b (k : Int) = bt a b k := by
  unfold btAt bt
  have h0 : (0 : Int) ≤ (k : Int) := by omega
  have h1 : (k : Int) < 64 := by omega
  simp only [h0, h1, decide_true, Bool.true_and]
  by_cases h : k < 32
  · have e : ((k : Int) % 32).toNat = k := by omega
    rw [if_pos (by omega), if_pos h, e]
    exact wb_at ha k
  · have e : ((k : Int) % 32).toNat = k - 32 := by omega
    rw [if_neg (by omega), if_neg h, e]
    exact wb_at hb (k - 32)
theorem bt_ext {a b c d : Int} (ha : IsW a) (hb : IsW b) (hc : IsW c) (hd : IsW d) (h : ∀ k, k < 64 → bt a b k = bt c d k) : a = c ∧ b = d := by
  refine ⟨wb_ext ha hc fun j hj => ?_, wb_ext hb hd fun j hj => ?_⟩
  · have := h j (by omega)
    unfold bt at this
    rwa [if_pos hj, if_pos hj] at this
  · have := h (j + 32) (by omega)
    unfold bt at this
    rw [if_neg (by omega), if_neg (by omega), show j + 32 - 32 = j by omega] at this
    exact this
theorem bt_from (q : Int) (k : Nat) (hk : k < 64) : bt (fWd q 0) (fWd q 1) k = decide (q ≤ (k : Int)) := by
  unfold bt
  split
  · rename_i h
    rw [wb_from q 0 k h]
    congr 1
    exact propext (by omega)
  · rename_i h
    rw [wb_from q 1 (k - 32) (by omega)]
    congr 1
    exact propext (by omega)
theorem bt_and {a b c d : Int} (ha : IsW a) (hb : IsW b) (hc : IsW c) (hd : IsW d) (k : Nat) : bt (bits .and .u32 a c) (bits .and .u32 b d) k = (bt a b k && bt c d k) := by
  unfold bt
  split
  · exact wb_and ha hc k
  · exact wb_and hb hd (k - 32)
theorem bt_less {a b c d : Int} (ha : IsW a) (hb : IsW b) (hc : IsW c) (hd : IsW d) (k : Nat) (hk : k < 64) : bt (bits .andNot .u32 a c) (bits .andNot .u32 b d) k = (bt a b k && !bt c d k) := by
  unfold bt
  split
  · rename_i h
    exact wb_less ha hc k h
  · exact wb_less hb hd (k - 32) (by omega)
/-- Does a cut take a value? -/
def takesB (kind cv v : Int) : Bool := (kind == 1 && decide (v < cv)) || (kind == 2 && decide (cv < v)) || (kind == 3 && v == cv)
theorem bt_cut {f a b : Int} (ha : IsW a) (hb : IsW b) (kind cv : Int) (k : Nat) (hk : k < 64) : bt (lWd (dPlc f cv) kind a 0) (lWd (dPlc f cv) kind b 1) k = (bt a b k && !takesB kind cv (f + (k : Int))) := by
  have w0 := isW_fWd
  unfold lWd takesB
  by_cases h1 : kind = 1
  · subst h1
    rw [if_pos rfl, if_pos rfl, bt_and ha hb (w0 _ _) (w0 _ _), bt_from _ k hk]
    congr 1
    have : (dPlc f cv ≤ (k : Int)) ↔ ¬ (f + (k : Int) < cv) := by unfold dPlc; omega
    by_cases h : dPlc f cv ≤ (k : Int)
    · simp [h, this.1 h]
    · have h2 : f + (k : Int) < cv := by
        rcases Int.lt_or_le (f + (k : Int)) cv with h3 | h3
        · exact h3
        · exact absurd (this.2 (by omega)) h
      simp [h, h2]
  by_cases h2 : kind = 2
  · subst h2
    rw [if_neg (by decide), if_pos rfl, if_neg (by decide), if_pos rfl, bt_less ha hb (w0 _ _) (w0 _ _) k hk, bt_from _ k hk]
    congr 1
    have : (dPlc f cv + 1 ≤ (k : Int)) ↔ (cv < f + (k : Int)) := by unfold dPlc; omega
    by_cases h : dPlc f cv + 1 ≤ (k : Int)
    · simp [h, this.1 h]
    · have h3 : ¬ cv < f + (k : Int) := fun e => h (this.2 e)
      simp [h, h3]
  by_cases h3 : kind = 3
  · subst h3
    rw [if_neg (by decide), if_neg (by decide), if_pos rfl, if_neg (by decide), if_neg (by decide), if_pos rfl]
    unfold oWd
    rw [bt_less ha hb (isW_bits _ _ _) (isW_bits _ _ _) k hk, bt_less (w0 _ _) (w0 _ _) (w0 _ _) (w0 _ _) k hk, bt_from _ k hk, bt_from _ k hk]
    congr 1
    have : (dPlc f cv ≤ (k : Int) ∧ ¬ dPlc f cv + 1 ≤ (k : Int)) ↔ f + (k : Int) = cv := by unfold dPlc; omega
    by_cases h : f + (k : Int) = cv
    · have h4 := this.2 h
      simp [h, h4.1, h4.2]
    · by_cases h5 : dPlc f cv ≤ (k : Int)
      · have h6 : dPlc f cv + 1 ≤ (k : Int) := by
          rcases Int.lt_or_le (k : Int) (dPlc f cv + 1) with h7 | h7
          · exact absurd (this.1 ⟨h5, by omega⟩) h
          · exact h7
        simp [h, h5, h6]
      · simp [h, h5]
  · rw [if_neg h1, if_neg h2, if_neg h3, if_neg h1, if_neg h2, if_neg h3]
    simp [h1, h2, h3]
theorem bt_whole (lo hi : Int) (k : Nat) (hk : k < 64) : bt (wWd lo hi 0) (wWd lo hi 1) k = decide ((k : Int) ≤ hi - lo) := by
  have w0 := isW_fWd
  unfold wWd
  rw [bt_less (w0 _ _) (w0 _ _) (w0 _ _) (w0 _ _) k hk, bt_from _ k hk, bt_from _ k hk]
  have h0 : (0 : Int) ≤ (k : Int) := by omega
  by_cases h : (k : Int) ≤ hi - lo
  · have : ¬ hi - lo + 1 ≤ (k : Int) := by omega
    simp [h, h0, this]
  · have : hi - lo + 1 ≤ (k : Int) := by omega
    simp [h, h0, this]
/-- A cut of a script. -/
structure Ct where
  k : Int
  x : Int
  v : Int
theorem Dm.ext {d e : Dm} (h1 : d.f = e.f) (h2 : d.a = e.a) (h3 : d.b = e.b) : d = e := by
  cases d; cases e; simp_all
theorem cut_len (s : St) (k x v : Int) : (s.cut k x v).now.length = s.now.length ∧ (s.cut k x v).noted = s.noted ∧ (s.cut k x v).marks = s.marks := by
  unfold St.cut
  split
  · exact ⟨rfl, rfl, rfl⟩
  · split
    · exact ⟨List.length_set, rfl, rfl⟩
    · exact ⟨rfl, rfl, rfl⟩
/-- A cut that may be done leaves the domain cut, and the others. -/
theorem may_cut {s : St} (c : Ct) (h : s.may c.k c.x c.v = true) (y : Nat) (hy : y < s.now.length) : ∃ h2 : y < (s.cut c.k c.x c.v).now.length, (s.cut c.k c.x c.v).now[y] = if c.x = (y : Int) then s.now[y].cut c.k c.v else s.now[y] := by
  have hl := (cut_len s c.k c.x c.v).1
  refine ⟨by omega, ?_⟩
  cases hi : isB s.now.length c.x with
  | false =>
    have hne : c.x ≠ (y : Int) := fun e => by
      rw [e] at hi
      simp [isB] at hi
      omega
    have e := (cut_no (k := c.k) (v := c.v) hi).1
    simp only [e, if_neg hne]
  | true =>
    obtain ⟨q, hq, hq2⟩ : ∃ q : Nat, c.x = (q : Int) ∧ q < s.now.length := by
      simp [isB] at hi
      exact ⟨c.x.toNat, by omega, by omega⟩
    rw [hq] at h
    obtain ⟨e1, e2, e3⟩ := cut_yes (s := s) (k := c.k) (v := c.v) hq2
    rw [e3] at h
    simp only [hq]
    cases hw : s.now[q].went c.k c.v with
    | true =>
      have e4 : s.cut c.k q c.v = { s with now := s.now.set q (s.now[q].cut c.k c.v) } := by rw [e1, hw, if_pos rfl]
      simp only [e4]
      by_cases hyq : q = y
      · subst hyq
        simp
      · rw [List.getElem_set_ne hyq, if_neg (by omega)]
    | false =>
      have e4 : s.cut c.k q c.v = s := by rw [e1, hw]; rfl
      simp only [e4]
      by_cases hyq : q = y
      · subst hyq
        rw [if_pos rfl]
        unfold Dm.may at h
        unfold Dm.went at hw
        have heq : (s.now[q].cut c.k c.v).eqB s.now[q] = true := by
          cases h1 : (s.now[q].cut c.k c.v).eqB s.now[q] with
          | true => rfl
          | false =>
            rw [h1] at h hw
            simp at h hw
            rw [h] at hw
            cases hw
        unfold Dm.eqB at heq
        simp at heq
        exact (Dm.ext (d := s.now[q].cut c.k c.v) (e := s.now[q]) rfl heq.1 heq.2).symm
      · rw [if_neg (by omega)]
/-- Cuts, one behind the other. -/
def St.cuts : St → List Ct → Option St
  | s, [] => some s
  | s, c :: r => if s.may c.k c.x c.v then (s.cut c.k c.x c.v).cuts r else none
theorem good_cut {s : St} (hg : ∀ d ∈ s.now, d.Ok) (c : Ct) : ∀ d ∈ (s.cut c.k c.x c.v).now, d.Ok := by
  unfold St.cut
  split
  · exact hg
  · split
    · rename_i d hd _
      intro e he
      rcases List.mem_or_eq_of_mem_set he with he | rfl
      · exact hg e he
      · exact (hg d (List.mem_of_getElem? hd)).cut _ _
    · exact hg
/-- What is left behind cuts: as many variables, the same first values, and of the places those that no cut takes. -/
theorem cuts_bits {l : List Ct} {s t : St} (hg : ∀ d ∈ s.now, d.Ok) (h : s.cuts l = some t) : (∀ d ∈ t.now, d.Ok) ∧ t.now.length = s.now.length ∧ t.noted = s.noted ∧ t.marks = s.marks ∧ ∀ (y : Nat) (hy : y < s.now.length) (hy2 : y < t.now.length), t.now[y].f = s.now[y].f ∧ ∀ k, k < 64 → bt t.now[y].a t.now[y].b k = (bt s.now[y].a s.now[y].b k && l.all fun c => !(decide (c.x = (y : Int)) && takesB c.k c.v (s.now[y].f + (k : Int)))) := by
  induction l generalizing s with
  | nil =>
    injection h with h
    subst h
    exact ⟨hg, rfl, rfl, rfl, fun y hy _ => ⟨rfl, fun k _ => by simp⟩⟩
  | cons c r ih =>
    unfold St.cuts at h
    split at h
    · rename_i hm
      obtain ⟨g1, g2, g3, g4, g5⟩ := ih (good_cut hg c) h
      obtain ⟨q1, q2, q3⟩ := cut_len s c.k c.x c.v
      refine ⟨g1, g2.trans q1, g3.trans q2, g4.trans q3, fun y hy hy2 => ?_⟩
      obtain ⟨hy3, hcy⟩ := may_cut c hm y hy
      obtain ⟨e1, e2⟩ := g5 y hy3 hy2
      have hok := hg s.now[y] (List.getElem_mem hy)
      have hf : ((s.cut c.k c.x c.v).now[y]).f = s.now[y].f := by
        rw [hcy]
        split <;> rfl
      refine ⟨e1.trans hf, fun k hk => ?_⟩
      rw [e2 k hk, hf, List.all_cons, hcy]
      by_cases hx : c.x = (y : Int)
      · rw [if_pos hx]
        have hb := bt_cut (f := s.now[y].f) hok.a hok.b c.k c.v k hk
        show (bt (lWd (dPlc s.now[y].f c.v) c.k s.now[y].a 0) (lWd (dPlc s.now[y].f c.v) c.k s.now[y].b 1) k && _) = _
        rw [hb]
        simp [hx, Bool.and_assoc]
      · rw [if_neg hx]
        simp [hx]
    · cases h
/-- Two stores with the same places are one. -/
theorem now_ext {s t : St} (hs : ∀ d ∈ s.now, d.Ok) (ht : ∀ d ∈ t.now, d.Ok) (hl : s.now.length = t.now.length) (h : ∀ (y : Nat) (hy : y < s.now.length) (hy2 : y < t.now.length), s.now[y].f = t.now[y].f ∧ ∀ k, k < 64 → bt s.now[y].a s.now[y].b k = bt t.now[y].a t.now[y].b k) : s.now = t.now := by
  refine List.ext_getElem hl fun y hy hy2 => ?_
  obtain ⟨h1, h2⟩ := h y hy hy2
  have o1 := hs s.now[y] (List.getElem_mem hy)
  have o2 := ht t.now[y] (List.getElem_mem hy2)
  obtain ⟨e1, e2⟩ := bt_ext o1.a o1.b o2.a o2.b h2
  exact Dm.ext h1 e1 e2
/-- Cuts in another order leave the same domains. -/
theorem cuts_order {l r : List Ct} {s t u : St} (hg : ∀ d ∈ s.now, d.Ok) (hlr : ∀ c, c ∈ l ↔ c ∈ r) (h1 : s.cuts l = some t) (h2 : s.cuts r = some u) : t.now = u.now := by
  obtain ⟨a1, a2, _, _, a5⟩ := cuts_bits hg h1
  obtain ⟨b1, b2, _, _, b5⟩ := cuts_bits hg h2
  refine now_ext a1 b1 (a2.trans b2.symm) fun y hy hy2 => ?_
  obtain ⟨e1, e2⟩ := a5 y (by omega) hy
  obtain ⟨f1, f2⟩ := b5 y (by omega) hy2
  refine ⟨e1.trans f1.symm, fun k hk => ?_⟩
  rw [e2 k hk, f2 k hk]
  congr 1
  rw [Bool.eq_iff_iff, List.all_eq_true, List.all_eq_true]
  exact ⟨fun h c hc => h c ((hlr c).2 hc), fun h c hc => h c ((hlr c).1 hc)⟩
/-- A cut that takes nothing may be done, and leaves all. -/
theorem cut_nothing {s : St} (hg : ∀ d ∈ s.now, d.Ok) (c : Ct) (h : ∀ (y : Nat) (hy : y < s.now.length) k, k < 64 → c.x = (y : Int) → bt s.now[y].a s.now[y].b k = true → takesB c.k c.v (s.now[y].f + (k : Int)) = false) : s.may c.k c.x c.v = true ∧ s.cut c.k c.x c.v = s := by
  cases hi : isB s.now.length c.x with
  | false =>
    have := cut_no (k := c.k) (v := c.v) hi
    exact ⟨this.2.2, this.1⟩
  | true =>
    obtain ⟨q, hq, hq2⟩ : ∃ q : Nat, c.x = (q : Int) ∧ q < s.now.length := by
      simp [isB] at hi
      exact ⟨c.x.toNat, by omega, by omega⟩
    obtain ⟨e1, e2, e3⟩ := cut_yes (s := s) (k := c.k) (v := c.v) hq2
    have hok := hg s.now[q] (List.getElem_mem hq2)
    have hb := bt_ext (isW_lWd (at_ := dPlc s.now[q].f c.v) (k := c.k) (i := 0) hok.a) (isW_lWd (at_ := dPlc s.now[q].f c.v) (k := c.k) (i := 1) hok.b) hok.a hok.b fun k hk => by
      rw [bt_cut hok.a hok.b c.k c.v k hk]
      cases hbt : bt s.now[q].a s.now[q].b k with
      | false => rfl
      | true => rw [h q hq2 k hk hq hbt]; rfl
    have heq : (s.now[q].cut c.k c.v).eqB s.now[q] = true := by
      unfold Dm.eqB Dm.cut
      simp only [hb.1, hb.2, beq_self_eq_true, Bool.and_self]
    have hw : s.now[q].went c.k c.v = false := by unfold Dm.went; rw [heq]; rfl
    have hm : s.now[q].may c.k c.v = true := by unfold Dm.may; rw [heq]; rfl
    rw [hq]
    exact ⟨e3.trans hm, by rw [e1, hw]; rfl⟩
/-- The same cuts again leave all. -/
theorem cuts_again {l : List Ct} {s t : St} (hg : ∀ d ∈ s.now, d.Ok) (h : s.cuts l = some t) : ∀ r : List Ct, (∀ c ∈ r, c ∈ l) → t.cuts r = some t := by
  obtain ⟨a1, a2, _, _, a5⟩ := cuts_bits hg h
  intro r
  induction r with
  | nil => intro _; rfl
  | cons c r ih =>
    intro hr
    obtain ⟨m1, m2⟩ := cut_nothing a1 c (fun y hy k hk hx hb => by
      obtain ⟨e1, e2⟩ := a5 y (by omega) hy
      rw [e2 k hk] at hb
      rw [Bool.and_eq_true, List.all_eq_true] at hb
      have := hb.2 c (hr c List.mem_cons_self)
      rw [e1]
      simpa [hx] using this)
    unfold St.cuts
    rw [m1, if_pos rfl, m2]
    exact ih (fun c hc => hr c (List.mem_cons_of_mem _ hc))
end Go.Proofs.YtkipagelbcdhkaaGreatDoor
