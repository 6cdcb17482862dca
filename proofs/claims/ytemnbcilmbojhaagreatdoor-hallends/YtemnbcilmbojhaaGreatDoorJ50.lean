/-
  Put together: HlDiff, HlMe, HlEndsW.
-/
import Derived.Test.YtemnbcilmbojhaaGreatDoorJ48
import Derived.Test.YtemnbcilmbojhaaGreatDoorJ47
import Derived.Test.YtemnbcilmbojhaaGreatDoorJ49
import Derived.Test.YtemnbcilmbojhaaGreatDoorJ35
namespace Go.Proofs.YtemnbcilmbojhaaGreatDoor
open Go.RowKit

/-- Two places with the same value. -/
def clash (vs : List Int) (x y : Int) : Bool := decide (0 ≤ x) && (decide (x < (vs.length : Int)) && (decide (0 ≤ y) && (decide (y < (vs.length : Int)) && decide (vs.getD x.toNat 0 = vs.getD y.toNat 0))))
def DifTo (xs vs : List Int) (n : Nat) : Prop := ∀ i k, i < n → k < i → clash vs (xs.getD i 0) (xs.getD k 0) = false
def Dif (xs vs : List Int) : Prop := DifTo xs vs xs.length
theorem below_succ {p : Nat → Prop} {k : Nat} (h : ∀ j, j < k → p j) (hk : p k) : ∀ j, j < k + 1 → p j := fun j hj => by
  by_cases e : j = k
  · rw [e]
    exact hk
  · exact h j (by omega)
theorem dif_succ {xs vs : List Int} {i : Nat} (h : DifTo xs vs i) (h2 : ∀ j, j < i → clash vs (xs.getD i 0) (xs.getD j 0) = false) : DifTo xs vs (i + 1) := fun a b ha hb => by
  by_cases e : a = i
  · subst e
    exact h2 b hb
  · exact h a b (by omega) hb
def DfOut (xs vs : List Int) (w : World) (e : Ending) (w' : World) : Prop := (∃ b : Bool, e = .returned (.bool b) ∧ (b = true ↔ Dif xs vs)) ∧ Below w.heap.size w w'
set_option maxRecDepth 10000 in
set_option maxHeartbeats 4000000 in
theorem differ_any (xa va : Option Addr) (xc vc : Nat) (xs vs : List Int) (w : World) (hX : IntsAt w (.slice xa xs.length xc) xs) (hV : IntsAt w (.slice va vs.length vc) vs) (hl : xs.length ≤ 1000000) (_ : vs.length ≤ 1000000) : Calls Tryz.prog 16 #[.slice xa xs.length xc, .slice va vs.length vc] w (DfOut xs vs w) := by
  have HX : Hid (∀ w', Below w.heap.size w w' → ∀ k (hk : k < xs.length), ∃ b off, xa = some ⟨b, off, none⟩ ∧ w'.cell? ⟨b, off + k, none⟩ = some (.int .i64 xs[k])) := fun w' hb k hk => ints_cells (hX.below hb) k hk
  have HV : Hid (∀ w', Below w.heap.size w w' → ∀ k (hk : k < vs.length), ∃ b off, va = some ⟨b, off, none⟩ ∧ w'.cell? ⟨b, off + k, none⟩ = some (.int .i64 vs[k])) := fun w' hb k hk => ints_cells (hV.below hb) k hk
  clear hX hV
  go_enter Tryz.func16, Tryz.ntmps16
  go_wp2_with fail
  go_loopw [5] (fun iv wr => ∃ (i : Nat), iv = .int .i64 (i : Int) ∧ i ≤ xs.length ∧ Hid (DifTo xs vs i) ∧ Hid (Below w.heap.size w wr)) (fun iv _ => xs.length - (intOf iv).toNat)
  case atStart => exact ⟨0, rfl, Nat.zero_le _, (fun i k h => absurd h (Nat.not_lt_zero _)), Below.refl _ _⟩
  case round =>
  obtain ⟨i, rfl, hi, HA, HBr⟩ := hrel
  by_cases hin : i < xs.length
  case neg =>
    have hie : i = xs.length := by omega
    subst hie
    have hiI : ¬ (xs.length : Int) < (xs.length : Int) := by omega
    go_wp2_with fail
    go_ret
    exact ⟨⟨true, rfl, ⟨fun _ => HA.out, fun _ => rfl⟩⟩, HBr.out⟩
  case pos =>
  have hiI : (i : Int) < (xs.length : Int) := by omega
  go_upto_region 5 with fail
  go_loopw [6] (fun iv wy => ∃ (k : Nat), iv = .int .i64 (k : Int) ∧ k ≤ i ∧ Hid (∀ j, j < k → clash vs (xs.getD i 0) (xs.getD j 0) = false) ∧ Hid (Below w.heap.size w wy)) (fun iv _ => i - (intOf iv).toNat)
  case atStart => exact ⟨0, rfl, Nat.zero_le _, (fun j h => absurd h (Nat.not_lt_zero _)), HBr⟩
  case round =>
  obtain ⟨k, rfl, hk, HA2, HBy⟩ := hrel
  rename World => wy
  by_cases hkn : k < i
  case neg =>
    have hke : k = i := by omega
    subst hke
    have hkI : ¬ (k : Int) < (k : Int) := by omega
    go_wp2_with fail
    go_roundw
    case rel => exact ⟨k + 1, by go_num, hin, (dif_succ HA.out HA2.out), HBy⟩
    case measure => simp [intOf]; omega
  case pos =>
  have hkI : (k : Int) < (i : Int) := by omega
  have hkx : k < xs.length := by omega
  have hkxI : (k : Int) < (xs.length : Int) := by omega
  obtain ⟨b, off, rfl, _⟩ := HX.out wy HBy.out i hin
  have HC : Hid (∀ w', Below w.heap.size w w' → w'.cell? ⟨b, off + i, none⟩ = some (.int .i64 xs[i]) ∧ w'.cell? ⟨b, off + k, none⟩ = some (.int .i64 xs[k])) := fun w' hb => by
    obtain ⟨b1, o1, e1, c1⟩ := HX.out w' hb i hin
    injection e1 with e1
    injection e1 with e1 e2
    subst e1 e2
    obtain ⟨b1, o1, e1, c2⟩ := HX.out w' hb k hkx
    injection e1 with e1
    injection e1 with e1 e2
    subst e1 e2
    exact ⟨c1, c2⟩
  have HXY0 : xs.getD i 0 = xs[i] ∧ xs.getD k 0 = xs[k] := ⟨by rw [List.getD_eq_getElem?_getD, List.getElem?_eq_getElem hin]; rfl, by rw [List.getD_eq_getElem?_getD, List.getElem?_eq_getElem hkx]; rfl⟩
  obtain ⟨x, hx⟩ : ∃ x, xs[i] = x := ⟨_, rfl⟩
  obtain ⟨y, hy⟩ : ∃ y, xs[k] = y := ⟨_, rfl⟩
  rw [hx, hy] at HC HXY0
  have HXY : Hid (clash vs x y = false → clash vs (xs.getD i 0) (xs.getD k 0) = false) := fun h => by rw [HXY0.1, HXY0.2]; exact h
  have HYX : Hid (clash vs x y = true → ¬ Dif xs vs) := fun h hd => by
    have := hd i k hin hkn
    rw [HXY0.1, HXY0.2, h] at this
    cases this
  have HC2 : Hid (∀ w', Below wy.heap.size wy w' → w'.cell? ⟨b, off + i, none⟩ = some (.int .i64 x) ∧ w'.cell? ⟨b, off + k, none⟩ = some (.int .i64 y)) := fun w' hb => HC.out w' (bl_next HBy.out hb)
  clear hx hy HXY0 HC
  by_cases hx0 : 0 ≤ x
  case neg =>
    have HN : Hid (clash vs x y = false) := by show _ = _; unfold clash; simp; omega
    go_upto_region 7 with fail
    refine wp_region_T (fun w' => w'.cell? ⟨b, off + i, none⟩ = some (.int .i64 x) ∧ w'.cell? ⟨b, off + k, none⟩ = some (.int .i64 y)) (fun _ => True) [] (by kernel_rfl) ⟨HC2.out _ (Below.refl _ _).drew, trivial⟩ (fun hHeld => ?_)
    refine wpAnyT_takeB (i := 0) (oi := ⟨some 18, .move (.tmp 0), _, _, _, _⟩) (v := ?vR7c1x0) rfl (by kernel_rfl) (by kernel_rfl) (by kernel_rfl) (by kernel_rfl) (fun _ _ _ h => h) (Or.inl ⟨by rfl, ?hyR7c1x0⟩) (by assumption) ?restR7c1x0
    case hyR7c1x0 => (intro w hSw; (try dsimp only at hSw); go_simp; try (with_reducible rfl))
    try simp only [Act.put, List.setIfInBounds_toArray, List.set_cons_zero, List.set_cons_succ]
    refine wpAnyT_takeB (i := 1) (oi := ⟨some 19, .move (.tmp 5), _, _, _, _⟩) (v := ?vR7c1x1) rfl (by kernel_rfl) (by kernel_rfl) (by kernel_rfl) (by kernel_rfl) (fun _ _ _ h => h) (Or.inl ⟨by rfl, ?hyR7c1x1⟩) (by assumption) ?restR7c1x1
    case hyR7c1x1 => (intro w hSw; (try dsimp only at hSw); go_simp; try (with_reducible rfl))
    try simp only [Act.put, List.setIfInBounds_toArray, List.set_cons_zero, List.set_cons_succ]
    refine wpAnyT_takeB (i := 2) (oi := ⟨some 20, .indexAddr 28 (.tmp 18) (.tmp 19), _, _, _, _⟩) (v := ?vR7c1x2) rfl (by kernel_rfl) (by kernel_rfl) (by kernel_rfl) (by kernel_rfl) (fun _ _ _ h => h) (Or.inl ⟨by rfl, ?hyR7c1x2⟩) (by assumption) ?restR7c1x2
    case hyR7c1x2 => (intro w hSw; (try dsimp only at hSw); go_simp; try (with_reducible rfl))
    try simp only [Act.put, List.setIfInBounds_toArray, List.set_cons_zero, List.set_cons_succ]
    refine wpAnyT_takeB (i := 3) (oi := ⟨some 21, .load 3 (.tmp 20), _, _, _, _⟩) (v := ?vR7c1x3) rfl (by kernel_rfl) (by kernel_rfl) (by kernel_rfl) (by kernel_rfl) (fun _ _ _ h => h) (Or.inl ⟨by rfl, ?hyR7c1x3⟩) (by assumption) ?restR7c1x3
    case hyR7c1x3 => (intro w hSw; (try dsimp only at hSw); go_simp; try (with_reducible rfl))
    try simp only [Act.put, List.setIfInBounds_toArray, List.set_cons_zero, List.set_cons_succ]
    refine wpAnyT_takeB (i := 4) (oi := ⟨some 22, .binOp .geq 3 (.tmp 21) ((.const (.int .i64 0))) 3, _, _, _, _⟩) (v := ?vR7c1x4) rfl (by kernel_rfl) (by kernel_rfl) (by kernel_rfl) (by kernel_rfl) (fun _ _ _ h => h) (Or.inl ⟨by rfl, ?hyR7c1x4⟩) (by assumption) ?restR7c1x4
    case hyR7c1x4 => (intro w hSw; (try dsimp only at hSw); go_simp; try (with_reducible rfl))
    try simp only [Act.put, List.setIfInBounds_toArray, List.set_cons_zero, List.set_cons_succ]
    refine wpAnyT_takeB (i := 5) (oi := ⟨some 23, .move (.tmp 22), _, _, _, _⟩) (v := ?vR7c1x5) rfl (by kernel_rfl) (by kernel_rfl) (by kernel_rfl) (by kernel_rfl) (fun _ _ _ h => h) (Or.inl ⟨by rfl, ?hyR7c1x5⟩) (by assumption) ?restR7c1x5
    case hyR7c1x5 => (intro w hSw; (try dsimp only at hSw); go_simp; try (with_reducible rfl))
    try simp only [Act.put, List.setIfInBounds_toArray, List.set_cons_zero, List.set_cons_succ]
    refine wpAnyT_takeB (i := 6) (oi := ⟨some 24, .move (.tmp 0), _, _, _, _⟩) (v := undef) rfl (by kernel_rfl) (by kernel_rfl) (by kernel_rfl) (by kernel_rfl) (fun _ _ _ h => h) (Or.inr ⟨by rfl, rfl⟩) (by assumption) ?restR7c1x6
    try simp only [Act.put, List.setIfInBounds_toArray, List.set_cons_zero, List.set_cons_succ]
    refine wpAnyT_takeB (i := 7) (oi := ⟨some 25, .move (.tmp 5), _, _, _, _⟩) (v := undef) rfl (by kernel_rfl) (by kernel_rfl) (by kernel_rfl) (by kernel_rfl) (fun _ _ _ h => h) (Or.inr ⟨by rfl, rfl⟩) (by assumption) ?restR7c1x7
    try simp only [Act.put, List.setIfInBounds_toArray, List.set_cons_zero, List.set_cons_succ]
    refine wpAnyT_takeB (i := 8) (oi := ⟨some 26, .indexAddr 28 (.tmp 24) (.tmp 25), _, _, _, _⟩) (v := undef) rfl (by kernel_rfl) (by kernel_rfl) (by kernel_rfl) (by kernel_rfl) (fun _ _ _ h => h) (Or.inr ⟨by rfl, rfl⟩) (by assumption) ?restR7c1x8
    try simp only [Act.put, List.setIfInBounds_toArray, List.set_cons_zero, List.set_cons_succ]
    refine wpAnyT_takeB (i := 9) (oi := ⟨some 27, .load 3 (.tmp 26), _, _, _, _⟩) (v := undef) rfl (by kernel_rfl) (by kernel_rfl) (by kernel_rfl) (by kernel_rfl) (fun _ _ _ h => h) (Or.inr ⟨by rfl, rfl⟩) (by assumption) ?restR7c1x9
    try simp only [Act.put, List.setIfInBounds_toArray, List.set_cons_zero, List.set_cons_succ]
    refine wpAnyT_takeB (i := 10) (oi := ⟨some 28, .move (.tmp 1), _, _, _, _⟩) (v := undef) rfl (by kernel_rfl) (by kernel_rfl) (by kernel_rfl) (by kernel_rfl) (fun _ _ _ h => h) (Or.inr ⟨by rfl, rfl⟩) (by assumption) ?restR7c1x10
    try simp only [Act.put, List.setIfInBounds_toArray, List.set_cons_zero, List.set_cons_succ]
    refine wpAnyT_takeB (i := 11) (oi := ⟨some 29, .call { callee := .builtin .len, args := #[(.tmp 28)], argTypes := #[28] }, _, _, _, _⟩) (v := undef) rfl (by kernel_rfl) (by kernel_rfl) (by kernel_rfl) (by kernel_rfl) (fun _ _ _ h => h) (Or.inr ⟨by rfl, rfl⟩) (by assumption) ?restR7c1x11
    try simp only [Act.put, List.setIfInBounds_toArray, List.set_cons_zero, List.set_cons_succ]
    refine wpAnyT_takeB (i := 12) (oi := ⟨some 30, .binOp .lss 3 (.tmp 27) (.tmp 29) 3, _, _, _, _⟩) (v := undef) rfl (by kernel_rfl) (by kernel_rfl) (by kernel_rfl) (by kernel_rfl) (fun _ _ _ h => h) (Or.inr ⟨by rfl, rfl⟩) (by assumption) ?restR7c1x12
    try simp only [Act.put, List.setIfInBounds_toArray, List.set_cons_zero, List.set_cons_succ]
    refine wpAnyT_takeB (i := 13) (oi := ⟨some 31, .pick (.tmp 23) (.tmp 30) ((.const (.bool false))), _, _, _, _⟩) (v := ?vR7c1x13) rfl (by kernel_rfl) (by kernel_rfl) (by kernel_rfl) (by kernel_rfl) (fun _ _ _ h => h) (Or.inl ⟨by rfl, ?hyR7c1x13⟩) (by assumption) ?restR7c1x13
    case hyR7c1x13 => (intro w hSw; (try dsimp only at hSw); go_simp; try (with_reducible rfl))
    try simp only [Act.put, List.setIfInBounds_toArray, List.set_cons_zero, List.set_cons_succ]
    refine wpAnyT_takeB (i := 14) (oi := ⟨some 32, .move (.tmp 31), _, _, _, _⟩) (v := ?vR7c1x14) rfl (by kernel_rfl) (by kernel_rfl) (by kernel_rfl) (by kernel_rfl) (fun _ _ _ h => h) (Or.inl ⟨by rfl, ?hyR7c1x14⟩) (by assumption) ?restR7c1x14
    case hyR7c1x14 => (intro w hSw; (try dsimp only at hSw); go_simp; try (with_reducible rfl))
    try simp only [Act.put, List.setIfInBounds_toArray, List.set_cons_zero, List.set_cons_succ]
    refine wpAnyT_takeB (i := 15) (oi := ⟨some 33, .move (.tmp 0), _, _, _, _⟩) (v := undef) rfl (by kernel_rfl) (by kernel_rfl) (by kernel_rfl) (by kernel_rfl) (fun _ _ _ h => h) (Or.inr ⟨by rfl, rfl⟩) (by assumption) ?restR7c1x15
    try simp only [Act.put, List.setIfInBounds_toArray, List.set_cons_zero, List.set_cons_succ]
    refine wpAnyT_takeB (i := 16) (oi := ⟨some 34, .move (.tmp 6), _, _, _, _⟩) (v := undef) rfl (by kernel_rfl) (by kernel_rfl) (by kernel_rfl) (by kernel_rfl) (fun _ _ _ h => h) (Or.inr ⟨by rfl, rfl⟩) (by assumption) ?restR7c1x16
    try simp only [Act.put, List.setIfInBounds_toArray, List.set_cons_zero, List.set_cons_succ]
    refine wpAnyT_takeB (i := 17) (oi := ⟨some 35, .indexAddr 28 (.tmp 33) (.tmp 34), _, _, _, _⟩) (v := undef) rfl (by kernel_rfl) (by kernel_rfl) (by kernel_rfl) (by kernel_rfl) (fun _ _ _ h => h) (Or.inr ⟨by rfl, rfl⟩) (by assumption) ?restR7c1x17
    try simp only [Act.put, List.setIfInBounds_toArray, List.set_cons_zero, List.set_cons_succ]
    refine wpAnyT_takeB (i := 18) (oi := ⟨some 36, .load 3 (.tmp 35), _, _, _, _⟩) (v := undef) rfl (by kernel_rfl) (by kernel_rfl) (by kernel_rfl) (by kernel_rfl) (fun _ _ _ h => h) (Or.inr ⟨by rfl, rfl⟩) (by assumption) ?restR7c1x18
    try simp only [Act.put, List.setIfInBounds_toArray, List.set_cons_zero, List.set_cons_succ]
    refine wpAnyT_takeB (i := 19) (oi := ⟨some 37, .binOp .geq 3 (.tmp 36) ((.const (.int .i64 0))) 3, _, _, _, _⟩) (v := undef) rfl (by kernel_rfl) (by kernel_rfl) (by kernel_rfl) (by kernel_rfl) (fun _ _ _ h => h) (Or.inr ⟨by rfl, rfl⟩) (by assumption) ?restR7c1x19
    try simp only [Act.put, List.setIfInBounds_toArray, List.set_cons_zero, List.set_cons_succ]
    refine wpAnyT_takeB (i := 20) (oi := ⟨some 38, .pick (.tmp 32) (.tmp 37) ((.const (.bool false))), _, _, _, _⟩) (v := ?vR7c1x20) rfl (by kernel_rfl) (by kernel_rfl) (by kernel_rfl) (by kernel_rfl) (fun _ _ _ h => h) (Or.inl ⟨by rfl, ?hyR7c1x20⟩) (by assumption) ?restR7c1x20
    case hyR7c1x20 => (intro w hSw; (try dsimp only at hSw); go_simp; try (with_reducible rfl))
    try simp only [Act.put, List.setIfInBounds_toArray, List.set_cons_zero, List.set_cons_succ]
    refine wpAnyT_takeB (i := 21) (oi := ⟨some 39, .move (.tmp 38), _, _, _, _⟩) (v := ?vR7c1x21) rfl (by kernel_rfl) (by kernel_rfl) (by kernel_rfl) (by kernel_rfl) (fun _ _ _ h => h) (Or.inl ⟨by rfl, ?hyR7c1x21⟩) (by assumption) ?restR7c1x21
    case hyR7c1x21 => (intro w hSw; (try dsimp only at hSw); go_simp; try (with_reducible rfl))
    try simp only [Act.put, List.setIfInBounds_toArray, List.set_cons_zero, List.set_cons_succ]
    refine wpAnyT_takeB (i := 22) (oi := ⟨some 40, .move (.tmp 0), _, _, _, _⟩) (v := undef) rfl (by kernel_rfl) (by kernel_rfl) (by kernel_rfl) (by kernel_rfl) (fun _ _ _ h => h) (Or.inr ⟨by rfl, rfl⟩) (by assumption) ?restR7c1x22
    try simp only [Act.put, List.setIfInBounds_toArray, List.set_cons_zero, List.set_cons_succ]
    refine wpAnyT_takeB (i := 23) (oi := ⟨some 41, .move (.tmp 6), _, _, _, _⟩) (v := undef) rfl (by kernel_rfl) (by kernel_rfl) (by kernel_rfl) (by kernel_rfl) (fun _ _ _ h => h) (Or.inr ⟨by rfl, rfl⟩) (by assumption) ?restR7c1x23
    try simp only [Act.put, List.setIfInBounds_toArray, List.set_cons_zero, List.set_cons_succ]
    refine wpAnyT_takeB (i := 24) (oi := ⟨some 42, .indexAddr 28 (.tmp 40) (.tmp 41), _, _, _, _⟩) (v := undef) rfl (by kernel_rfl) (by kernel_rfl) (by kernel_rfl) (by kernel_rfl) (fun _ _ _ h => h) (Or.inr ⟨by rfl, rfl⟩) (by assumption) ?restR7c1x24
    try simp only [Act.put, List.setIfInBounds_toArray, List.set_cons_zero, List.set_cons_succ]
    refine wpAnyT_takeB (i := 25) (oi := ⟨some 43, .load 3 (.tmp 42), _, _, _, _⟩) (v := undef) rfl (by kernel_rfl) (by kernel_rfl) (by kernel_rfl) (by kernel_rfl) (fun _ _ _ h => h) (Or.inr ⟨by rfl, rfl⟩) (by assumption) ?restR7c1x25
    try simp only [Act.put, List.setIfInBounds_toArray, List.set_cons_zero, List.set_cons_succ]
    refine wpAnyT_takeB (i := 26) (oi := ⟨some 44, .move (.tmp 1), _, _, _, _⟩) (v := undef) rfl (by kernel_rfl) (by kernel_rfl) (by kernel_rfl) (by kernel_rfl) (fun _ _ _ h => h) (Or.inr ⟨by rfl, rfl⟩) (by assumption) ?restR7c1x26
    try simp only [Act.put, List.setIfInBounds_toArray, List.set_cons_zero, List.set_cons_succ]
    refine wpAnyT_takeB (i := 27) (oi := ⟨some 45, .call { callee := .builtin .len, args := #[(.tmp 44)], argTypes := #[28] }, _, _, _, _⟩) (v := undef) rfl (by kernel_rfl) (by kernel_rfl) (by kernel_rfl) (by kernel_rfl) (fun _ _ _ h => h) (Or.inr ⟨by rfl, rfl⟩) (by assumption) ?restR7c1x27
    try simp only [Act.put, List.setIfInBounds_toArray, List.set_cons_zero, List.set_cons_succ]
    refine wpAnyT_takeB (i := 28) (oi := ⟨some 46, .binOp .lss 3 (.tmp 43) (.tmp 45) 3, _, _, _, _⟩) (v := undef) rfl (by kernel_rfl) (by kernel_rfl) (by kernel_rfl) (by kernel_rfl) (fun _ _ _ h => h) (Or.inr ⟨by rfl, rfl⟩) (by assumption) ?restR7c1x28
    try simp only [Act.put, List.setIfInBounds_toArray, List.set_cons_zero, List.set_cons_succ]
    refine wpAnyT_takeB (i := 29) (oi := ⟨some 47, .pick (.tmp 39) (.tmp 46) ((.const (.bool false))), _, _, _, _⟩) (v := ?vR7c1x29) rfl (by kernel_rfl) (by kernel_rfl) (by kernel_rfl) (by kernel_rfl) (fun _ _ _ h => h) (Or.inl ⟨by rfl, ?hyR7c1x29⟩) (by assumption) ?restR7c1x29
    case hyR7c1x29 => (intro w hSw; (try dsimp only at hSw); go_simp; try (with_reducible rfl))
    try simp only [Act.put, List.setIfInBounds_toArray, List.set_cons_zero, List.set_cons_succ]
    refine wpAnyT_takeB (i := 30) (oi := ⟨some 48, .move (.tmp 47), _, _, _, _⟩) (v := ?vR7c1x30) rfl (by kernel_rfl) (by kernel_rfl) (by kernel_rfl) (by kernel_rfl) (fun _ _ _ h => h) (Or.inl ⟨by rfl, ?hyR7c1x30⟩) (by assumption) ?restR7c1x30
    case hyR7c1x30 => (intro w hSw; (try dsimp only at hSw); go_simp; try (with_reducible rfl))
    try simp only [Act.put, List.setIfInBounds_toArray, List.set_cons_zero, List.set_cons_succ]
    refine wpAnyT_takeB (i := 31) (oi := ⟨some 49, .move (.tmp 1), _, _, _, _⟩) (v := undef) rfl (by kernel_rfl) (by kernel_rfl) (by kernel_rfl) (by kernel_rfl) (fun _ _ _ h => h) (Or.inr ⟨by rfl, rfl⟩) (by assumption) ?restR7c1x31
    try simp only [Act.put, List.setIfInBounds_toArray, List.set_cons_zero, List.set_cons_succ]
    refine wpAnyT_takeB (i := 32) (oi := ⟨some 50, .move (.tmp 0), _, _, _, _⟩) (v := undef) rfl (by kernel_rfl) (by kernel_rfl) (by kernel_rfl) (by kernel_rfl) (fun _ _ _ h => h) (Or.inr ⟨by rfl, rfl⟩) (by assumption) ?restR7c1x32
    try simp only [Act.put, List.setIfInBounds_toArray, List.set_cons_zero, List.set_cons_succ]
    refine wpAnyT_takeB (i := 33) (oi := ⟨some 51, .move (.tmp 5), _, _, _, _⟩) (v := undef) rfl (by kernel_rfl) (by kernel_rfl) (by kernel_rfl) (by kernel_rfl) (fun _ _ _ h => h) (Or.inr ⟨by rfl, rfl⟩) (by assumption) ?restR7c1x33
    try simp only [Act.put, List.setIfInBounds_toArray, List.set_cons_zero, List.set_cons_succ]
    refine wpAnyT_takeB (i := 34) (oi := ⟨some 52, .indexAddr 28 (.tmp 50) (.tmp 51), _, _, _, _⟩) (v := undef) rfl (by kernel_rfl) (by kernel_rfl) (by kernel_rfl) (by kernel_rfl) (fun _ _ _ h => h) (Or.inr ⟨by rfl, rfl⟩) (by assumption) ?restR7c1x34
    try simp only [Act.put, List.setIfInBounds_toArray, List.set_cons_zero, List.set_cons_succ]
    refine wpAnyT_takeB (i := 35) (oi := ⟨some 53, .load 3 (.tmp 52), _, _, _, _⟩) (v := undef) rfl (by kernel_rfl) (by kernel_rfl) (by kernel_rfl) (by kernel_rfl) (fun _ _ _ h => h) (Or.inr ⟨by rfl, rfl⟩) (by assumption) ?restR7c1x35
    try simp only [Act.put, List.setIfInBounds_toArray, List.set_cons_zero, List.set_cons_succ]
    refine wpAnyT_takeB (i := 36) (oi := ⟨some 54, .indexAddr 28 (.tmp 49) (.tmp 53), _, _, _, _⟩) (v := undef) rfl (by kernel_rfl) (by kernel_rfl) (by kernel_rfl) (by kernel_rfl) (fun _ _ _ h => h) (Or.inr ⟨by rfl, rfl⟩) (by assumption) ?restR7c1x36
    try simp only [Act.put, List.setIfInBounds_toArray, List.set_cons_zero, List.set_cons_succ]
    refine wpAnyT_takeB (i := 37) (oi := ⟨some 55, .load 3 (.tmp 54), _, _, _, _⟩) (v := undef) rfl (by kernel_rfl) (by kernel_rfl) (by kernel_rfl) (by kernel_rfl) (fun _ _ _ h => h) (Or.inr ⟨by rfl, rfl⟩) (by assumption) ?restR7c1x37
    try simp only [Act.put, List.setIfInBounds_toArray, List.set_cons_zero, List.set_cons_succ]
    refine wpAnyT_takeB (i := 38) (oi := ⟨some 56, .move (.tmp 1), _, _, _, _⟩) (v := undef) rfl (by kernel_rfl) (by kernel_rfl) (by kernel_rfl) (by kernel_rfl) (fun _ _ _ h => h) (Or.inr ⟨by rfl, rfl⟩) (by assumption) ?restR7c1x38
    try simp only [Act.put, List.setIfInBounds_toArray, List.set_cons_zero, List.set_cons_succ]
    refine wpAnyT_takeB (i := 39) (oi := ⟨some 57, .move (.tmp 0), _, _, _, _⟩) (v := undef) rfl (by kernel_rfl) (by kernel_rfl) (by kernel_rfl) (by kernel_rfl) (fun _ _ _ h => h) (Or.inr ⟨by rfl, rfl⟩) (by assumption) ?restR7c1x39
    try simp only [Act.put, List.setIfInBounds_toArray, List.set_cons_zero, List.set_cons_succ]
    refine wpAnyT_takeB (i := 40) (oi := ⟨some 58, .move (.tmp 6), _, _, _, _⟩) (v := undef) rfl (by kernel_rfl) (by kernel_rfl) (by kernel_rfl) (by kernel_rfl) (fun _ _ _ h => h) (Or.inr ⟨by rfl, rfl⟩) (by assumption) ?restR7c1x40
    try simp only [Act.put, List.setIfInBounds_toArray, List.set_cons_zero, List.set_cons_succ]
    refine wpAnyT_takeB (i := 41) (oi := ⟨some 59, .indexAddr 28 (.tmp 57) (.tmp 58), _, _, _, _⟩) (v := undef) rfl (by kernel_rfl) (by kernel_rfl) (by kernel_rfl) (by kernel_rfl) (fun _ _ _ h => h) (Or.inr ⟨by rfl, rfl⟩) (by assumption) ?restR7c1x41
    try simp only [Act.put, List.setIfInBounds_toArray, List.set_cons_zero, List.set_cons_succ]
    refine wpAnyT_takeB (i := 42) (oi := ⟨some 60, .load 3 (.tmp 59), _, _, _, _⟩) (v := undef) rfl (by kernel_rfl) (by kernel_rfl) (by kernel_rfl) (by kernel_rfl) (fun _ _ _ h => h) (Or.inr ⟨by rfl, rfl⟩) (by assumption) ?restR7c1x42
    try simp only [Act.put, List.setIfInBounds_toArray, List.set_cons_zero, List.set_cons_succ]
    refine wpAnyT_takeB (i := 43) (oi := ⟨some 61, .indexAddr 28 (.tmp 56) (.tmp 60), _, _, _, _⟩) (v := undef) rfl (by kernel_rfl) (by kernel_rfl) (by kernel_rfl) (by kernel_rfl) (fun _ _ _ h => h) (Or.inr ⟨by rfl, rfl⟩) (by assumption) ?restR7c1x43
    try simp only [Act.put, List.setIfInBounds_toArray, List.set_cons_zero, List.set_cons_succ]
    refine wpAnyT_takeB (i := 44) (oi := ⟨some 62, .load 3 (.tmp 61), _, _, _, _⟩) (v := undef) rfl (by kernel_rfl) (by kernel_rfl) (by kernel_rfl) (by kernel_rfl) (fun _ _ _ h => h) (Or.inr ⟨by rfl, rfl⟩) (by assumption) ?restR7c1x44
    try simp only [Act.put, List.setIfInBounds_toArray, List.set_cons_zero, List.set_cons_succ]
    refine wpAnyT_takeB (i := 45) (oi := ⟨some 63, .binOp .eql 3 (.tmp 55) (.tmp 62) 3, _, _, _, _⟩) (v := undef) rfl (by kernel_rfl) (by kernel_rfl) (by kernel_rfl) (by kernel_rfl) (fun _ _ _ h => h) (Or.inr ⟨by rfl, rfl⟩) (by assumption) ?restR7c1x45
    try simp only [Act.put, List.setIfInBounds_toArray, List.set_cons_zero, List.set_cons_succ]
    refine wpAnyT_takeB (i := 46) (oi := ⟨some 64, .pick (.tmp 48) (.tmp 63) ((.const (.bool false))), _, _, _, _⟩) (v := ?vR7c1x46) rfl (by kernel_rfl) (by kernel_rfl) (by kernel_rfl) (by kernel_rfl) (fun _ _ _ h => h) (Or.inl ⟨by rfl, ?hyR7c1x46⟩) (by assumption) ?restR7c1x46
    case hyR7c1x46 => (intro w hSw; (try dsimp only at hSw); go_simp; try (with_reducible rfl))
    try simp only [Act.put, List.setIfInBounds_toArray, List.set_cons_zero, List.set_cons_succ]
    refine wpAnyT_done (by kernel_rfl) ?_ _
    go_wp2_with fail
    go_roundw
    case rel => exact ⟨k + 1, by go_num, hkn, (below_succ HA2.out (HXY.out HN.out)), HBy.out.trans ((Below.refl _ _).drew.mono HBy.out.size)⟩
    case measure => simp [intOf]; omega
  case pos =>
  by_cases hx1 : x < (vs.length : Int)
  case neg =>
    have HN : Hid (clash vs x y = false) := by show _ = _; unfold clash; simp; omega
    go_upto_region 7 with fail
    refine wp_region_T (fun w' => w'.cell? ⟨b, off + i, none⟩ = some (.int .i64 x) ∧ w'.cell? ⟨b, off + k, none⟩ = some (.int .i64 y)) (fun _ => True) [] (by kernel_rfl) ⟨HC2.out _ (Below.refl _ _).drew, trivial⟩ (fun hHeld => ?_)
    refine wpAnyT_takeB (i := 0) (oi := ⟨some 18, .move (.tmp 0), _, _, _, _⟩) (v := ?vR7c2x0) rfl (by kernel_rfl) (by kernel_rfl) (by kernel_rfl) (by kernel_rfl) (fun _ _ _ h => h) (Or.inl ⟨by rfl, ?hyR7c2x0⟩) (by assumption) ?restR7c2x0
    case hyR7c2x0 => (intro w hSw; (try dsimp only at hSw); go_simp; try (with_reducible rfl))
    try simp only [Act.put, List.setIfInBounds_toArray, List.set_cons_zero, List.set_cons_succ]
    refine wpAnyT_takeB (i := 1) (oi := ⟨some 19, .move (.tmp 5), _, _, _, _⟩) (v := ?vR7c2x1) rfl (by kernel_rfl) (by kernel_rfl) (by kernel_rfl) (by kernel_rfl) (fun _ _ _ h => h) (Or.inl ⟨by rfl, ?hyR7c2x1⟩) (by assumption) ?restR7c2x1
    case hyR7c2x1 => (intro w hSw; (try dsimp only at hSw); go_simp; try (with_reducible rfl))
    try simp only [Act.put, List.setIfInBounds_toArray, List.set_cons_zero, List.set_cons_succ]
    refine wpAnyT_takeB (i := 2) (oi := ⟨some 20, .indexAddr 28 (.tmp 18) (.tmp 19), _, _, _, _⟩) (v := ?vR7c2x2) rfl (by kernel_rfl) (by kernel_rfl) (by kernel_rfl) (by kernel_rfl) (fun _ _ _ h => h) (Or.inl ⟨by rfl, ?hyR7c2x2⟩) (by assumption) ?restR7c2x2
    case hyR7c2x2 => (intro w hSw; (try dsimp only at hSw); go_simp; try (with_reducible rfl))
    try simp only [Act.put, List.setIfInBounds_toArray, List.set_cons_zero, List.set_cons_succ]
    refine wpAnyT_takeB (i := 3) (oi := ⟨some 21, .load 3 (.tmp 20), _, _, _, _⟩) (v := ?vR7c2x3) rfl (by kernel_rfl) (by kernel_rfl) (by kernel_rfl) (by kernel_rfl) (fun _ _ _ h => h) (Or.inl ⟨by rfl, ?hyR7c2x3⟩) (by assumption) ?restR7c2x3
    case hyR7c2x3 => (intro w hSw; (try dsimp only at hSw); go_simp; try (with_reducible rfl))
    try simp only [Act.put, List.setIfInBounds_toArray, List.set_cons_zero, List.set_cons_succ]
    refine wpAnyT_takeB (i := 4) (oi := ⟨some 22, .binOp .geq 3 (.tmp 21) ((.const (.int .i64 0))) 3, _, _, _, _⟩) (v := ?vR7c2x4) rfl (by kernel_rfl) (by kernel_rfl) (by kernel_rfl) (by kernel_rfl) (fun _ _ _ h => h) (Or.inl ⟨by rfl, ?hyR7c2x4⟩) (by assumption) ?restR7c2x4
    case hyR7c2x4 => (intro w hSw; (try dsimp only at hSw); go_simp; try (with_reducible rfl))
    try simp only [Act.put, List.setIfInBounds_toArray, List.set_cons_zero, List.set_cons_succ]
    refine wpAnyT_takeB (i := 5) (oi := ⟨some 23, .move (.tmp 22), _, _, _, _⟩) (v := ?vR7c2x5) rfl (by kernel_rfl) (by kernel_rfl) (by kernel_rfl) (by kernel_rfl) (fun _ _ _ h => h) (Or.inl ⟨by rfl, ?hyR7c2x5⟩) (by assumption) ?restR7c2x5
    case hyR7c2x5 => (intro w hSw; (try dsimp only at hSw); go_simp; try (with_reducible rfl))
    try simp only [Act.put, List.setIfInBounds_toArray, List.set_cons_zero, List.set_cons_succ]
    refine wpAnyT_takeB (i := 6) (oi := ⟨some 24, .move (.tmp 0), _, _, _, _⟩) (v := ?vR7c2x6) rfl (by kernel_rfl) (by kernel_rfl) (by kernel_rfl) (by kernel_rfl) (fun _ _ _ h => h) (Or.inl ⟨by rfl, ?hyR7c2x6⟩) (by assumption) ?restR7c2x6
    case hyR7c2x6 => (intro w hSw; (try dsimp only at hSw); go_simp; try (with_reducible rfl))
    try simp only [Act.put, List.setIfInBounds_toArray, List.set_cons_zero, List.set_cons_succ]
    refine wpAnyT_takeB (i := 7) (oi := ⟨some 25, .move (.tmp 5), _, _, _, _⟩) (v := ?vR7c2x7) rfl (by kernel_rfl) (by kernel_rfl) (by kernel_rfl) (by kernel_rfl) (fun _ _ _ h => h) (Or.inl ⟨by rfl, ?hyR7c2x7⟩) (by assumption) ?restR7c2x7
    case hyR7c2x7 => (intro w hSw; (try dsimp only at hSw); go_simp; try (with_reducible rfl))
    try simp only [Act.put, List.setIfInBounds_toArray, List.set_cons_zero, List.set_cons_succ]
    refine wpAnyT_takeB (i := 8) (oi := ⟨some 26, .indexAddr 28 (.tmp 24) (.tmp 25), _, _, _, _⟩) (v := ?vR7c2x8) rfl (by kernel_rfl) (by kernel_rfl) (by kernel_rfl) (by kernel_rfl) (fun _ _ _ h => h) (Or.inl ⟨by rfl, ?hyR7c2x8⟩) (by assumption) ?restR7c2x8
    case hyR7c2x8 => (intro w hSw; (try dsimp only at hSw); go_simp; try (with_reducible rfl))
    try simp only [Act.put, List.setIfInBounds_toArray, List.set_cons_zero, List.set_cons_succ]
    refine wpAnyT_takeB (i := 9) (oi := ⟨some 27, .load 3 (.tmp 26), _, _, _, _⟩) (v := ?vR7c2x9) rfl (by kernel_rfl) (by kernel_rfl) (by kernel_rfl) (by kernel_rfl) (fun _ _ _ h => h) (Or.inl ⟨by rfl, ?hyR7c2x9⟩) (by assumption) ?restR7c2x9
    case hyR7c2x9 => (intro w hSw; (try dsimp only at hSw); go_simp; try (with_reducible rfl))
    try simp only [Act.put, List.setIfInBounds_toArray, List.set_cons_zero, List.set_cons_succ]
    refine wpAnyT_takeB (i := 10) (oi := ⟨some 28, .move (.tmp 1), _, _, _, _⟩) (v := ?vR7c2x10) rfl (by kernel_rfl) (by kernel_rfl) (by kernel_rfl) (by kernel_rfl) (fun _ _ _ h => h) (Or.inl ⟨by rfl, ?hyR7c2x10⟩) (by assumption) ?restR7c2x10
    case hyR7c2x10 => (intro w hSw; (try dsimp only at hSw); go_simp; try (with_reducible rfl))
    try simp only [Act.put, List.setIfInBounds_toArray, List.set_cons_zero, List.set_cons_succ]
    refine wpAnyT_takeB (i := 11) (oi := ⟨some 29, .call { callee := .builtin .len, args := #[(.tmp 28)], argTypes := #[28] }, _, _, _, _⟩) (v := ?vR7c2x11) rfl (by kernel_rfl) (by kernel_rfl) (by kernel_rfl) (by kernel_rfl) (fun _ _ _ h => h) (Or.inl ⟨by rfl, ?hyR7c2x11⟩) (by assumption) ?restR7c2x11
    case hyR7c2x11 => (intro w hSw; (try dsimp only at hSw); go_simp; try (with_reducible rfl))
    try simp only [Act.put, List.setIfInBounds_toArray, List.set_cons_zero, List.set_cons_succ]
    refine wpAnyT_takeB (i := 12) (oi := ⟨some 30, .binOp .lss 3 (.tmp 27) (.tmp 29) 3, _, _, _, _⟩) (v := ?vR7c2x12) rfl (by kernel_rfl) (by kernel_rfl) (by kernel_rfl) (by kernel_rfl) (fun _ _ _ h => h) (Or.inl ⟨by rfl, ?hyR7c2x12⟩) (by assumption) ?restR7c2x12
    case hyR7c2x12 => (intro w hSw; (try dsimp only at hSw); go_simp; try (with_reducible rfl))
    try simp only [Act.put, List.setIfInBounds_toArray, List.set_cons_zero, List.set_cons_succ]
    refine wpAnyT_takeB (i := 13) (oi := ⟨some 31, .pick (.tmp 23) (.tmp 30) ((.const (.bool false))), _, _, _, _⟩) (v := ?vR7c2x13) rfl (by kernel_rfl) (by kernel_rfl) (by kernel_rfl) (by kernel_rfl) (fun _ _ _ h => h) (Or.inl ⟨by rfl, ?hyR7c2x13⟩) (by assumption) ?restR7c2x13
    case hyR7c2x13 => (intro w hSw; (try dsimp only at hSw); go_simp; try (with_reducible rfl))
    try simp only [Act.put, List.setIfInBounds_toArray, List.set_cons_zero, List.set_cons_succ]
    refine wpAnyT_takeB (i := 14) (oi := ⟨some 32, .move (.tmp 31), _, _, _, _⟩) (v := ?vR7c2x14) rfl (by kernel_rfl) (by kernel_rfl) (by kernel_rfl) (by kernel_rfl) (fun _ _ _ h => h) (Or.inl ⟨by rfl, ?hyR7c2x14⟩) (by assumption) ?restR7c2x14
    case hyR7c2x14 => (intro w hSw; (try dsimp only at hSw); go_simp; try (with_reducible rfl))
    try simp only [Act.put, List.setIfInBounds_toArray, List.set_cons_zero, List.set_cons_succ]
    refine wpAnyT_takeB (i := 15) (oi := ⟨some 33, .move (.tmp 0), _, _, _, _⟩) (v := undef) rfl (by kernel_rfl) (by kernel_rfl) (by kernel_rfl) (by kernel_rfl) (fun _ _ _ h => h) (Or.inr ⟨by rfl, rfl⟩) (by assumption) ?restR7c2x15
    try simp only [Act.put, List.setIfInBounds_toArray, List.set_cons_zero, List.set_cons_succ]
    refine wpAnyT_takeB (i := 16) (oi := ⟨some 34, .move (.tmp 6), _, _, _, _⟩) (v := undef) rfl (by kernel_rfl) (by kernel_rfl) (by kernel_rfl) (by kernel_rfl) (fun _ _ _ h => h) (Or.inr ⟨by rfl, rfl⟩) (by assumption) ?restR7c2x16
    try simp only [Act.put, List.setIfInBounds_toArray, List.set_cons_zero, List.set_cons_succ]
    refine wpAnyT_takeB (i := 17) (oi := ⟨some 35, .indexAddr 28 (.tmp 33) (.tmp 34), _, _, _, _⟩) (v := undef) rfl (by kernel_rfl) (by kernel_rfl) (by kernel_rfl) (by kernel_rfl) (fun _ _ _ h => h) (Or.inr ⟨by rfl, rfl⟩) (by assumption) ?restR7c2x17
    try simp only [Act.put, List.setIfInBounds_toArray, List.set_cons_zero, List.set_cons_succ]
    refine wpAnyT_takeB (i := 18) (oi := ⟨some 36, .load 3 (.tmp 35), _, _, _, _⟩) (v := undef) rfl (by kernel_rfl) (by kernel_rfl) (by kernel_rfl) (by kernel_rfl) (fun _ _ _ h => h) (Or.inr ⟨by rfl, rfl⟩) (by assumption) ?restR7c2x18
    try simp only [Act.put, List.setIfInBounds_toArray, List.set_cons_zero, List.set_cons_succ]
    refine wpAnyT_takeB (i := 19) (oi := ⟨some 37, .binOp .geq 3 (.tmp 36) ((.const (.int .i64 0))) 3, _, _, _, _⟩) (v := undef) rfl (by kernel_rfl) (by kernel_rfl) (by kernel_rfl) (by kernel_rfl) (fun _ _ _ h => h) (Or.inr ⟨by rfl, rfl⟩) (by assumption) ?restR7c2x19
    try simp only [Act.put, List.setIfInBounds_toArray, List.set_cons_zero, List.set_cons_succ]
    refine wpAnyT_takeB (i := 20) (oi := ⟨some 38, .pick (.tmp 32) (.tmp 37) ((.const (.bool false))), _, _, _, _⟩) (v := ?vR7c2x20) rfl (by kernel_rfl) (by kernel_rfl) (by kernel_rfl) (by kernel_rfl) (fun _ _ _ h => h) (Or.inl ⟨by rfl, ?hyR7c2x20⟩) (by assumption) ?restR7c2x20
    case hyR7c2x20 => (intro w hSw; (try dsimp only at hSw); go_simp; try (with_reducible rfl))
    try simp only [Act.put, List.setIfInBounds_toArray, List.set_cons_zero, List.set_cons_succ]
    refine wpAnyT_takeB (i := 21) (oi := ⟨some 39, .move (.tmp 38), _, _, _, _⟩) (v := ?vR7c2x21) rfl (by kernel_rfl) (by kernel_rfl) (by kernel_rfl) (by kernel_rfl) (fun _ _ _ h => h) (Or.inl ⟨by rfl, ?hyR7c2x21⟩) (by assumption) ?restR7c2x21
    case hyR7c2x21 => (intro w hSw; (try dsimp only at hSw); go_simp; try (with_reducible rfl))
    try simp only [Act.put, List.setIfInBounds_toArray, List.set_cons_zero, List.set_cons_succ]
    refine wpAnyT_takeB (i := 22) (oi := ⟨some 40, .move (.tmp 0), _, _, _, _⟩) (v := undef) rfl (by kernel_rfl) (by kernel_rfl) (by kernel_rfl) (by kernel_rfl) (fun _ _ _ h => h) (Or.inr ⟨by rfl, rfl⟩) (by assumption) ?restR7c2x22
    try simp only [Act.put, List.setIfInBounds_toArray, List.set_cons_zero, List.set_cons_succ]
    refine wpAnyT_takeB (i := 23) (oi := ⟨some 41, .move (.tmp 6), _, _, _, _⟩) (v := undef) rfl (by kernel_rfl) (by kernel_rfl) (by kernel_rfl) (by kernel_rfl) (fun _ _ _ h => h) (Or.inr ⟨by rfl, rfl⟩) (by assumption) ?restR7c2x23
    try simp only [Act.put, List.setIfInBounds_toArray, List.set_cons_zero, List.set_cons_succ]
    refine wpAnyT_takeB (i := 24) (oi := ⟨some 42, .indexAddr 28 (.tmp 40) (.tmp 41), _, _, _, _⟩) (v := undef) rfl (by kernel_rfl) (by kernel_rfl) (by kernel_rfl) (by kernel_rfl) (fun _ _ _ h => h) (Or.inr ⟨by rfl, rfl⟩) (by assumption) ?restR7c2x24
    try simp only [Act.put, List.setIfInBounds_toArray, List.set_cons_zero, List.set_cons_succ]
    refine wpAnyT_takeB (i := 25) (oi := ⟨some 43, .load 3 (.tmp 42), _, _, _, _⟩) (v := undef) rfl (by kernel_rfl) (by kernel_rfl) (by kernel_rfl) (by kernel_rfl) (fun _ _ _ h => h) (Or.inr ⟨by rfl, rfl⟩) (by assumption) ?restR7c2x25
    try simp only [Act.put, List.setIfInBounds_toArray, List.set_cons_zero, List.set_cons_succ]
    refine wpAnyT_takeB (i := 26) (oi := ⟨some 44, .move (.tmp 1), _, _, _, _⟩) (v := undef) rfl (by kernel_rfl) (by kernel_rfl) (by kernel_rfl) (by kernel_rfl) (fun _ _ _ h => h) (Or.inr ⟨by rfl, rfl⟩) (by assumption) ?restR7c2x26
    try simp only [Act.put, List.setIfInBounds_toArray, List.set_cons_zero, List.set_cons_succ]
    refine wpAnyT_takeB (i := 27) (oi := ⟨some 45, .call { callee := .builtin .len, args := #[(.tmp 44)], argTypes := #[28] }, _, _, _, _⟩) (v := undef) rfl (by kernel_rfl) (by kernel_rfl) (by kernel_rfl) (by kernel_rfl) (fun _ _ _ h => h) (Or.inr ⟨by rfl, rfl⟩) (by assumption) ?restR7c2x27
    try simp only [Act.put, List.setIfInBounds_toArray, List.set_cons_zero, List.set_cons_succ]
    refine wpAnyT_takeB (i := 28) (oi := ⟨some 46, .binOp .lss 3 (.tmp 43) (.tmp 45) 3, _, _, _, _⟩) (v := undef) rfl (by kernel_rfl) (by kernel_rfl) (by kernel_rfl) (by kernel_rfl) (fun _ _ _ h => h) (Or.inr ⟨by rfl, rfl⟩) (by assumption) ?restR7c2x28
    try simp only [Act.put, List.setIfInBounds_toArray, List.set_cons_zero, List.set_cons_succ]
    refine wpAnyT_takeB (i := 29) (oi := ⟨some 47, .pick (.tmp 39) (.tmp 46) ((.const (.bool false))), _, _, _, _⟩) (v := ?vR7c2x29) rfl (by kernel_rfl) (by kernel_rfl) (by kernel_rfl) (by kernel_rfl) (fun _ _ _ h => h) (Or.inl ⟨by rfl, ?hyR7c2x29⟩) (by assumption) ?restR7c2x29
    case hyR7c2x29 => (intro w hSw; (try dsimp only at hSw); go_simp; try (with_reducible rfl))
    try simp only [Act.put, List.setIfInBounds_toArray, List.set_cons_zero, List.set_cons_succ]
    refine wpAnyT_takeB (i := 30) (oi := ⟨some 48, .move (.tmp 47), _, _, _, _⟩) (v := ?vR7c2x30) rfl (by kernel_rfl) (by kernel_rfl) (by kernel_rfl) (by kernel_rfl) (fun _ _ _ h => h) (Or.inl ⟨by rfl, ?hyR7c2x30⟩) (by assumption) ?restR7c2x30
    case hyR7c2x30 => (intro w hSw; (try dsimp only at hSw); go_simp; try (with_reducible rfl))
    try simp only [Act.put, List.setIfInBounds_toArray, List.set_cons_zero, List.set_cons_succ]
    refine wpAnyT_takeB (i := 31) (oi := ⟨some 49, .move (.tmp 1), _, _, _, _⟩) (v := undef) rfl (by kernel_rfl) (by kernel_rfl) (by kernel_rfl) (by kernel_rfl) (fun _ _ _ h => h) (Or.inr ⟨by rfl, rfl⟩) (by assumption) ?restR7c2x31
    try simp only [Act.put, List.setIfInBounds_toArray, List.set_cons_zero, List.set_cons_succ]
    refine wpAnyT_takeB (i := 32) (oi := ⟨some 50, .move (.tmp 0), _, _, _, _⟩) (v := undef) rfl (by kernel_rfl) (by kernel_rfl) (by kernel_rfl) (by kernel_rfl) (fun _ _ _ h => h) (Or.inr ⟨by rfl, rfl⟩) (by assumption) ?restR7c2x32
    try simp only [Act.put, List.setIfInBounds_toArray, List.set_cons_zero, List.set_cons_succ]
    refine wpAnyT_takeB (i := 33) (oi := ⟨some 51, .move (.tmp 5), _, _, _, _⟩) (v := undef) rfl (by kernel_rfl) (by kernel_rfl) (by kernel_rfl) (by kernel_rfl) (fun _ _ _ h => h) (Or.inr ⟨by rfl, rfl⟩) (by assumption) ?restR7c2x33
    try simp only [Act.put, List.setIfInBounds_toArray, List.set_cons_zero, List.set_cons_succ]
    refine wpAnyT_takeB (i := 34) (oi := ⟨some 52, .indexAddr 28 (.tmp 50) (.tmp 51), _, _, _, _⟩) (v := undef) rfl (by kernel_rfl) (by kernel_rfl) (by kernel_rfl) (by kernel_rfl) (fun _ _ _ h => h) (Or.inr ⟨by rfl, rfl⟩) (by assumption) ?restR7c2x34
    try simp only [Act.put, List.setIfInBounds_toArray, List.set_cons_zero, List.set_cons_succ]
    refine wpAnyT_takeB (i := 35) (oi := ⟨some 53, .load 3 (.tmp 52), _, _, _, _⟩) (v := undef) rfl (by kernel_rfl) (by kernel_rfl) (by kernel_rfl) (by kernel_rfl) (fun _ _ _ h => h) (Or.inr ⟨by rfl, rfl⟩) (by assumption) ?restR7c2x35
    try simp only [Act.put, List.setIfInBounds_toArray, List.set_cons_zero, List.set_cons_succ]
    refine wpAnyT_takeB (i := 36) (oi := ⟨some 54, .indexAddr 28 (.tmp 49) (.tmp 53), _, _, _, _⟩) (v := undef) rfl (by kernel_rfl) (by kernel_rfl) (by kernel_rfl) (by kernel_rfl) (fun _ _ _ h => h) (Or.inr ⟨by rfl, rfl⟩) (by assumption) ?restR7c2x36
    try simp only [Act.put, List.setIfInBounds_toArray, List.set_cons_zero, List.set_cons_succ]
    refine wpAnyT_takeB (i := 37) (oi := ⟨some 55, .load 3 (.tmp 54), _, _, _, _⟩) (v := undef) rfl (by kernel_rfl) (by kernel_rfl) (by kernel_rfl) (by kernel_rfl) (fun _ _ _ h => h) (Or.inr ⟨by rfl, rfl⟩) (by assumption) ?restR7c2x37
    try simp only [Act.put, List.setIfInBounds_toArray, List.set_cons_zero, List.set_cons_succ]
    refine wpAnyT_takeB (i := 38) (oi := ⟨some 56, .move (.tmp 1), _, _, _, _⟩) (v := undef) rfl (by kernel_rfl) (by kernel_rfl) (by kernel_rfl) (by kernel_rfl) (fun _ _ _ h => h) (Or.inr ⟨by rfl, rfl⟩) (by assumption) ?restR7c2x38
    try simp only [Act.put, List.setIfInBounds_toArray, List.set_cons_zero, List.set_cons_succ]
    refine wpAnyT_takeB (i := 39) (oi := ⟨some 57, .move (.tmp 0), _, _, _, _⟩) (v := undef) rfl (by kernel_rfl) (by kernel_rfl) (by kernel_rfl) (by kernel_rfl) (fun _ _ _ h => h) (Or.inr ⟨by rfl, rfl⟩) (by assumption) ?restR7c2x39
    try simp only [Act.put, List.setIfInBounds_toArray, List.set_cons_zero, List.set_cons_succ]
    refine wpAnyT_takeB (i := 40) (oi := ⟨some 58, .move (.tmp 6), _, _, _, _⟩) (v := undef) rfl (by kernel_rfl) (by kernel_rfl) (by kernel_rfl) (by kernel_rfl) (fun _ _ _ h => h) (Or.inr ⟨by rfl, rfl⟩) (by assumption) ?restR7c2x40
    try simp only [Act.put, List.setIfInBounds_toArray, List.set_cons_zero, List.set_cons_succ]
    refine wpAnyT_takeB (i := 41) (oi := ⟨some 59, .indexAddr 28 (.tmp 57) (.tmp 58), _, _, _, _⟩) (v := undef) rfl (by kernel_rfl) (by kernel_rfl) (by kernel_rfl) (by kernel_rfl) (fun _ _ _ h => h) (Or.inr ⟨by rfl, rfl⟩) (by assumption) ?restR7c2x41
    try simp only [Act.put, List.setIfInBounds_toArray, List.set_cons_zero, List.set_cons_succ]
    refine wpAnyT_takeB (i := 42) (oi := ⟨some 60, .load 3 (.tmp 59), _, _, _, _⟩) (v := undef) rfl (by kernel_rfl) (by kernel_rfl) (by kernel_rfl) (by kernel_rfl) (fun _ _ _ h => h) (Or.inr ⟨by rfl, rfl⟩) (by assumption) ?restR7c2x42
    try simp only [Act.put, List.setIfInBounds_toArray, List.set_cons_zero, List.set_cons_succ]
    refine wpAnyT_takeB (i := 43) (oi := ⟨some 61, .indexAddr 28 (.tmp 56) (.tmp 60), _, _, _, _⟩) (v := undef) rfl (by kernel_rfl) (by kernel_rfl) (by kernel_rfl) (by kernel_rfl) (fun _ _ _ h => h) (Or.inr ⟨by rfl, rfl⟩) (by assumption) ?restR7c2x43
    try simp only [Act.put, List.setIfInBounds_toArray, List.set_cons_zero, List.set_cons_succ]
    refine wpAnyT_takeB (i := 44) (oi := ⟨some 62, .load 3 (.tmp 61), _, _, _, _⟩) (v := undef) rfl (by kernel_rfl) (by kernel_rfl) (by kernel_rfl) (by kernel_rfl) (fun _ _ _ h => h) (Or.inr ⟨by rfl, rfl⟩) (by assumption) ?restR7c2x44
    try simp only [Act.put, List.setIfInBounds_toArray, List.set_cons_zero, List.set_cons_succ]
    refine wpAnyT_takeB (i := 45) (oi := ⟨some 63, .binOp .eql 3 (.tmp 55) (.tmp 62) 3, _, _, _, _⟩) (v := undef) rfl (by kernel_rfl) (by kernel_rfl) (by kernel_rfl) (by kernel_rfl) (fun _ _ _ h => h) (Or.inr ⟨by rfl, rfl⟩) (by assumption) ?restR7c2x45
    try simp only [Act.put, List.setIfInBounds_toArray, List.set_cons_zero, List.set_cons_succ]
    refine wpAnyT_takeB (i := 46) (oi := ⟨some 64, .pick (.tmp 48) (.tmp 63) ((.const (.bool false))), _, _, _, _⟩) (v := ?vR7c2x46) rfl (by kernel_rfl) (by kernel_rfl) (by kernel_rfl) (by kernel_rfl) (fun _ _ _ h => h) (Or.inl ⟨by rfl, ?hyR7c2x46⟩) (by assumption) ?restR7c2x46
    case hyR7c2x46 => (intro w hSw; (try dsimp only at hSw); go_simp; try (with_reducible rfl))
    try simp only [Act.put, List.setIfInBounds_toArray, List.set_cons_zero, List.set_cons_succ]
    refine wpAnyT_done (by kernel_rfl) ?_ _
    go_wp2_with fail
    go_roundw
    case rel => exact ⟨k + 1, by go_num, hkn, (below_succ HA2.out (HXY.out HN.out)), HBy.out.trans ((Below.refl _ _).drew.mono HBy.out.size)⟩
    case measure => simp [intOf]; omega
  case pos =>
  by_cases hy0 : 0 ≤ y
  case neg =>
    have HN : Hid (clash vs x y = false) := by show _ = _; unfold clash; simp; omega
    go_upto_region 7 with fail
    refine wp_region_T (fun w' => w'.cell? ⟨b, off + i, none⟩ = some (.int .i64 x) ∧ w'.cell? ⟨b, off + k, none⟩ = some (.int .i64 y)) (fun _ => True) [] (by kernel_rfl) ⟨HC2.out _ (Below.refl _ _).drew, trivial⟩ (fun hHeld => ?_)
    refine wpAnyT_takeB (i := 0) (oi := ⟨some 18, .move (.tmp 0), _, _, _, _⟩) (v := ?vR7c3x0) rfl (by kernel_rfl) (by kernel_rfl) (by kernel_rfl) (by kernel_rfl) (fun _ _ _ h => h) (Or.inl ⟨by rfl, ?hyR7c3x0⟩) (by assumption) ?restR7c3x0
    case hyR7c3x0 => (intro w hSw; (try dsimp only at hSw); go_simp; try (with_reducible rfl))
    try simp only [Act.put, List.setIfInBounds_toArray, List.set_cons_zero, List.set_cons_succ]
    refine wpAnyT_takeB (i := 1) (oi := ⟨some 19, .move (.tmp 5), _, _, _, _⟩) (v := ?vR7c3x1) rfl (by kernel_rfl) (by kernel_rfl) (by kernel_rfl) (by kernel_rfl) (fun _ _ _ h => h) (Or.inl ⟨by rfl, ?hyR7c3x1⟩) (by assumption) ?restR7c3x1
    case hyR7c3x1 => (intro w hSw; (try dsimp only at hSw); go_simp; try (with_reducible rfl))
    try simp only [Act.put, List.setIfInBounds_toArray, List.set_cons_zero, List.set_cons_succ]
    refine wpAnyT_takeB (i := 2) (oi := ⟨some 20, .indexAddr 28 (.tmp 18) (.tmp 19), _, _, _, _⟩) (v := ?vR7c3x2) rfl (by kernel_rfl) (by kernel_rfl) (by kernel_rfl) (by kernel_rfl) (fun _ _ _ h => h) (Or.inl ⟨by rfl, ?hyR7c3x2⟩) (by assumption) ?restR7c3x2
    case hyR7c3x2 => (intro w hSw; (try dsimp only at hSw); go_simp; try (with_reducible rfl))
    try simp only [Act.put, List.setIfInBounds_toArray, List.set_cons_zero, List.set_cons_succ]
    refine wpAnyT_takeB (i := 3) (oi := ⟨some 21, .load 3 (.tmp 20), _, _, _, _⟩) (v := ?vR7c3x3) rfl (by kernel_rfl) (by kernel_rfl) (by kernel_rfl) (by kernel_rfl) (fun _ _ _ h => h) (Or.inl ⟨by rfl, ?hyR7c3x3⟩) (by assumption) ?restR7c3x3
    case hyR7c3x3 => (intro w hSw; (try dsimp only at hSw); go_simp; try (with_reducible rfl))
    try simp only [Act.put, List.setIfInBounds_toArray, List.set_cons_zero, List.set_cons_succ]
    refine wpAnyT_takeB (i := 4) (oi := ⟨some 22, .binOp .geq 3 (.tmp 21) ((.const (.int .i64 0))) 3, _, _, _, _⟩) (v := ?vR7c3x4) rfl (by kernel_rfl) (by kernel_rfl) (by kernel_rfl) (by kernel_rfl) (fun _ _ _ h => h) (Or.inl ⟨by rfl, ?hyR7c3x4⟩) (by assumption) ?restR7c3x4
    case hyR7c3x4 => (intro w hSw; (try dsimp only at hSw); go_simp; try (with_reducible rfl))
    try simp only [Act.put, List.setIfInBounds_toArray, List.set_cons_zero, List.set_cons_succ]
    refine wpAnyT_takeB (i := 5) (oi := ⟨some 23, .move (.tmp 22), _, _, _, _⟩) (v := ?vR7c3x5) rfl (by kernel_rfl) (by kernel_rfl) (by kernel_rfl) (by kernel_rfl) (fun _ _ _ h => h) (Or.inl ⟨by rfl, ?hyR7c3x5⟩) (by assumption) ?restR7c3x5
    case hyR7c3x5 => (intro w hSw; (try dsimp only at hSw); go_simp; try (with_reducible rfl))
    try simp only [Act.put, List.setIfInBounds_toArray, List.set_cons_zero, List.set_cons_succ]
    refine wpAnyT_takeB (i := 6) (oi := ⟨some 24, .move (.tmp 0), _, _, _, _⟩) (v := ?vR7c3x6) rfl (by kernel_rfl) (by kernel_rfl) (by kernel_rfl) (by kernel_rfl) (fun _ _ _ h => h) (Or.inl ⟨by rfl, ?hyR7c3x6⟩) (by assumption) ?restR7c3x6
    case hyR7c3x6 => (intro w hSw; (try dsimp only at hSw); go_simp; try (with_reducible rfl))
    try simp only [Act.put, List.setIfInBounds_toArray, List.set_cons_zero, List.set_cons_succ]
    refine wpAnyT_takeB (i := 7) (oi := ⟨some 25, .move (.tmp 5), _, _, _, _⟩) (v := ?vR7c3x7) rfl (by kernel_rfl) (by kernel_rfl) (by kernel_rfl) (by kernel_rfl) (fun _ _ _ h => h) (Or.inl ⟨by rfl, ?hyR7c3x7⟩) (by assumption) ?restR7c3x7
    case hyR7c3x7 => (intro w hSw; (try dsimp only at hSw); go_simp; try (with_reducible rfl))
    try simp only [Act.put, List.setIfInBounds_toArray, List.set_cons_zero, List.set_cons_succ]
    refine wpAnyT_takeB (i := 8) (oi := ⟨some 26, .indexAddr 28 (.tmp 24) (.tmp 25), _, _, _, _⟩) (v := ?vR7c3x8) rfl (by kernel_rfl) (by kernel_rfl) (by kernel_rfl) (by kernel_rfl) (fun _ _ _ h => h) (Or.inl ⟨by rfl, ?hyR7c3x8⟩) (by assumption) ?restR7c3x8
    case hyR7c3x8 => (intro w hSw; (try dsimp only at hSw); go_simp; try (with_reducible rfl))
    try simp only [Act.put, List.setIfInBounds_toArray, List.set_cons_zero, List.set_cons_succ]
    refine wpAnyT_takeB (i := 9) (oi := ⟨some 27, .load 3 (.tmp 26), _, _, _, _⟩) (v := ?vR7c3x9) rfl (by kernel_rfl) (by kernel_rfl) (by kernel_rfl) (by kernel_rfl) (fun _ _ _ h => h) (Or.inl ⟨by rfl, ?hyR7c3x9⟩) (by assumption) ?restR7c3x9
    case hyR7c3x9 => (intro w hSw; (try dsimp only at hSw); go_simp; try (with_reducible rfl))
    try simp only [Act.put, List.setIfInBounds_toArray, List.set_cons_zero, List.set_cons_succ]
    refine wpAnyT_takeB (i := 10) (oi := ⟨some 28, .move (.tmp 1), _, _, _, _⟩) (v := ?vR7c3x10) rfl (by kernel_rfl) (by kernel_rfl) (by kernel_rfl) (by kernel_rfl) (fun _ _ _ h => h) (Or.inl ⟨by rfl, ?hyR7c3x10⟩) (by assumption) ?restR7c3x10
    case hyR7c3x10 => (intro w hSw; (try dsimp only at hSw); go_simp; try (with_reducible rfl))
    try simp only [Act.put, List.setIfInBounds_toArray, List.set_cons_zero, List.set_cons_succ]
    refine wpAnyT_takeB (i := 11) (oi := ⟨some 29, .call { callee := .builtin .len, args := #[(.tmp 28)], argTypes := #[28] }, _, _, _, _⟩) (v := ?vR7c3x11) rfl (by kernel_rfl) (by kernel_rfl) (by kernel_rfl) (by kernel_rfl) (fun _ _ _ h => h) (Or.inl ⟨by rfl, ?hyR7c3x11⟩) (by assumption) ?restR7c3x11
    case hyR7c3x11 => (intro w hSw; (try dsimp only at hSw); go_simp; try (with_reducible rfl))
    try simp only [Act.put, List.setIfInBounds_toArray, List.set_cons_zero, List.set_cons_succ]
    refine wpAnyT_takeB (i := 12) (oi := ⟨some 30, .binOp .lss 3 (.tmp 27) (.tmp 29) 3, _, _, _, _⟩) (v := ?vR7c3x12) rfl (by kernel_rfl) (by kernel_rfl) (by kernel_rfl) (by kernel_rfl) (fun _ _ _ h => h) (Or.inl ⟨by rfl, ?hyR7c3x12⟩) (by assumption) ?restR7c3x12
    case hyR7c3x12 => (intro w hSw; (try dsimp only at hSw); go_simp; try (with_reducible rfl))
    try simp only [Act.put, List.setIfInBounds_toArray, List.set_cons_zero, List.set_cons_succ]
    refine wpAnyT_takeB (i := 13) (oi := ⟨some 31, .pick (.tmp 23) (.tmp 30) ((.const (.bool false))), _, _, _, _⟩) (v := ?vR7c3x13) rfl (by kernel_rfl) (by kernel_rfl) (by kernel_rfl) (by kernel_rfl) (fun _ _ _ h => h) (Or.inl ⟨by rfl, ?hyR7c3x13⟩) (by assumption) ?restR7c3x13
    case hyR7c3x13 => (intro w hSw; (try dsimp only at hSw); go_simp; try (with_reducible rfl))
    try simp only [Act.put, List.setIfInBounds_toArray, List.set_cons_zero, List.set_cons_succ]
    refine wpAnyT_takeB (i := 14) (oi := ⟨some 32, .move (.tmp 31), _, _, _, _⟩) (v := ?vR7c3x14) rfl (by kernel_rfl) (by kernel_rfl) (by kernel_rfl) (by kernel_rfl) (fun _ _ _ h => h) (Or.inl ⟨by rfl, ?hyR7c3x14⟩) (by assumption) ?restR7c3x14
    case hyR7c3x14 => (intro w hSw; (try dsimp only at hSw); go_simp; try (with_reducible rfl))
    try simp only [Act.put, List.setIfInBounds_toArray, List.set_cons_zero, List.set_cons_succ]
    refine wpAnyT_takeB (i := 15) (oi := ⟨some 33, .move (.tmp 0), _, _, _, _⟩) (v := ?vR7c3x15) rfl (by kernel_rfl) (by kernel_rfl) (by kernel_rfl) (by kernel_rfl) (fun _ _ _ h => h) (Or.inl ⟨by rfl, ?hyR7c3x15⟩) (by assumption) ?restR7c3x15
    case hyR7c3x15 => (intro w hSw; (try dsimp only at hSw); go_simp; try (with_reducible rfl))
    try simp only [Act.put, List.setIfInBounds_toArray, List.set_cons_zero, List.set_cons_succ]
    refine wpAnyT_takeB (i := 16) (oi := ⟨some 34, .move (.tmp 6), _, _, _, _⟩) (v := ?vR7c3x16) rfl (by kernel_rfl) (by kernel_rfl) (by kernel_rfl) (by kernel_rfl) (fun _ _ _ h => h) (Or.inl ⟨by rfl, ?hyR7c3x16⟩) (by assumption) ?restR7c3x16
    case hyR7c3x16 => (intro w hSw; (try dsimp only at hSw); go_simp; try (with_reducible rfl))
    try simp only [Act.put, List.setIfInBounds_toArray, List.set_cons_zero, List.set_cons_succ]
    refine wpAnyT_takeB (i := 17) (oi := ⟨some 35, .indexAddr 28 (.tmp 33) (.tmp 34), _, _, _, _⟩) (v := ?vR7c3x17) rfl (by kernel_rfl) (by kernel_rfl) (by kernel_rfl) (by kernel_rfl) (fun _ _ _ h => h) (Or.inl ⟨by rfl, ?hyR7c3x17⟩) (by assumption) ?restR7c3x17
    case hyR7c3x17 => (intro w hSw; (try dsimp only at hSw); go_simp; try (with_reducible rfl))
    try simp only [Act.put, List.setIfInBounds_toArray, List.set_cons_zero, List.set_cons_succ]
    refine wpAnyT_takeB (i := 18) (oi := ⟨some 36, .load 3 (.tmp 35), _, _, _, _⟩) (v := ?vR7c3x18) rfl (by kernel_rfl) (by kernel_rfl) (by kernel_rfl) (by kernel_rfl) (fun _ _ _ h => h) (Or.inl ⟨by rfl, ?hyR7c3x18⟩) (by assumption) ?restR7c3x18
    case hyR7c3x18 => (intro w hSw; (try dsimp only at hSw); go_simp; try (with_reducible rfl))
    try simp only [Act.put, List.setIfInBounds_toArray, List.set_cons_zero, List.set_cons_succ]
    refine wpAnyT_takeB (i := 19) (oi := ⟨some 37, .binOp .geq 3 (.tmp 36) ((.const (.int .i64 0))) 3, _, _, _, _⟩) (v := ?vR7c3x19) rfl (by kernel_rfl) (by kernel_rfl) (by kernel_rfl) (by kernel_rfl) (fun _ _ _ h => h) (Or.inl ⟨by rfl, ?hyR7c3x19⟩) (by assumption) ?restR7c3x19
    case hyR7c3x19 => (intro w hSw; (try dsimp only at hSw); go_simp; try (with_reducible rfl))
    try simp only [Act.put, List.setIfInBounds_toArray, List.set_cons_zero, List.set_cons_succ]
    refine wpAnyT_takeB (i := 20) (oi := ⟨some 38, .pick (.tmp 32) (.tmp 37) ((.const (.bool false))), _, _, _, _⟩) (v := ?vR7c3x20) rfl (by kernel_rfl) (by kernel_rfl) (by kernel_rfl) (by kernel_rfl) (fun _ _ _ h => h) (Or.inl ⟨by rfl, ?hyR7c3x20⟩) (by assumption) ?restR7c3x20
    case hyR7c3x20 => (intro w hSw; (try dsimp only at hSw); go_simp; try (with_reducible rfl))
    try simp only [Act.put, List.setIfInBounds_toArray, List.set_cons_zero, List.set_cons_succ]
    refine wpAnyT_takeB (i := 21) (oi := ⟨some 39, .move (.tmp 38), _, _, _, _⟩) (v := ?vR7c3x21) rfl (by kernel_rfl) (by kernel_rfl) (by kernel_rfl) (by kernel_rfl) (fun _ _ _ h => h) (Or.inl ⟨by rfl, ?hyR7c3x21⟩) (by assumption) ?restR7c3x21
    case hyR7c3x21 => (intro w hSw; (try dsimp only at hSw); go_simp; try (with_reducible rfl))
    try simp only [Act.put, List.setIfInBounds_toArray, List.set_cons_zero, List.set_cons_succ]
    refine wpAnyT_takeB (i := 22) (oi := ⟨some 40, .move (.tmp 0), _, _, _, _⟩) (v := undef) rfl (by kernel_rfl) (by kernel_rfl) (by kernel_rfl) (by kernel_rfl) (fun _ _ _ h => h) (Or.inr ⟨by rfl, rfl⟩) (by assumption) ?restR7c3x22
    try simp only [Act.put, List.setIfInBounds_toArray, List.set_cons_zero, List.set_cons_succ]
    refine wpAnyT_takeB (i := 23) (oi := ⟨some 41, .move (.tmp 6), _, _, _, _⟩) (v := undef) rfl (by kernel_rfl) (by kernel_rfl) (by kernel_rfl) (by kernel_rfl) (fun _ _ _ h => h) (Or.inr ⟨by rfl, rfl⟩) (by assumption) ?restR7c3x23
    try simp only [Act.put, List.setIfInBounds_toArray, List.set_cons_zero, List.set_cons_succ]
    refine wpAnyT_takeB (i := 24) (oi := ⟨some 42, .indexAddr 28 (.tmp 40) (.tmp 41), _, _, _, _⟩) (v := undef) rfl (by kernel_rfl) (by kernel_rfl) (by kernel_rfl) (by kernel_rfl) (fun _ _ _ h => h) (Or.inr ⟨by rfl, rfl⟩) (by assumption) ?restR7c3x24
    try simp only [Act.put, List.setIfInBounds_toArray, List.set_cons_zero, List.set_cons_succ]
    refine wpAnyT_takeB (i := 25) (oi := ⟨some 43, .load 3 (.tmp 42), _, _, _, _⟩) (v := undef) rfl (by kernel_rfl) (by kernel_rfl) (by kernel_rfl) (by kernel_rfl) (fun _ _ _ h => h) (Or.inr ⟨by rfl, rfl⟩) (by assumption) ?restR7c3x25
    try simp only [Act.put, List.setIfInBounds_toArray, List.set_cons_zero, List.set_cons_succ]
    refine wpAnyT_takeB (i := 26) (oi := ⟨some 44, .move (.tmp 1), _, _, _, _⟩) (v := undef) rfl (by kernel_rfl) (by kernel_rfl) (by kernel_rfl) (by kernel_rfl) (fun _ _ _ h => h) (Or.inr ⟨by rfl, rfl⟩) (by assumption) ?restR7c3x26
    try simp only [Act.put, List.setIfInBounds_toArray, List.set_cons_zero, List.set_cons_succ]
    refine wpAnyT_takeB (i := 27) (oi := ⟨some 45, .call { callee := .builtin .len, args := #[(.tmp 44)], argTypes := #[28] }, _, _, _, _⟩) (v := undef) rfl (by kernel_rfl) (by kernel_rfl) (by kernel_rfl) (by kernel_rfl) (fun _ _ _ h => h) (Or.inr ⟨by rfl, rfl⟩) (by assumption) ?restR7c3x27
    try simp only [Act.put, List.setIfInBounds_toArray, List.set_cons_zero, List.set_cons_succ]
    refine wpAnyT_takeB (i := 28) (oi := ⟨some 46, .binOp .lss 3 (.tmp 43) (.tmp 45) 3, _, _, _, _⟩) (v := undef) rfl (by kernel_rfl) (by kernel_rfl) (by kernel_rfl) (by kernel_rfl) (fun _ _ _ h => h) (Or.inr ⟨by rfl, rfl⟩) (by assumption) ?restR7c3x28
    try simp only [Act.put, List.setIfInBounds_toArray, List.set_cons_zero, List.set_cons_succ]
    refine wpAnyT_takeB (i := 29) (oi := ⟨some 47, .pick (.tmp 39) (.tmp 46) ((.const (.bool false))), _, _, _, _⟩) (v := ?vR7c3x29) rfl (by kernel_rfl) (by kernel_rfl) (by kernel_rfl) (by kernel_rfl) (fun _ _ _ h => h) (Or.inl ⟨by rfl, ?hyR7c3x29⟩) (by assumption) ?restR7c3x29
    case hyR7c3x29 => (intro w hSw; (try dsimp only at hSw); go_simp; try (with_reducible rfl))
    try simp only [Act.put, List.setIfInBounds_toArray, List.set_cons_zero, List.set_cons_succ]
    refine wpAnyT_takeB (i := 30) (oi := ⟨some 48, .move (.tmp 47), _, _, _, _⟩) (v := ?vR7c3x30) rfl (by kernel_rfl) (by kernel_rfl) (by kernel_rfl) (by kernel_rfl) (fun _ _ _ h => h) (Or.inl ⟨by rfl, ?hyR7c3x30⟩) (by assumption) ?restR7c3x30
    case hyR7c3x30 => (intro w hSw; (try dsimp only at hSw); go_simp; try (with_reducible rfl))
    try simp only [Act.put, List.setIfInBounds_toArray, List.set_cons_zero, List.set_cons_succ]
    refine wpAnyT_takeB (i := 31) (oi := ⟨some 49, .move (.tmp 1), _, _, _, _⟩) (v := undef) rfl (by kernel_rfl) (by kernel_rfl) (by kernel_rfl) (by kernel_rfl) (fun _ _ _ h => h) (Or.inr ⟨by rfl, rfl⟩) (by assumption) ?restR7c3x31
    try simp only [Act.put, List.setIfInBounds_toArray, List.set_cons_zero, List.set_cons_succ]
    refine wpAnyT_takeB (i := 32) (oi := ⟨some 50, .move (.tmp 0), _, _, _, _⟩) (v := undef) rfl (by kernel_rfl) (by kernel_rfl) (by kernel_rfl) (by kernel_rfl) (fun _ _ _ h => h) (Or.inr ⟨by rfl, rfl⟩) (by assumption) ?restR7c3x32
    try simp only [Act.put, List.setIfInBounds_toArray, List.set_cons_zero, List.set_cons_succ]
    refine wpAnyT_takeB (i := 33) (oi := ⟨some 51, .move (.tmp 5), _, _, _, _⟩) (v := undef) rfl (by kernel_rfl) (by kernel_rfl) (by kernel_rfl) (by kernel_rfl) (fun _ _ _ h => h) (Or.inr ⟨by rfl, rfl⟩) (by assumption) ?restR7c3x33
    try simp only [Act.put, List.setIfInBounds_toArray, List.set_cons_zero, List.set_cons_succ]
    refine wpAnyT_takeB (i := 34) (oi := ⟨some 52, .indexAddr 28 (.tmp 50) (.tmp 51), _, _, _, _⟩) (v := undef) rfl (by kernel_rfl) (by kernel_rfl) (by kernel_rfl) (by kernel_rfl) (fun _ _ _ h => h) (Or.inr ⟨by rfl, rfl⟩) (by assumption) ?restR7c3x34
    try simp only [Act.put, List.setIfInBounds_toArray, List.set_cons_zero, List.set_cons_succ]
    refine wpAnyT_takeB (i := 35) (oi := ⟨some 53, .load 3 (.tmp 52), _, _, _, _⟩) (v := undef) rfl (by kernel_rfl) (by kernel_rfl) (by kernel_rfl) (by kernel_rfl) (fun _ _ _ h => h) (Or.inr ⟨by rfl, rfl⟩) (by assumption) ?restR7c3x35
    try simp only [Act.put, List.setIfInBounds_toArray, List.set_cons_zero, List.set_cons_succ]
    refine wpAnyT_takeB (i := 36) (oi := ⟨some 54, .indexAddr 28 (.tmp 49) (.tmp 53), _, _, _, _⟩) (v := undef) rfl (by kernel_rfl) (by kernel_rfl) (by kernel_rfl) (by kernel_rfl) (fun _ _ _ h => h) (Or.inr ⟨by rfl, rfl⟩) (by assumption) ?restR7c3x36
    try simp only [Act.put, List.setIfInBounds_toArray, List.set_cons_zero, List.set_cons_succ]
    refine wpAnyT_takeB (i := 37) (oi := ⟨some 55, .load 3 (.tmp 54), _, _, _, _⟩) (v := undef) rfl (by kernel_rfl) (by kernel_rfl) (by kernel_rfl) (by kernel_rfl) (fun _ _ _ h => h) (Or.inr ⟨by rfl, rfl⟩) (by assumption) ?restR7c3x37
    try simp only [Act.put, List.setIfInBounds_toArray, List.set_cons_zero, List.set_cons_succ]
    refine wpAnyT_takeB (i := 38) (oi := ⟨some 56, .move (.tmp 1), _, _, _, _⟩) (v := undef) rfl (by kernel_rfl) (by kernel_rfl) (by kernel_rfl) (by kernel_rfl) (fun _ _ _ h => h) (Or.inr ⟨by rfl, rfl⟩) (by assumption) ?restR7c3x38
    try simp only [Act.put, List.setIfInBounds_toArray, List.set_cons_zero, List.set_cons_succ]
    refine wpAnyT_takeB (i := 39) (oi := ⟨some 57, .move (.tmp 0), _, _, _, _⟩) (v := undef) rfl (by kernel_rfl) (by kernel_rfl) (by kernel_rfl) (by kernel_rfl) (fun _ _ _ h => h) (Or.inr ⟨by rfl, rfl⟩) (by assumption) ?restR7c3x39
    try simp only [Act.put, List.setIfInBounds_toArray, List.set_cons_zero, List.set_cons_succ]
    refine wpAnyT_takeB (i := 40) (oi := ⟨some 58, .move (.tmp 6), _, _, _, _⟩) (v := undef) rfl (by kernel_rfl) (by kernel_rfl) (by kernel_rfl) (by kernel_rfl) (fun _ _ _ h => h) (Or.inr ⟨by rfl, rfl⟩) (by assumption) ?restR7c3x40
    try simp only [Act.put, List.setIfInBounds_toArray, List.set_cons_zero, List.set_cons_succ]
    refine wpAnyT_takeB (i := 41) (oi := ⟨some 59, .indexAddr 28 (.tmp 57) (.tmp 58), _, _, _, _⟩) (v := undef) rfl (by kernel_rfl) (by kernel_rfl) (by kernel_rfl) (by kernel_rfl) (fun _ _ _ h => h) (Or.inr ⟨by rfl, rfl⟩) (by assumption) ?restR7c3x41
    try simp only [Act.put, List.setIfInBounds_toArray, List.set_cons_zero, List.set_cons_succ]
    refine wpAnyT_takeB (i := 42) (oi := ⟨some 60, .load 3 (.tmp 59), _, _, _, _⟩) (v := undef) rfl (by kernel_rfl) (by kernel_rfl) (by kernel_rfl) (by kernel_rfl) (fun _ _ _ h => h) (Or.inr ⟨by rfl, rfl⟩) (by assumption) ?restR7c3x42
    try simp only [Act.put, List.setIfInBounds_toArray, List.set_cons_zero, List.set_cons_succ]
    refine wpAnyT_takeB (i := 43) (oi := ⟨some 61, .indexAddr 28 (.tmp 56) (.tmp 60), _, _, _, _⟩) (v := undef) rfl (by kernel_rfl) (by kernel_rfl) (by kernel_rfl) (by kernel_rfl) (fun _ _ _ h => h) (Or.inr ⟨by rfl, rfl⟩) (by assumption) ?restR7c3x43
    try simp only [Act.put, List.setIfInBounds_toArray, List.set_cons_zero, List.set_cons_succ]
    refine wpAnyT_takeB (i := 44) (oi := ⟨some 62, .load 3 (.tmp 61), _, _, _, _⟩) (v := undef) rfl (by kernel_rfl) (by kernel_rfl) (by kernel_rfl) (by kernel_rfl) (fun _ _ _ h => h) (Or.inr ⟨by rfl, rfl⟩) (by assumption) ?restR7c3x44
    try simp only [Act.put, List.setIfInBounds_toArray, List.set_cons_zero, List.set_cons_succ]
    refine wpAnyT_takeB (i := 45) (oi := ⟨some 63, .binOp .eql 3 (.tmp 55) (.tmp 62) 3, _, _, _, _⟩) (v := undef) rfl (by kernel_rfl) (by kernel_rfl) (by kernel_rfl) (by kernel_rfl) (fun _ _ _ h => h) (Or.inr ⟨by rfl, rfl⟩) (by assumption) ?restR7c3x45
    try simp only [Act.put, List.setIfInBounds_toArray, List.set_cons_zero, List.set_cons_succ]
    refine wpAnyT_takeB (i := 46) (oi := ⟨some 64, .pick (.tmp 48) (.tmp 63) ((.const (.bool false))), _, _, _, _⟩) (v := ?vR7c3x46) rfl (by kernel_rfl) (by kernel_rfl) (by kernel_rfl) (by kernel_rfl) (fun _ _ _ h => h) (Or.inl ⟨by rfl, ?hyR7c3x46⟩) (by assumption) ?restR7c3x46
    case hyR7c3x46 => (intro w hSw; (try dsimp only at hSw); go_simp; try (with_reducible rfl))
    try simp only [Act.put, List.setIfInBounds_toArray, List.set_cons_zero, List.set_cons_succ]
    refine wpAnyT_done (by kernel_rfl) ?_ _
    go_wp2_with fail
    go_roundw
    case rel => exact ⟨k + 1, by go_num, hkn, (below_succ HA2.out (HXY.out HN.out)), HBy.out.trans ((Below.refl _ _).drew.mono HBy.out.size)⟩
    case measure => simp [intOf]; omega
  case pos =>
  by_cases hy1 : y < (vs.length : Int)
  case neg =>
    have HN : Hid (clash vs x y = false) := by show _ = _; unfold clash; simp; omega
    go_upto_region 7 with fail
    refine wp_region_T (fun w' => w'.cell? ⟨b, off + i, none⟩ = some (.int .i64 x) ∧ w'.cell? ⟨b, off + k, none⟩ = some (.int .i64 y)) (fun _ => True) [] (by kernel_rfl) ⟨HC2.out _ (Below.refl _ _).drew, trivial⟩ (fun hHeld => ?_)
    refine wpAnyT_takeB (i := 0) (oi := ⟨some 18, .move (.tmp 0), _, _, _, _⟩) (v := ?vR7c4x0) rfl (by kernel_rfl) (by kernel_rfl) (by kernel_rfl) (by kernel_rfl) (fun _ _ _ h => h) (Or.inl ⟨by rfl, ?hyR7c4x0⟩) (by assumption) ?restR7c4x0
    case hyR7c4x0 => (intro w hSw; (try dsimp only at hSw); go_simp; try (with_reducible rfl))
    try simp only [Act.put, List.setIfInBounds_toArray, List.set_cons_zero, List.set_cons_succ]
    refine wpAnyT_takeB (i := 1) (oi := ⟨some 19, .move (.tmp 5), _, _, _, _⟩) (v := ?vR7c4x1) rfl (by kernel_rfl) (by kernel_rfl) (by kernel_rfl) (by kernel_rfl) (fun _ _ _ h => h) (Or.inl ⟨by rfl, ?hyR7c4x1⟩) (by assumption) ?restR7c4x1
    case hyR7c4x1 => (intro w hSw; (try dsimp only at hSw); go_simp; try (with_reducible rfl))
    try simp only [Act.put, List.setIfInBounds_toArray, List.set_cons_zero, List.set_cons_succ]
    refine wpAnyT_takeB (i := 2) (oi := ⟨some 20, .indexAddr 28 (.tmp 18) (.tmp 19), _, _, _, _⟩) (v := ?vR7c4x2) rfl (by kernel_rfl) (by kernel_rfl) (by kernel_rfl) (by kernel_rfl) (fun _ _ _ h => h) (Or.inl ⟨by rfl, ?hyR7c4x2⟩) (by assumption) ?restR7c4x2
    case hyR7c4x2 => (intro w hSw; (try dsimp only at hSw); go_simp; try (with_reducible rfl))
    try simp only [Act.put, List.setIfInBounds_toArray, List.set_cons_zero, List.set_cons_succ]
    refine wpAnyT_takeB (i := 3) (oi := ⟨some 21, .load 3 (.tmp 20), _, _, _, _⟩) (v := ?vR7c4x3) rfl (by kernel_rfl) (by kernel_rfl) (by kernel_rfl) (by kernel_rfl) (fun _ _ _ h => h) (Or.inl ⟨by rfl, ?hyR7c4x3⟩) (by assumption) ?restR7c4x3
    case hyR7c4x3 => (intro w hSw; (try dsimp only at hSw); go_simp; try (with_reducible rfl))
    try simp only [Act.put, List.setIfInBounds_toArray, List.set_cons_zero, List.set_cons_succ]
    refine wpAnyT_takeB (i := 4) (oi := ⟨some 22, .binOp .geq 3 (.tmp 21) ((.const (.int .i64 0))) 3, _, _, _, _⟩) (v := ?vR7c4x4) rfl (by kernel_rfl) (by kernel_rfl) (by kernel_rfl) (by kernel_rfl) (fun _ _ _ h => h) (Or.inl ⟨by rfl, ?hyR7c4x4⟩) (by assumption) ?restR7c4x4
    case hyR7c4x4 => (intro w hSw; (try dsimp only at hSw); go_simp; try (with_reducible rfl))
    try simp only [Act.put, List.setIfInBounds_toArray, List.set_cons_zero, List.set_cons_succ]
    refine wpAnyT_takeB (i := 5) (oi := ⟨some 23, .move (.tmp 22), _, _, _, _⟩) (v := ?vR7c4x5) rfl (by kernel_rfl) (by kernel_rfl) (by kernel_rfl) (by kernel_rfl) (fun _ _ _ h => h) (Or.inl ⟨by rfl, ?hyR7c4x5⟩) (by assumption) ?restR7c4x5
    case hyR7c4x5 => (intro w hSw; (try dsimp only at hSw); go_simp; try (with_reducible rfl))
    try simp only [Act.put, List.setIfInBounds_toArray, List.set_cons_zero, List.set_cons_succ]
    refine wpAnyT_takeB (i := 6) (oi := ⟨some 24, .move (.tmp 0), _, _, _, _⟩) (v := ?vR7c4x6) rfl (by kernel_rfl) (by kernel_rfl) (by kernel_rfl) (by kernel_rfl) (fun _ _ _ h => h) (Or.inl ⟨by rfl, ?hyR7c4x6⟩) (by assumption) ?restR7c4x6
    case hyR7c4x6 => (intro w hSw; (try dsimp only at hSw); go_simp; try (with_reducible rfl))
    try simp only [Act.put, List.setIfInBounds_toArray, List.set_cons_zero, List.set_cons_succ]
    refine wpAnyT_takeB (i := 7) (oi := ⟨some 25, .move (.tmp 5), _, _, _, _⟩) (v := ?vR7c4x7) rfl (by kernel_rfl) (by kernel_rfl) (by kernel_rfl) (by kernel_rfl) (fun _ _ _ h => h) (Or.inl ⟨by rfl, ?hyR7c4x7⟩) (by assumption) ?restR7c4x7
    case hyR7c4x7 => (intro w hSw; (try dsimp only at hSw); go_simp; try (with_reducible rfl))
    try simp only [Act.put, List.setIfInBounds_toArray, List.set_cons_zero, List.set_cons_succ]
    refine wpAnyT_takeB (i := 8) (oi := ⟨some 26, .indexAddr 28 (.tmp 24) (.tmp 25), _, _, _, _⟩) (v := ?vR7c4x8) rfl (by kernel_rfl) (by kernel_rfl) (by kernel_rfl) (by kernel_rfl) (fun _ _ _ h => h) (Or.inl ⟨by rfl, ?hyR7c4x8⟩) (by assumption) ?restR7c4x8
    case hyR7c4x8 => (intro w hSw; (try dsimp only at hSw); go_simp; try (with_reducible rfl))
    try simp only [Act.put, List.setIfInBounds_toArray, List.set_cons_zero, List.set_cons_succ]
    refine wpAnyT_takeB (i := 9) (oi := ⟨some 27, .load 3 (.tmp 26), _, _, _, _⟩) (v := ?vR7c4x9) rfl (by kernel_rfl) (by kernel_rfl) (by kernel_rfl) (by kernel_rfl) (fun _ _ _ h => h) (Or.inl ⟨by rfl, ?hyR7c4x9⟩) (by assumption) ?restR7c4x9
    case hyR7c4x9 => (intro w hSw; (try dsimp only at hSw); go_simp; try (with_reducible rfl))
    try simp only [Act.put, List.setIfInBounds_toArray, List.set_cons_zero, List.set_cons_succ]
    refine wpAnyT_takeB (i := 10) (oi := ⟨some 28, .move (.tmp 1), _, _, _, _⟩) (v := ?vR7c4x10) rfl (by kernel_rfl) (by kernel_rfl) (by kernel_rfl) (by kernel_rfl) (fun _ _ _ h => h) (Or.inl ⟨by rfl, ?hyR7c4x10⟩) (by assumption) ?restR7c4x10
    case hyR7c4x10 => (intro w hSw; (try dsimp only at hSw); go_simp; try (with_reducible rfl))
    try simp only [Act.put, List.setIfInBounds_toArray, List.set_cons_zero, List.set_cons_succ]
    refine wpAnyT_takeB (i := 11) (oi := ⟨some 29, .call { callee := .builtin .len, args := #[(.tmp 28)], argTypes := #[28] }, _, _, _, _⟩) (v := ?vR7c4x11) rfl (by kernel_rfl) (by kernel_rfl) (by kernel_rfl) (by kernel_rfl) (fun _ _ _ h => h) (Or.inl ⟨by rfl, ?hyR7c4x11⟩) (by assumption) ?restR7c4x11
    case hyR7c4x11 => (intro w hSw; (try dsimp only at hSw); go_simp; try (with_reducible rfl))
    try simp only [Act.put, List.setIfInBounds_toArray, List.set_cons_zero, List.set_cons_succ]
    refine wpAnyT_takeB (i := 12) (oi := ⟨some 30, .binOp .lss 3 (.tmp 27) (.tmp 29) 3, _, _, _, _⟩) (v := ?vR7c4x12) rfl (by kernel_rfl) (by kernel_rfl) (by kernel_rfl) (by kernel_rfl) (fun _ _ _ h => h) (Or.inl ⟨by rfl, ?hyR7c4x12⟩) (by assumption) ?restR7c4x12
    case hyR7c4x12 => (intro w hSw; (try dsimp only at hSw); go_simp; try (with_reducible rfl))
    try simp only [Act.put, List.setIfInBounds_toArray, List.set_cons_zero, List.set_cons_succ]
    refine wpAnyT_takeB (i := 13) (oi := ⟨some 31, .pick (.tmp 23) (.tmp 30) ((.const (.bool false))), _, _, _, _⟩) (v := ?vR7c4x13) rfl (by kernel_rfl) (by kernel_rfl) (by kernel_rfl) (by kernel_rfl) (fun _ _ _ h => h) (Or.inl ⟨by rfl, ?hyR7c4x13⟩) (by assumption) ?restR7c4x13
    case hyR7c4x13 => (intro w hSw; (try dsimp only at hSw); go_simp; try (with_reducible rfl))
    try simp only [Act.put, List.setIfInBounds_toArray, List.set_cons_zero, List.set_cons_succ]
    refine wpAnyT_takeB (i := 14) (oi := ⟨some 32, .move (.tmp 31), _, _, _, _⟩) (v := ?vR7c4x14) rfl (by kernel_rfl) (by kernel_rfl) (by kernel_rfl) (by kernel_rfl) (fun _ _ _ h => h) (Or.inl ⟨by rfl, ?hyR7c4x14⟩) (by assumption) ?restR7c4x14
    case hyR7c4x14 => (intro w hSw; (try dsimp only at hSw); go_simp; try (with_reducible rfl))
    try simp only [Act.put, List.setIfInBounds_toArray, List.set_cons_zero, List.set_cons_succ]
    refine wpAnyT_takeB (i := 15) (oi := ⟨some 33, .move (.tmp 0), _, _, _, _⟩) (v := ?vR7c4x15) rfl (by kernel_rfl) (by kernel_rfl) (by kernel_rfl) (by kernel_rfl) (fun _ _ _ h => h) (Or.inl ⟨by rfl, ?hyR7c4x15⟩) (by assumption) ?restR7c4x15
    case hyR7c4x15 => (intro w hSw; (try dsimp only at hSw); go_simp; try (with_reducible rfl))
    try simp only [Act.put, List.setIfInBounds_toArray, List.set_cons_zero, List.set_cons_succ]
    refine wpAnyT_takeB (i := 16) (oi := ⟨some 34, .move (.tmp 6), _, _, _, _⟩) (v := ?vR7c4x16) rfl (by kernel_rfl) (by kernel_rfl) (by kernel_rfl) (by kernel_rfl) (fun _ _ _ h => h) (Or.inl ⟨by rfl, ?hyR7c4x16⟩) (by assumption) ?restR7c4x16
    case hyR7c4x16 => (intro w hSw; (try dsimp only at hSw); go_simp; try (with_reducible rfl))
    try simp only [Act.put, List.setIfInBounds_toArray, List.set_cons_zero, List.set_cons_succ]
    refine wpAnyT_takeB (i := 17) (oi := ⟨some 35, .indexAddr 28 (.tmp 33) (.tmp 34), _, _, _, _⟩) (v := ?vR7c4x17) rfl (by kernel_rfl) (by kernel_rfl) (by kernel_rfl) (by kernel_rfl) (fun _ _ _ h => h) (Or.inl ⟨by rfl, ?hyR7c4x17⟩) (by assumption) ?restR7c4x17
    case hyR7c4x17 => (intro w hSw; (try dsimp only at hSw); go_simp; try (with_reducible rfl))
    try simp only [Act.put, List.setIfInBounds_toArray, List.set_cons_zero, List.set_cons_succ]
    refine wpAnyT_takeB (i := 18) (oi := ⟨some 36, .load 3 (.tmp 35), _, _, _, _⟩) (v := ?vR7c4x18) rfl (by kernel_rfl) (by kernel_rfl) (by kernel_rfl) (by kernel_rfl) (fun _ _ _ h => h) (Or.inl ⟨by rfl, ?hyR7c4x18⟩) (by assumption) ?restR7c4x18
    case hyR7c4x18 => (intro w hSw; (try dsimp only at hSw); go_simp; try (with_reducible rfl))
    try simp only [Act.put, List.setIfInBounds_toArray, List.set_cons_zero, List.set_cons_succ]
    refine wpAnyT_takeB (i := 19) (oi := ⟨some 37, .binOp .geq 3 (.tmp 36) ((.const (.int .i64 0))) 3, _, _, _, _⟩) (v := ?vR7c4x19) rfl (by kernel_rfl) (by kernel_rfl) (by kernel_rfl) (by kernel_rfl) (fun _ _ _ h => h) (Or.inl ⟨by rfl, ?hyR7c4x19⟩) (by assumption) ?restR7c4x19
    case hyR7c4x19 => (intro w hSw; (try dsimp only at hSw); go_simp; try (with_reducible rfl))
    try simp only [Act.put, List.setIfInBounds_toArray, List.set_cons_zero, List.set_cons_succ]
    refine wpAnyT_takeB (i := 20) (oi := ⟨some 38, .pick (.tmp 32) (.tmp 37) ((.const (.bool false))), _, _, _, _⟩) (v := ?vR7c4x20) rfl (by kernel_rfl) (by kernel_rfl) (by kernel_rfl) (by kernel_rfl) (fun _ _ _ h => h) (Or.inl ⟨by rfl, ?hyR7c4x20⟩) (by assumption) ?restR7c4x20
    case hyR7c4x20 => (intro w hSw; (try dsimp only at hSw); go_simp; try (with_reducible rfl))
    try simp only [Act.put, List.setIfInBounds_toArray, List.set_cons_zero, List.set_cons_succ]
    refine wpAnyT_takeB (i := 21) (oi := ⟨some 39, .move (.tmp 38), _, _, _, _⟩) (v := ?vR7c4x21) rfl (by kernel_rfl) (by kernel_rfl) (by kernel_rfl) (by kernel_rfl) (fun _ _ _ h => h) (Or.inl ⟨by rfl, ?hyR7c4x21⟩) (by assumption) ?restR7c4x21
    case hyR7c4x21 => (intro w hSw; (try dsimp only at hSw); go_simp; try (with_reducible rfl))
    try simp only [Act.put, List.setIfInBounds_toArray, List.set_cons_zero, List.set_cons_succ]
    refine wpAnyT_takeB (i := 22) (oi := ⟨some 40, .move (.tmp 0), _, _, _, _⟩) (v := ?vR7c4x22) rfl (by kernel_rfl) (by kernel_rfl) (by kernel_rfl) (by kernel_rfl) (fun _ _ _ h => h) (Or.inl ⟨by rfl, ?hyR7c4x22⟩) (by assumption) ?restR7c4x22
    case hyR7c4x22 => (intro w hSw; (try dsimp only at hSw); go_simp; try (with_reducible rfl))
    try simp only [Act.put, List.setIfInBounds_toArray, List.set_cons_zero, List.set_cons_succ]
    refine wpAnyT_takeB (i := 23) (oi := ⟨some 41, .move (.tmp 6), _, _, _, _⟩) (v := ?vR7c4x23) rfl (by kernel_rfl) (by kernel_rfl) (by kernel_rfl) (by kernel_rfl) (fun _ _ _ h => h) (Or.inl ⟨by rfl, ?hyR7c4x23⟩) (by assumption) ?restR7c4x23
    case hyR7c4x23 => (intro w hSw; (try dsimp only at hSw); go_simp; try (with_reducible rfl))
    try simp only [Act.put, List.setIfInBounds_toArray, List.set_cons_zero, List.set_cons_succ]
    refine wpAnyT_takeB (i := 24) (oi := ⟨some 42, .indexAddr 28 (.tmp 40) (.tmp 41), _, _, _, _⟩) (v := ?vR7c4x24) rfl (by kernel_rfl) (by kernel_rfl) (by kernel_rfl) (by kernel_rfl) (fun _ _ _ h => h) (Or.inl ⟨by rfl, ?hyR7c4x24⟩) (by assumption) ?restR7c4x24
    case hyR7c4x24 => (intro w hSw; (try dsimp only at hSw); go_simp; try (with_reducible rfl))
    try simp only [Act.put, List.setIfInBounds_toArray, List.set_cons_zero, List.set_cons_succ]
    refine wpAnyT_takeB (i := 25) (oi := ⟨some 43, .load 3 (.tmp 42), _, _, _, _⟩) (v := ?vR7c4x25) rfl (by kernel_rfl) (by kernel_rfl) (by kernel_rfl) (by kernel_rfl) (fun _ _ _ h => h) (Or.inl ⟨by rfl, ?hyR7c4x25⟩) (by assumption) ?restR7c4x25
    case hyR7c4x25 => (intro w hSw; (try dsimp only at hSw); go_simp; try (with_reducible rfl))
    try simp only [Act.put, List.setIfInBounds_toArray, List.set_cons_zero, List.set_cons_succ]
    refine wpAnyT_takeB (i := 26) (oi := ⟨some 44, .move (.tmp 1), _, _, _, _⟩) (v := ?vR7c4x26) rfl (by kernel_rfl) (by kernel_rfl) (by kernel_rfl) (by kernel_rfl) (fun _ _ _ h => h) (Or.inl ⟨by rfl, ?hyR7c4x26⟩) (by assumption) ?restR7c4x26
    case hyR7c4x26 => (intro w hSw; (try dsimp only at hSw); go_simp; try (with_reducible rfl))
    try simp only [Act.put, List.setIfInBounds_toArray, List.set_cons_zero, List.set_cons_succ]
    refine wpAnyT_takeB (i := 27) (oi := ⟨some 45, .call { callee := .builtin .len, args := #[(.tmp 44)], argTypes := #[28] }, _, _, _, _⟩) (v := ?vR7c4x27) rfl (by kernel_rfl) (by kernel_rfl) (by kernel_rfl) (by kernel_rfl) (fun _ _ _ h => h) (Or.inl ⟨by rfl, ?hyR7c4x27⟩) (by assumption) ?restR7c4x27
    case hyR7c4x27 => (intro w hSw; (try dsimp only at hSw); go_simp; try (with_reducible rfl))
    try simp only [Act.put, List.setIfInBounds_toArray, List.set_cons_zero, List.set_cons_succ]
    refine wpAnyT_takeB (i := 28) (oi := ⟨some 46, .binOp .lss 3 (.tmp 43) (.tmp 45) 3, _, _, _, _⟩) (v := ?vR7c4x28) rfl (by kernel_rfl) (by kernel_rfl) (by kernel_rfl) (by kernel_rfl) (fun _ _ _ h => h) (Or.inl ⟨by rfl, ?hyR7c4x28⟩) (by assumption) ?restR7c4x28
    case hyR7c4x28 => (intro w hSw; (try dsimp only at hSw); go_simp; try (with_reducible rfl))
    try simp only [Act.put, List.setIfInBounds_toArray, List.set_cons_zero, List.set_cons_succ]
    refine wpAnyT_takeB (i := 29) (oi := ⟨some 47, .pick (.tmp 39) (.tmp 46) ((.const (.bool false))), _, _, _, _⟩) (v := ?vR7c4x29) rfl (by kernel_rfl) (by kernel_rfl) (by kernel_rfl) (by kernel_rfl) (fun _ _ _ h => h) (Or.inl ⟨by rfl, ?hyR7c4x29⟩) (by assumption) ?restR7c4x29
    case hyR7c4x29 => (intro w hSw; (try dsimp only at hSw); go_simp; try (with_reducible rfl))
    try simp only [Act.put, List.setIfInBounds_toArray, List.set_cons_zero, List.set_cons_succ]
    refine wpAnyT_takeB (i := 30) (oi := ⟨some 48, .move (.tmp 47), _, _, _, _⟩) (v := ?vR7c4x30) rfl (by kernel_rfl) (by kernel_rfl) (by kernel_rfl) (by kernel_rfl) (fun _ _ _ h => h) (Or.inl ⟨by rfl, ?hyR7c4x30⟩) (by assumption) ?restR7c4x30
    case hyR7c4x30 => (intro w hSw; (try dsimp only at hSw); go_simp; try (with_reducible rfl))
    try simp only [Act.put, List.setIfInBounds_toArray, List.set_cons_zero, List.set_cons_succ]
    refine wpAnyT_takeB (i := 31) (oi := ⟨some 49, .move (.tmp 1), _, _, _, _⟩) (v := undef) rfl (by kernel_rfl) (by kernel_rfl) (by kernel_rfl) (by kernel_rfl) (fun _ _ _ h => h) (Or.inr ⟨by rfl, rfl⟩) (by assumption) ?restR7c4x31
    try simp only [Act.put, List.setIfInBounds_toArray, List.set_cons_zero, List.set_cons_succ]
    refine wpAnyT_takeB (i := 32) (oi := ⟨some 50, .move (.tmp 0), _, _, _, _⟩) (v := undef) rfl (by kernel_rfl) (by kernel_rfl) (by kernel_rfl) (by kernel_rfl) (fun _ _ _ h => h) (Or.inr ⟨by rfl, rfl⟩) (by assumption) ?restR7c4x32
    try simp only [Act.put, List.setIfInBounds_toArray, List.set_cons_zero, List.set_cons_succ]
    refine wpAnyT_takeB (i := 33) (oi := ⟨some 51, .move (.tmp 5), _, _, _, _⟩) (v := undef) rfl (by kernel_rfl) (by kernel_rfl) (by kernel_rfl) (by kernel_rfl) (fun _ _ _ h => h) (Or.inr ⟨by rfl, rfl⟩) (by assumption) ?restR7c4x33
    try simp only [Act.put, List.setIfInBounds_toArray, List.set_cons_zero, List.set_cons_succ]
    refine wpAnyT_takeB (i := 34) (oi := ⟨some 52, .indexAddr 28 (.tmp 50) (.tmp 51), _, _, _, _⟩) (v := undef) rfl (by kernel_rfl) (by kernel_rfl) (by kernel_rfl) (by kernel_rfl) (fun _ _ _ h => h) (Or.inr ⟨by rfl, rfl⟩) (by assumption) ?restR7c4x34
    try simp only [Act.put, List.setIfInBounds_toArray, List.set_cons_zero, List.set_cons_succ]
    refine wpAnyT_takeB (i := 35) (oi := ⟨some 53, .load 3 (.tmp 52), _, _, _, _⟩) (v := undef) rfl (by kernel_rfl) (by kernel_rfl) (by kernel_rfl) (by kernel_rfl) (fun _ _ _ h => h) (Or.inr ⟨by rfl, rfl⟩) (by assumption) ?restR7c4x35
    try simp only [Act.put, List.setIfInBounds_toArray, List.set_cons_zero, List.set_cons_succ]
    refine wpAnyT_takeB (i := 36) (oi := ⟨some 54, .indexAddr 28 (.tmp 49) (.tmp 53), _, _, _, _⟩) (v := undef) rfl (by kernel_rfl) (by kernel_rfl) (by kernel_rfl) (by kernel_rfl) (fun _ _ _ h => h) (Or.inr ⟨by rfl, rfl⟩) (by assumption) ?restR7c4x36
    try simp only [Act.put, List.setIfInBounds_toArray, List.set_cons_zero, List.set_cons_succ]
    refine wpAnyT_takeB (i := 37) (oi := ⟨some 55, .load 3 (.tmp 54), _, _, _, _⟩) (v := undef) rfl (by kernel_rfl) (by kernel_rfl) (by kernel_rfl) (by kernel_rfl) (fun _ _ _ h => h) (Or.inr ⟨by rfl, rfl⟩) (by assumption) ?restR7c4x37
    try simp only [Act.put, List.setIfInBounds_toArray, List.set_cons_zero, List.set_cons_succ]
    refine wpAnyT_takeB (i := 38) (oi := ⟨some 56, .move (.tmp 1), _, _, _, _⟩) (v := undef) rfl (by kernel_rfl) (by kernel_rfl) (by kernel_rfl) (by kernel_rfl) (fun _ _ _ h => h) (Or.inr ⟨by rfl, rfl⟩) (by assumption) ?restR7c4x38
    try simp only [Act.put, List.setIfInBounds_toArray, List.set_cons_zero, List.set_cons_succ]
    refine wpAnyT_takeB (i := 39) (oi := ⟨some 57, .move (.tmp 0), _, _, _, _⟩) (v := undef) rfl (by kernel_rfl) (by kernel_rfl) (by kernel_rfl) (by kernel_rfl) (fun _ _ _ h => h) (Or.inr ⟨by rfl, rfl⟩) (by assumption) ?restR7c4x39
    try simp only [Act.put, List.setIfInBounds_toArray, List.set_cons_zero, List.set_cons_succ]
    refine wpAnyT_takeB (i := 40) (oi := ⟨some 58, .move (.tmp 6), _, _, _, _⟩) (v := undef) rfl (by kernel_rfl) (by kernel_rfl) (by kernel_rfl) (by kernel_rfl) (fun _ _ _ h => h) (Or.inr ⟨by rfl, rfl⟩) (by assumption) ?restR7c4x40
    try simp only [Act.put, List.setIfInBounds_toArray, List.set_cons_zero, List.set_cons_succ]
    refine wpAnyT_takeB (i := 41) (oi := ⟨some 59, .indexAddr 28 (.tmp 57) (.tmp 58), _, _, _, _⟩) (v := undef) rfl (by kernel_rfl) (by kernel_rfl) (by kernel_rfl) (by kernel_rfl) (fun _ _ _ h => h) (Or.inr ⟨by rfl, rfl⟩) (by assumption) ?restR7c4x41
    try simp only [Act.put, List.setIfInBounds_toArray, List.set_cons_zero, List.set_cons_succ]
    refine wpAnyT_takeB (i := 42) (oi := ⟨some 60, .load 3 (.tmp 59), _, _, _, _⟩) (v := undef) rfl (by kernel_rfl) (by kernel_rfl) (by kernel_rfl) (by kernel_rfl) (fun _ _ _ h => h) (Or.inr ⟨by rfl, rfl⟩) (by assumption) ?restR7c4x42
    try simp only [Act.put, List.setIfInBounds_toArray, List.set_cons_zero, List.set_cons_succ]
    refine wpAnyT_takeB (i := 43) (oi := ⟨some 61, .indexAddr 28 (.tmp 56) (.tmp 60), _, _, _, _⟩) (v := undef) rfl (by kernel_rfl) (by kernel_rfl) (by kernel_rfl) (by kernel_rfl) (fun _ _ _ h => h) (Or.inr ⟨by rfl, rfl⟩) (by assumption) ?restR7c4x43
    try simp only [Act.put, List.setIfInBounds_toArray, List.set_cons_zero, List.set_cons_succ]
    refine wpAnyT_takeB (i := 44) (oi := ⟨some 62, .load 3 (.tmp 61), _, _, _, _⟩) (v := undef) rfl (by kernel_rfl) (by kernel_rfl) (by kernel_rfl) (by kernel_rfl) (fun _ _ _ h => h) (Or.inr ⟨by rfl, rfl⟩) (by assumption) ?restR7c4x44
    try simp only [Act.put, List.setIfInBounds_toArray, List.set_cons_zero, List.set_cons_succ]
    refine wpAnyT_takeB (i := 45) (oi := ⟨some 63, .binOp .eql 3 (.tmp 55) (.tmp 62) 3, _, _, _, _⟩) (v := undef) rfl (by kernel_rfl) (by kernel_rfl) (by kernel_rfl) (by kernel_rfl) (fun _ _ _ h => h) (Or.inr ⟨by rfl, rfl⟩) (by assumption) ?restR7c4x45
    try simp only [Act.put, List.setIfInBounds_toArray, List.set_cons_zero, List.set_cons_succ]
    refine wpAnyT_takeB (i := 46) (oi := ⟨some 64, .pick (.tmp 48) (.tmp 63) ((.const (.bool false))), _, _, _, _⟩) (v := ?vR7c4x46) rfl (by kernel_rfl) (by kernel_rfl) (by kernel_rfl) (by kernel_rfl) (fun _ _ _ h => h) (Or.inl ⟨by rfl, ?hyR7c4x46⟩) (by assumption) ?restR7c4x46
    case hyR7c4x46 => (intro w hSw; (try dsimp only at hSw); go_simp; try (with_reducible rfl))
    try simp only [Act.put, List.setIfInBounds_toArray, List.set_cons_zero, List.set_cons_succ]
    refine wpAnyT_done (by kernel_rfl) ?_ _
    go_wp2_with fail
    go_roundw
    case rel => exact ⟨k + 1, by go_num, hkn, (below_succ HA2.out (HXY.out HN.out)), HBy.out.trans ((Below.refl _ _).drew.mono HBy.out.size)⟩
    case measure => simp [intOf]; omega
  case pos =>
  obtain ⟨m, rfl⟩ : ∃ m : Nat, x = (m : Int) := ⟨x.toNat, by omega⟩
  obtain ⟨n, rfl⟩ : ∃ n : Nat, y = (n : Int) := ⟨y.toNat, by omega⟩
  have hm : m < vs.length := by omega
  have hn : n < vs.length := by omega
  obtain ⟨vb, vo, rfl, _⟩ := HV.out wy HBy.out m hm
  have HD : Hid (∀ w', Below wy.heap.size wy w' → w'.cell? ⟨vb, vo + m, none⟩ = some (.int .i64 vs[m]) ∧ w'.cell? ⟨vb, vo + n, none⟩ = some (.int .i64 vs[n])) := fun w' hb => by
    obtain ⟨b1, o1, e1, c1⟩ := HV.out w' (bl_next HBy.out hb) m hm
    injection e1 with e1
    injection e1 with e1 e2
    subst e1 e2
    obtain ⟨b1, o1, e1, c2⟩ := HV.out w' (bl_next HBy.out hb) n hn
    injection e1 with e1
    injection e1 with e1 e2
    subst e1 e2
    exact ⟨c1, c2⟩
  have hcl : clash vs (m : Int) (n : Int) = decide (vs[m] = vs[n]) := by
    unfold clash
    rw [Int.toNat_natCast, Int.toNat_natCast, List.getD_eq_getElem?_getD, List.getD_eq_getElem?_getD, List.getElem?_eq_getElem hm, List.getElem?_eq_getElem hn]
    simp [hm, hn]
  obtain ⟨u, hu⟩ : ∃ u, vs[m] = u := ⟨_, rfl⟩
  obtain ⟨v, hv⟩ : ∃ v, vs[n] = v := ⟨_, rfl⟩
  rw [hu, hv] at HD hcl
  have HCl : Hid (clash vs (m : Int) (n : Int) = decide (u = v)) := hcl
  have HC3 : Hid (∀ w', Below wy.heap.size wy w' → (w'.cell? ⟨b, off + i, none⟩ = some (.int .i64 (m : Int)) ∧ w'.cell? ⟨b, off + k, none⟩ = some (.int .i64 (n : Int))) ∧ w'.cell? ⟨vb, vo + m, none⟩ = some (.int .i64 u) ∧ w'.cell? ⟨vb, vo + n, none⟩ = some (.int .i64 v)) := fun w' hb => ⟨HC2.out w' hb, HD.out w' hb⟩
  clear hu hv hcl HC2 HD
  by_cases huv : u = v
  case pos =>
    have HN : Hid (clash vs (m : Int) (n : Int) = true) := by show _ = _; rw [HCl.out]; exact decide_eq_true huv
    go_upto_region 7 with fail
    refine wp_region_T (fun w' => (w'.cell? ⟨b, off + i, none⟩ = some (.int .i64 (m : Int)) ∧ w'.cell? ⟨b, off + k, none⟩ = some (.int .i64 (n : Int))) ∧ w'.cell? ⟨vb, vo + m, none⟩ = some (.int .i64 u) ∧ w'.cell? ⟨vb, vo + n, none⟩ = some (.int .i64 v)) (fun _ => True) [] (by kernel_rfl) ⟨HC3.out _ (Below.refl _ _).drew, trivial⟩ (fun hHeld => ?_)
    refine wpAnyT_takeB (i := 0) (oi := ⟨some 18, .move (.tmp 0), _, _, _, _⟩) (v := ?vR7c5x0) rfl (by kernel_rfl) (by kernel_rfl) (by kernel_rfl) (by kernel_rfl) (fun _ _ _ h => h) (Or.inl ⟨by rfl, ?hyR7c5x0⟩) (by assumption) ?restR7c5x0
    case hyR7c5x0 => (intro w hSw; (try dsimp only at hSw); go_simp; try (with_reducible rfl))
    try simp only [Act.put, List.setIfInBounds_toArray, List.set_cons_zero, List.set_cons_succ]
    refine wpAnyT_takeB (i := 1) (oi := ⟨some 19, .move (.tmp 5), _, _, _, _⟩) (v := ?vR7c5x1) rfl (by kernel_rfl) (by kernel_rfl) (by kernel_rfl) (by kernel_rfl) (fun _ _ _ h => h) (Or.inl ⟨by rfl, ?hyR7c5x1⟩) (by assumption) ?restR7c5x1
    case hyR7c5x1 => (intro w hSw; (try dsimp only at hSw); go_simp; try (with_reducible rfl))
    try simp only [Act.put, List.setIfInBounds_toArray, List.set_cons_zero, List.set_cons_succ]
    refine wpAnyT_takeB (i := 2) (oi := ⟨some 20, .indexAddr 28 (.tmp 18) (.tmp 19), _, _, _, _⟩) (v := ?vR7c5x2) rfl (by kernel_rfl) (by kernel_rfl) (by kernel_rfl) (by kernel_rfl) (fun _ _ _ h => h) (Or.inl ⟨by rfl, ?hyR7c5x2⟩) (by assumption) ?restR7c5x2
    case hyR7c5x2 => (intro w hSw; (try dsimp only at hSw); go_simp; try (with_reducible rfl))
    try simp only [Act.put, List.setIfInBounds_toArray, List.set_cons_zero, List.set_cons_succ]
    refine wpAnyT_takeB (i := 3) (oi := ⟨some 21, .load 3 (.tmp 20), _, _, _, _⟩) (v := ?vR7c5x3) rfl (by kernel_rfl) (by kernel_rfl) (by kernel_rfl) (by kernel_rfl) (fun _ _ _ h => h) (Or.inl ⟨by rfl, ?hyR7c5x3⟩) (by assumption) ?restR7c5x3
    case hyR7c5x3 => (intro w hSw; (try dsimp only at hSw); go_simp; try (with_reducible rfl))
    try simp only [Act.put, List.setIfInBounds_toArray, List.set_cons_zero, List.set_cons_succ]
    refine wpAnyT_takeB (i := 4) (oi := ⟨some 22, .binOp .geq 3 (.tmp 21) ((.const (.int .i64 0))) 3, _, _, _, _⟩) (v := ?vR7c5x4) rfl (by kernel_rfl) (by kernel_rfl) (by kernel_rfl) (by kernel_rfl) (fun _ _ _ h => h) (Or.inl ⟨by rfl, ?hyR7c5x4⟩) (by assumption) ?restR7c5x4
    case hyR7c5x4 => (intro w hSw; (try dsimp only at hSw); go_simp; try (with_reducible rfl))
    try simp only [Act.put, List.setIfInBounds_toArray, List.set_cons_zero, List.set_cons_succ]
    refine wpAnyT_takeB (i := 5) (oi := ⟨some 23, .move (.tmp 22), _, _, _, _⟩) (v := ?vR7c5x5) rfl (by kernel_rfl) (by kernel_rfl) (by kernel_rfl) (by kernel_rfl) (fun _ _ _ h => h) (Or.inl ⟨by rfl, ?hyR7c5x5⟩) (by assumption) ?restR7c5x5
    case hyR7c5x5 => (intro w hSw; (try dsimp only at hSw); go_simp; try (with_reducible rfl))
    try simp only [Act.put, List.setIfInBounds_toArray, List.set_cons_zero, List.set_cons_succ]
    refine wpAnyT_takeB (i := 6) (oi := ⟨some 24, .move (.tmp 0), _, _, _, _⟩) (v := ?vR7c5x6) rfl (by kernel_rfl) (by kernel_rfl) (by kernel_rfl) (by kernel_rfl) (fun _ _ _ h => h) (Or.inl ⟨by rfl, ?hyR7c5x6⟩) (by assumption) ?restR7c5x6
    case hyR7c5x6 => (intro w hSw; (try dsimp only at hSw); go_simp; try (with_reducible rfl))
    try simp only [Act.put, List.setIfInBounds_toArray, List.set_cons_zero, List.set_cons_succ]
    refine wpAnyT_takeB (i := 7) (oi := ⟨some 25, .move (.tmp 5), _, _, _, _⟩) (v := ?vR7c5x7) rfl (by kernel_rfl) (by kernel_rfl) (by kernel_rfl) (by kernel_rfl) (fun _ _ _ h => h) (Or.inl ⟨by rfl, ?hyR7c5x7⟩) (by assumption) ?restR7c5x7
    case hyR7c5x7 => (intro w hSw; (try dsimp only at hSw); go_simp; try (with_reducible rfl))
    try simp only [Act.put, List.setIfInBounds_toArray, List.set_cons_zero, List.set_cons_succ]
    refine wpAnyT_takeB (i := 8) (oi := ⟨some 26, .indexAddr 28 (.tmp 24) (.tmp 25), _, _, _, _⟩) (v := ?vR7c5x8) rfl (by kernel_rfl) (by kernel_rfl) (by kernel_rfl) (by kernel_rfl) (fun _ _ _ h => h) (Or.inl ⟨by rfl, ?hyR7c5x8⟩) (by assumption) ?restR7c5x8
    case hyR7c5x8 => (intro w hSw; (try dsimp only at hSw); go_simp; try (with_reducible rfl))
    try simp only [Act.put, List.setIfInBounds_toArray, List.set_cons_zero, List.set_cons_succ]
    refine wpAnyT_takeB (i := 9) (oi := ⟨some 27, .load 3 (.tmp 26), _, _, _, _⟩) (v := ?vR7c5x9) rfl (by kernel_rfl) (by kernel_rfl) (by kernel_rfl) (by kernel_rfl) (fun _ _ _ h => h) (Or.inl ⟨by rfl, ?hyR7c5x9⟩) (by assumption) ?restR7c5x9
    case hyR7c5x9 => (intro w hSw; (try dsimp only at hSw); go_simp; try (with_reducible rfl))
    try simp only [Act.put, List.setIfInBounds_toArray, List.set_cons_zero, List.set_cons_succ]
    refine wpAnyT_takeB (i := 10) (oi := ⟨some 28, .move (.tmp 1), _, _, _, _⟩) (v := ?vR7c5x10) rfl (by kernel_rfl) (by kernel_rfl) (by kernel_rfl) (by kernel_rfl) (fun _ _ _ h => h) (Or.inl ⟨by rfl, ?hyR7c5x10⟩) (by assumption) ?restR7c5x10
    case hyR7c5x10 => (intro w hSw; (try dsimp only at hSw); go_simp; try (with_reducible rfl))
    try simp only [Act.put, List.setIfInBounds_toArray, List.set_cons_zero, List.set_cons_succ]
    refine wpAnyT_takeB (i := 11) (oi := ⟨some 29, .call { callee := .builtin .len, args := #[(.tmp 28)], argTypes := #[28] }, _, _, _, _⟩) (v := ?vR7c5x11) rfl (by kernel_rfl) (by kernel_rfl) (by kernel_rfl) (by kernel_rfl) (fun _ _ _ h => h) (Or.inl ⟨by rfl, ?hyR7c5x11⟩) (by assumption) ?restR7c5x11
    case hyR7c5x11 => (intro w hSw; (try dsimp only at hSw); go_simp; try (with_reducible rfl))
    try simp only [Act.put, List.setIfInBounds_toArray, List.set_cons_zero, List.set_cons_succ]
    refine wpAnyT_takeB (i := 12) (oi := ⟨some 30, .binOp .lss 3 (.tmp 27) (.tmp 29) 3, _, _, _, _⟩) (v := ?vR7c5x12) rfl (by kernel_rfl) (by kernel_rfl) (by kernel_rfl) (by kernel_rfl) (fun _ _ _ h => h) (Or.inl ⟨by rfl, ?hyR7c5x12⟩) (by assumption) ?restR7c5x12
    case hyR7c5x12 => (intro w hSw; (try dsimp only at hSw); go_simp; try (with_reducible rfl))
    try simp only [Act.put, List.setIfInBounds_toArray, List.set_cons_zero, List.set_cons_succ]
    refine wpAnyT_takeB (i := 13) (oi := ⟨some 31, .pick (.tmp 23) (.tmp 30) ((.const (.bool false))), _, _, _, _⟩) (v := ?vR7c5x13) rfl (by kernel_rfl) (by kernel_rfl) (by kernel_rfl) (by kernel_rfl) (fun _ _ _ h => h) (Or.inl ⟨by rfl, ?hyR7c5x13⟩) (by assumption) ?restR7c5x13
    case hyR7c5x13 => (intro w hSw; (try dsimp only at hSw); go_simp; try (with_reducible rfl))
    try simp only [Act.put, List.setIfInBounds_toArray, List.set_cons_zero, List.set_cons_succ]
    refine wpAnyT_takeB (i := 14) (oi := ⟨some 32, .move (.tmp 31), _, _, _, _⟩) (v := ?vR7c5x14) rfl (by kernel_rfl) (by kernel_rfl) (by kernel_rfl) (by kernel_rfl) (fun _ _ _ h => h) (Or.inl ⟨by rfl, ?hyR7c5x14⟩) (by assumption) ?restR7c5x14
    case hyR7c5x14 => (intro w hSw; (try dsimp only at hSw); go_simp; try (with_reducible rfl))
    try simp only [Act.put, List.setIfInBounds_toArray, List.set_cons_zero, List.set_cons_succ]
    refine wpAnyT_takeB (i := 15) (oi := ⟨some 33, .move (.tmp 0), _, _, _, _⟩) (v := ?vR7c5x15) rfl (by kernel_rfl) (by kernel_rfl) (by kernel_rfl) (by kernel_rfl) (fun _ _ _ h => h) (Or.inl ⟨by rfl, ?hyR7c5x15⟩) (by assumption) ?restR7c5x15
    case hyR7c5x15 => (intro w hSw; (try dsimp only at hSw); go_simp; try (with_reducible rfl))
    try simp only [Act.put, List.setIfInBounds_toArray, List.set_cons_zero, List.set_cons_succ]
    refine wpAnyT_takeB (i := 16) (oi := ⟨some 34, .move (.tmp 6), _, _, _, _⟩) (v := ?vR7c5x16) rfl (by kernel_rfl) (by kernel_rfl) (by kernel_rfl) (by kernel_rfl) (fun _ _ _ h => h) (Or.inl ⟨by rfl, ?hyR7c5x16⟩) (by assumption) ?restR7c5x16
    case hyR7c5x16 => (intro w hSw; (try dsimp only at hSw); go_simp; try (with_reducible rfl))
    try simp only [Act.put, List.setIfInBounds_toArray, List.set_cons_zero, List.set_cons_succ]
    refine wpAnyT_takeB (i := 17) (oi := ⟨some 35, .indexAddr 28 (.tmp 33) (.tmp 34), _, _, _, _⟩) (v := ?vR7c5x17) rfl (by kernel_rfl) (by kernel_rfl) (by kernel_rfl) (by kernel_rfl) (fun _ _ _ h => h) (Or.inl ⟨by rfl, ?hyR7c5x17⟩) (by assumption) ?restR7c5x17
    case hyR7c5x17 => (intro w hSw; (try dsimp only at hSw); go_simp; try (with_reducible rfl))
    try simp only [Act.put, List.setIfInBounds_toArray, List.set_cons_zero, List.set_cons_succ]
    refine wpAnyT_takeB (i := 18) (oi := ⟨some 36, .load 3 (.tmp 35), _, _, _, _⟩) (v := ?vR7c5x18) rfl (by kernel_rfl) (by kernel_rfl) (by kernel_rfl) (by kernel_rfl) (fun _ _ _ h => h) (Or.inl ⟨by rfl, ?hyR7c5x18⟩) (by assumption) ?restR7c5x18
    case hyR7c5x18 => (intro w hSw; (try dsimp only at hSw); go_simp; try (with_reducible rfl))
    try simp only [Act.put, List.setIfInBounds_toArray, List.set_cons_zero, List.set_cons_succ]
    refine wpAnyT_takeB (i := 19) (oi := ⟨some 37, .binOp .geq 3 (.tmp 36) ((.const (.int .i64 0))) 3, _, _, _, _⟩) (v := ?vR7c5x19) rfl (by kernel_rfl) (by kernel_rfl) (by kernel_rfl) (by kernel_rfl) (fun _ _ _ h => h) (Or.inl ⟨by rfl, ?hyR7c5x19⟩) (by assumption) ?restR7c5x19
    case hyR7c5x19 => (intro w hSw; (try dsimp only at hSw); go_simp; try (with_reducible rfl))
    try simp only [Act.put, List.setIfInBounds_toArray, List.set_cons_zero, List.set_cons_succ]
    refine wpAnyT_takeB (i := 20) (oi := ⟨some 38, .pick (.tmp 32) (.tmp 37) ((.const (.bool false))), _, _, _, _⟩) (v := ?vR7c5x20) rfl (by kernel_rfl) (by kernel_rfl) (by kernel_rfl) (by kernel_rfl) (fun _ _ _ h => h) (Or.inl ⟨by rfl, ?hyR7c5x20⟩) (by assumption) ?restR7c5x20
    case hyR7c5x20 => (intro w hSw; (try dsimp only at hSw); go_simp; try (with_reducible rfl))
    try simp only [Act.put, List.setIfInBounds_toArray, List.set_cons_zero, List.set_cons_succ]
    refine wpAnyT_takeB (i := 21) (oi := ⟨some 39, .move (.tmp 38), _, _, _, _⟩) (v := ?vR7c5x21) rfl (by kernel_rfl) (by kernel_rfl) (by kernel_rfl) (by kernel_rfl) (fun _ _ _ h => h) (Or.inl ⟨by rfl, ?hyR7c5x21⟩) (by assumption) ?restR7c5x21
    case hyR7c5x21 => (intro w hSw; (try dsimp only at hSw); go_simp; try (with_reducible rfl))
    try simp only [Act.put, List.setIfInBounds_toArray, List.set_cons_zero, List.set_cons_succ]
    refine wpAnyT_takeB (i := 22) (oi := ⟨some 40, .move (.tmp 0), _, _, _, _⟩) (v := ?vR7c5x22) rfl (by kernel_rfl) (by kernel_rfl) (by kernel_rfl) (by kernel_rfl) (fun _ _ _ h => h) (Or.inl ⟨by rfl, ?hyR7c5x22⟩) (by assumption) ?restR7c5x22
    case hyR7c5x22 => (intro w hSw; (try dsimp only at hSw); go_simp; try (with_reducible rfl))
    try simp only [Act.put, List.setIfInBounds_toArray, List.set_cons_zero, List.set_cons_succ]
    refine wpAnyT_takeB (i := 23) (oi := ⟨some 41, .move (.tmp 6), _, _, _, _⟩) (v := ?vR7c5x23) rfl (by kernel_rfl) (by kernel_rfl) (by kernel_rfl) (by kernel_rfl) (fun _ _ _ h => h) (Or.inl ⟨by rfl, ?hyR7c5x23⟩) (by assumption) ?restR7c5x23
    case hyR7c5x23 => (intro w hSw; (try dsimp only at hSw); go_simp; try (with_reducible rfl))
    try simp only [Act.put, List.setIfInBounds_toArray, List.set_cons_zero, List.set_cons_succ]
    refine wpAnyT_takeB (i := 24) (oi := ⟨some 42, .indexAddr 28 (.tmp 40) (.tmp 41), _, _, _, _⟩) (v := ?vR7c5x24) rfl (by kernel_rfl) (by kernel_rfl) (by kernel_rfl) (by kernel_rfl) (fun _ _ _ h => h) (Or.inl ⟨by rfl, ?hyR7c5x24⟩) (by assumption) ?restR7c5x24
    case hyR7c5x24 => (intro w hSw; (try dsimp only at hSw); go_simp; try (with_reducible rfl))
    try simp only [Act.put, List.setIfInBounds_toArray, List.set_cons_zero, List.set_cons_succ]
    refine wpAnyT_takeB (i := 25) (oi := ⟨some 43, .load 3 (.tmp 42), _, _, _, _⟩) (v := ?vR7c5x25) rfl (by kernel_rfl) (by kernel_rfl) (by kernel_rfl) (by kernel_rfl) (fun _ _ _ h => h) (Or.inl ⟨by rfl, ?hyR7c5x25⟩) (by assumption) ?restR7c5x25
    case hyR7c5x25 => (intro w hSw; (try dsimp only at hSw); go_simp; try (with_reducible rfl))
    try simp only [Act.put, List.setIfInBounds_toArray, List.set_cons_zero, List.set_cons_succ]
    refine wpAnyT_takeB (i := 26) (oi := ⟨some 44, .move (.tmp 1), _, _, _, _⟩) (v := ?vR7c5x26) rfl (by kernel_rfl) (by kernel_rfl) (by kernel_rfl) (by kernel_rfl) (fun _ _ _ h => h) (Or.inl ⟨by rfl, ?hyR7c5x26⟩) (by assumption) ?restR7c5x26
    case hyR7c5x26 => (intro w hSw; (try dsimp only at hSw); go_simp; try (with_reducible rfl))
    try simp only [Act.put, List.setIfInBounds_toArray, List.set_cons_zero, List.set_cons_succ]
    refine wpAnyT_takeB (i := 27) (oi := ⟨some 45, .call { callee := .builtin .len, args := #[(.tmp 44)], argTypes := #[28] }, _, _, _, _⟩) (v := ?vR7c5x27) rfl (by kernel_rfl) (by kernel_rfl) (by kernel_rfl) (by kernel_rfl) (fun _ _ _ h => h) (Or.inl ⟨by rfl, ?hyR7c5x27⟩) (by assumption) ?restR7c5x27
    case hyR7c5x27 => (intro w hSw; (try dsimp only at hSw); go_simp; try (with_reducible rfl))
    try simp only [Act.put, List.setIfInBounds_toArray, List.set_cons_zero, List.set_cons_succ]
    refine wpAnyT_takeB (i := 28) (oi := ⟨some 46, .binOp .lss 3 (.tmp 43) (.tmp 45) 3, _, _, _, _⟩) (v := ?vR7c5x28) rfl (by kernel_rfl) (by kernel_rfl) (by kernel_rfl) (by kernel_rfl) (fun _ _ _ h => h) (Or.inl ⟨by rfl, ?hyR7c5x28⟩) (by assumption) ?restR7c5x28
    case hyR7c5x28 => (intro w hSw; (try dsimp only at hSw); go_simp; try (with_reducible rfl))
    try simp only [Act.put, List.setIfInBounds_toArray, List.set_cons_zero, List.set_cons_succ]
    refine wpAnyT_takeB (i := 29) (oi := ⟨some 47, .pick (.tmp 39) (.tmp 46) ((.const (.bool false))), _, _, _, _⟩) (v := ?vR7c5x29) rfl (by kernel_rfl) (by kernel_rfl) (by kernel_rfl) (by kernel_rfl) (fun _ _ _ h => h) (Or.inl ⟨by rfl, ?hyR7c5x29⟩) (by assumption) ?restR7c5x29
    case hyR7c5x29 => (intro w hSw; (try dsimp only at hSw); go_simp; try (with_reducible rfl))
    try simp only [Act.put, List.setIfInBounds_toArray, List.set_cons_zero, List.set_cons_succ]
    refine wpAnyT_takeB (i := 30) (oi := ⟨some 48, .move (.tmp 47), _, _, _, _⟩) (v := ?vR7c5x30) rfl (by kernel_rfl) (by kernel_rfl) (by kernel_rfl) (by kernel_rfl) (fun _ _ _ h => h) (Or.inl ⟨by rfl, ?hyR7c5x30⟩) (by assumption) ?restR7c5x30
    case hyR7c5x30 => (intro w hSw; (try dsimp only at hSw); go_simp; try (with_reducible rfl))
    try simp only [Act.put, List.setIfInBounds_toArray, List.set_cons_zero, List.set_cons_succ]
    refine wpAnyT_takeB (i := 31) (oi := ⟨some 49, .move (.tmp 1), _, _, _, _⟩) (v := ?vR7c5x31) rfl (by kernel_rfl) (by kernel_rfl) (by kernel_rfl) (by kernel_rfl) (fun _ _ _ h => h) (Or.inl ⟨by rfl, ?hyR7c5x31⟩) (by assumption) ?restR7c5x31
    case hyR7c5x31 => (intro w hSw; (try dsimp only at hSw); go_simp; try (with_reducible rfl))
    try simp only [Act.put, List.setIfInBounds_toArray, List.set_cons_zero, List.set_cons_succ]
    refine wpAnyT_takeB (i := 32) (oi := ⟨some 50, .move (.tmp 0), _, _, _, _⟩) (v := ?vR7c5x32) rfl (by kernel_rfl) (by kernel_rfl) (by kernel_rfl) (by kernel_rfl) (fun _ _ _ h => h) (Or.inl ⟨by rfl, ?hyR7c5x32⟩) (by assumption) ?restR7c5x32
    case hyR7c5x32 => (intro w hSw; (try dsimp only at hSw); go_simp; try (with_reducible rfl))
    try simp only [Act.put, List.setIfInBounds_toArray, List.set_cons_zero, List.set_cons_succ]
    refine wpAnyT_takeB (i := 33) (oi := ⟨some 51, .move (.tmp 5), _, _, _, _⟩) (v := ?vR7c5x33) rfl (by kernel_rfl) (by kernel_rfl) (by kernel_rfl) (by kernel_rfl) (fun _ _ _ h => h) (Or.inl ⟨by rfl, ?hyR7c5x33⟩) (by assumption) ?restR7c5x33
    case hyR7c5x33 => (intro w hSw; (try dsimp only at hSw); go_simp; try (with_reducible rfl))
    try simp only [Act.put, List.setIfInBounds_toArray, List.set_cons_zero, List.set_cons_succ]
    refine wpAnyT_takeB (i := 34) (oi := ⟨some 52, .indexAddr 28 (.tmp 50) (.tmp 51), _, _, _, _⟩) (v := ?vR7c5x34) rfl (by kernel_rfl) (by kernel_rfl) (by kernel_rfl) (by kernel_rfl) (fun _ _ _ h => h) (Or.inl ⟨by rfl, ?hyR7c5x34⟩) (by assumption) ?restR7c5x34
    case hyR7c5x34 => (intro w hSw; (try dsimp only at hSw); go_simp; try (with_reducible rfl))
    try simp only [Act.put, List.setIfInBounds_toArray, List.set_cons_zero, List.set_cons_succ]
    refine wpAnyT_takeB (i := 35) (oi := ⟨some 53, .load 3 (.tmp 52), _, _, _, _⟩) (v := ?vR7c5x35) rfl (by kernel_rfl) (by kernel_rfl) (by kernel_rfl) (by kernel_rfl) (fun _ _ _ h => h) (Or.inl ⟨by rfl, ?hyR7c5x35⟩) (by assumption) ?restR7c5x35
    case hyR7c5x35 => (intro w hSw; (try dsimp only at hSw); go_simp; try (with_reducible rfl))
    try simp only [Act.put, List.setIfInBounds_toArray, List.set_cons_zero, List.set_cons_succ]
    refine wpAnyT_takeB (i := 36) (oi := ⟨some 54, .indexAddr 28 (.tmp 49) (.tmp 53), _, _, _, _⟩) (v := ?vR7c5x36) rfl (by kernel_rfl) (by kernel_rfl) (by kernel_rfl) (by kernel_rfl) (fun _ _ _ h => h) (Or.inl ⟨by rfl, ?hyR7c5x36⟩) (by assumption) ?restR7c5x36
    case hyR7c5x36 => (intro w hSw; (try dsimp only at hSw); go_simp; try (with_reducible rfl))
    try simp only [Act.put, List.setIfInBounds_toArray, List.set_cons_zero, List.set_cons_succ]
    refine wpAnyT_takeB (i := 37) (oi := ⟨some 55, .load 3 (.tmp 54), _, _, _, _⟩) (v := ?vR7c5x37) rfl (by kernel_rfl) (by kernel_rfl) (by kernel_rfl) (by kernel_rfl) (fun _ _ _ h => h) (Or.inl ⟨by rfl, ?hyR7c5x37⟩) (by assumption) ?restR7c5x37
    case hyR7c5x37 => (intro w hSw; (try dsimp only at hSw); go_simp; try (with_reducible rfl))
    try simp only [Act.put, List.setIfInBounds_toArray, List.set_cons_zero, List.set_cons_succ]
    refine wpAnyT_takeB (i := 38) (oi := ⟨some 56, .move (.tmp 1), _, _, _, _⟩) (v := ?vR7c5x38) rfl (by kernel_rfl) (by kernel_rfl) (by kernel_rfl) (by kernel_rfl) (fun _ _ _ h => h) (Or.inl ⟨by rfl, ?hyR7c5x38⟩) (by assumption) ?restR7c5x38
    case hyR7c5x38 => (intro w hSw; (try dsimp only at hSw); go_simp; try (with_reducible rfl))
    try simp only [Act.put, List.setIfInBounds_toArray, List.set_cons_zero, List.set_cons_succ]
    refine wpAnyT_takeB (i := 39) (oi := ⟨some 57, .move (.tmp 0), _, _, _, _⟩) (v := ?vR7c5x39) rfl (by kernel_rfl) (by kernel_rfl) (by kernel_rfl) (by kernel_rfl) (fun _ _ _ h => h) (Or.inl ⟨by rfl, ?hyR7c5x39⟩) (by assumption) ?restR7c5x39
    case hyR7c5x39 => (intro w hSw; (try dsimp only at hSw); go_simp; try (with_reducible rfl))
    try simp only [Act.put, List.setIfInBounds_toArray, List.set_cons_zero, List.set_cons_succ]
    refine wpAnyT_takeB (i := 40) (oi := ⟨some 58, .move (.tmp 6), _, _, _, _⟩) (v := ?vR7c5x40) rfl (by kernel_rfl) (by kernel_rfl) (by kernel_rfl) (by kernel_rfl) (fun _ _ _ h => h) (Or.inl ⟨by rfl, ?hyR7c5x40⟩) (by assumption) ?restR7c5x40
    case hyR7c5x40 => (intro w hSw; (try dsimp only at hSw); go_simp; try (with_reducible rfl))
    try simp only [Act.put, List.setIfInBounds_toArray, List.set_cons_zero, List.set_cons_succ]
    refine wpAnyT_takeB (i := 41) (oi := ⟨some 59, .indexAddr 28 (.tmp 57) (.tmp 58), _, _, _, _⟩) (v := ?vR7c5x41) rfl (by kernel_rfl) (by kernel_rfl) (by kernel_rfl) (by kernel_rfl) (fun _ _ _ h => h) (Or.inl ⟨by rfl, ?hyR7c5x41⟩) (by assumption) ?restR7c5x41
    case hyR7c5x41 => (intro w hSw; (try dsimp only at hSw); go_simp; try (with_reducible rfl))
    try simp only [Act.put, List.setIfInBounds_toArray, List.set_cons_zero, List.set_cons_succ]
    refine wpAnyT_takeB (i := 42) (oi := ⟨some 60, .load 3 (.tmp 59), _, _, _, _⟩) (v := ?vR7c5x42) rfl (by kernel_rfl) (by kernel_rfl) (by kernel_rfl) (by kernel_rfl) (fun _ _ _ h => h) (Or.inl ⟨by rfl, ?hyR7c5x42⟩) (by assumption) ?restR7c5x42
    case hyR7c5x42 => (intro w hSw; (try dsimp only at hSw); go_simp; try (with_reducible rfl))
    try simp only [Act.put, List.setIfInBounds_toArray, List.set_cons_zero, List.set_cons_succ]
    refine wpAnyT_takeB (i := 43) (oi := ⟨some 61, .indexAddr 28 (.tmp 56) (.tmp 60), _, _, _, _⟩) (v := ?vR7c5x43) rfl (by kernel_rfl) (by kernel_rfl) (by kernel_rfl) (by kernel_rfl) (fun _ _ _ h => h) (Or.inl ⟨by rfl, ?hyR7c5x43⟩) (by assumption) ?restR7c5x43
    case hyR7c5x43 => (intro w hSw; (try dsimp only at hSw); go_simp; try (with_reducible rfl))
    try simp only [Act.put, List.setIfInBounds_toArray, List.set_cons_zero, List.set_cons_succ]
    refine wpAnyT_takeB (i := 44) (oi := ⟨some 62, .load 3 (.tmp 61), _, _, _, _⟩) (v := ?vR7c5x44) rfl (by kernel_rfl) (by kernel_rfl) (by kernel_rfl) (by kernel_rfl) (fun _ _ _ h => h) (Or.inl ⟨by rfl, ?hyR7c5x44⟩) (by assumption) ?restR7c5x44
    case hyR7c5x44 => (intro w hSw; (try dsimp only at hSw); go_simp; try (with_reducible rfl))
    try simp only [Act.put, List.setIfInBounds_toArray, List.set_cons_zero, List.set_cons_succ]
    refine wpAnyT_takeB (i := 45) (oi := ⟨some 63, .binOp .eql 3 (.tmp 55) (.tmp 62) 3, _, _, _, _⟩) (v := ?vR7c5x45) rfl (by kernel_rfl) (by kernel_rfl) (by kernel_rfl) (by kernel_rfl) (fun _ _ _ h => h) (Or.inl ⟨by rfl, ?hyR7c5x45⟩) (by assumption) ?restR7c5x45
    case hyR7c5x45 => (intro w hSw; (try dsimp only at hSw); go_simp; try (with_reducible rfl))
    try simp only [Act.put, List.setIfInBounds_toArray, List.set_cons_zero, List.set_cons_succ]
    refine wpAnyT_takeB (i := 46) (oi := ⟨some 64, .pick (.tmp 48) (.tmp 63) ((.const (.bool false))), _, _, _, _⟩) (v := ?vR7c5x46) rfl (by kernel_rfl) (by kernel_rfl) (by kernel_rfl) (by kernel_rfl) (fun _ _ _ h => h) (Or.inl ⟨by rfl, ?hyR7c5x46⟩) (by assumption) ?restR7c5x46
    case hyR7c5x46 => (intro w hSw; (try dsimp only at hSw); go_simp; try (with_reducible rfl))
    try simp only [Act.put, List.setIfInBounds_toArray, List.set_cons_zero, List.set_cons_succ]
    refine wpAnyT_done (by kernel_rfl) ?_ _
    go_wp2_with fail
    go_ret
    exact ⟨⟨false, rfl, ⟨(fun h => by cases h), fun h => absurd h (HYX.out HN.out)⟩⟩, HBy.out.trans ((Below.refl _ _).drew.mono HBy.out.size)⟩
  case neg =>
    have HN : Hid (clash vs (m : Int) (n : Int) = false) := by show _ = _; rw [HCl.out]; exact decide_eq_false huv
    go_upto_region 7 with fail
    refine wp_region_T (fun w' => (w'.cell? ⟨b, off + i, none⟩ = some (.int .i64 (m : Int)) ∧ w'.cell? ⟨b, off + k, none⟩ = some (.int .i64 (n : Int))) ∧ w'.cell? ⟨vb, vo + m, none⟩ = some (.int .i64 u) ∧ w'.cell? ⟨vb, vo + n, none⟩ = some (.int .i64 v)) (fun _ => True) [] (by kernel_rfl) ⟨HC3.out _ (Below.refl _ _).drew, trivial⟩ (fun hHeld => ?_)
    refine wpAnyT_takeB (i := 0) (oi := ⟨some 18, .move (.tmp 0), _, _, _, _⟩) (v := ?vR7c6x0) rfl (by kernel_rfl) (by kernel_rfl) (by kernel_rfl) (by kernel_rfl) (fun _ _ _ h => h) (Or.inl ⟨by rfl, ?hyR7c6x0⟩) (by assumption) ?restR7c6x0
    case hyR7c6x0 => (intro w hSw; (try dsimp only at hSw); go_simp; try (with_reducible rfl))
    try simp only [Act.put, List.setIfInBounds_toArray, List.set_cons_zero, List.set_cons_succ]
    refine wpAnyT_takeB (i := 1) (oi := ⟨some 19, .move (.tmp 5), _, _, _, _⟩) (v := ?vR7c6x1) rfl (by kernel_rfl) (by kernel_rfl) (by kernel_rfl) (by kernel_rfl) (fun _ _ _ h => h) (Or.inl ⟨by rfl, ?hyR7c6x1⟩) (by assumption) ?restR7c6x1
    case hyR7c6x1 => (intro w hSw; (try dsimp only at hSw); go_simp; try (with_reducible rfl))
    try simp only [Act.put, List.setIfInBounds_toArray, List.set_cons_zero, List.set_cons_succ]
    refine wpAnyT_takeB (i := 2) (oi := ⟨some 20, .indexAddr 28 (.tmp 18) (.tmp 19), _, _, _, _⟩) (v := ?vR7c6x2) rfl (by kernel_rfl) (by kernel_rfl) (by kernel_rfl) (by kernel_rfl) (fun _ _ _ h => h) (Or.inl ⟨by rfl, ?hyR7c6x2⟩) (by assumption) ?restR7c6x2
    case hyR7c6x2 => (intro w hSw; (try dsimp only at hSw); go_simp; try (with_reducible rfl))
    try simp only [Act.put, List.setIfInBounds_toArray, List.set_cons_zero, List.set_cons_succ]
    refine wpAnyT_takeB (i := 3) (oi := ⟨some 21, .load 3 (.tmp 20), _, _, _, _⟩) (v := ?vR7c6x3) rfl (by kernel_rfl) (by kernel_rfl) (by kernel_rfl) (by kernel_rfl) (fun _ _ _ h => h) (Or.inl ⟨by rfl, ?hyR7c6x3⟩) (by assumption) ?restR7c6x3
    case hyR7c6x3 => (intro w hSw; (try dsimp only at hSw); go_simp; try (with_reducible rfl))
    try simp only [Act.put, List.setIfInBounds_toArray, List.set_cons_zero, List.set_cons_succ]
    refine wpAnyT_takeB (i := 4) (oi := ⟨some 22, .binOp .geq 3 (.tmp 21) ((.const (.int .i64 0))) 3, _, _, _, _⟩) (v := ?vR7c6x4) rfl (by kernel_rfl) (by kernel_rfl) (by kernel_rfl) (by kernel_rfl) (fun _ _ _ h => h) (Or.inl ⟨by rfl, ?hyR7c6x4⟩) (by assumption) ?restR7c6x4
    case hyR7c6x4 => (intro w hSw; (try dsimp only at hSw); go_simp; try (with_reducible rfl))
    try simp only [Act.put, List.setIfInBounds_toArray, List.set_cons_zero, List.set_cons_succ]
    refine wpAnyT_takeB (i := 5) (oi := ⟨some 23, .move (.tmp 22), _, _, _, _⟩) (v := ?vR7c6x5) rfl (by kernel_rfl) (by kernel_rfl) (by kernel_rfl) (by kernel_rfl) (fun _ _ _ h => h) (Or.inl ⟨by rfl, ?hyR7c6x5⟩) (by assumption) ?restR7c6x5
    case hyR7c6x5 => (intro w hSw; (try dsimp only at hSw); go_simp; try (with_reducible rfl))
    try simp only [Act.put, List.setIfInBounds_toArray, List.set_cons_zero, List.set_cons_succ]
    refine wpAnyT_takeB (i := 6) (oi := ⟨some 24, .move (.tmp 0), _, _, _, _⟩) (v := ?vR7c6x6) rfl (by kernel_rfl) (by kernel_rfl) (by kernel_rfl) (by kernel_rfl) (fun _ _ _ h => h) (Or.inl ⟨by rfl, ?hyR7c6x6⟩) (by assumption) ?restR7c6x6
    case hyR7c6x6 => (intro w hSw; (try dsimp only at hSw); go_simp; try (with_reducible rfl))
    try simp only [Act.put, List.setIfInBounds_toArray, List.set_cons_zero, List.set_cons_succ]
    refine wpAnyT_takeB (i := 7) (oi := ⟨some 25, .move (.tmp 5), _, _, _, _⟩) (v := ?vR7c6x7) rfl (by kernel_rfl) (by kernel_rfl) (by kernel_rfl) (by kernel_rfl) (fun _ _ _ h => h) (Or.inl ⟨by rfl, ?hyR7c6x7⟩) (by assumption) ?restR7c6x7
    case hyR7c6x7 => (intro w hSw; (try dsimp only at hSw); go_simp; try (with_reducible rfl))
    try simp only [Act.put, List.setIfInBounds_toArray, List.set_cons_zero, List.set_cons_succ]
    refine wpAnyT_takeB (i := 8) (oi := ⟨some 26, .indexAddr 28 (.tmp 24) (.tmp 25), _, _, _, _⟩) (v := ?vR7c6x8) rfl (by kernel_rfl) (by kernel_rfl) (by kernel_rfl) (by kernel_rfl) (fun _ _ _ h => h) (Or.inl ⟨by rfl, ?hyR7c6x8⟩) (by assumption) ?restR7c6x8
    case hyR7c6x8 => (intro w hSw; (try dsimp only at hSw); go_simp; try (with_reducible rfl))
    try simp only [Act.put, List.setIfInBounds_toArray, List.set_cons_zero, List.set_cons_succ]
    refine wpAnyT_takeB (i := 9) (oi := ⟨some 27, .load 3 (.tmp 26), _, _, _, _⟩) (v := ?vR7c6x9) rfl (by kernel_rfl) (by kernel_rfl) (by kernel_rfl) (by kernel_rfl) (fun _ _ _ h => h) (Or.inl ⟨by rfl, ?hyR7c6x9⟩) (by assumption) ?restR7c6x9
    case hyR7c6x9 => (intro w hSw; (try dsimp only at hSw); go_simp; try (with_reducible rfl))
    try simp only [Act.put, List.setIfInBounds_toArray, List.set_cons_zero, List.set_cons_succ]
    refine wpAnyT_takeB (i := 10) (oi := ⟨some 28, .move (.tmp 1), _, _, _, _⟩) (v := ?vR7c6x10) rfl (by kernel_rfl) (by kernel_rfl) (by kernel_rfl) (by kernel_rfl) (fun _ _ _ h => h) (Or.inl ⟨by rfl, ?hyR7c6x10⟩) (by assumption) ?restR7c6x10
    case hyR7c6x10 => (intro w hSw; (try dsimp only at hSw); go_simp; try (with_reducible rfl))
    try simp only [Act.put, List.setIfInBounds_toArray, List.set_cons_zero, List.set_cons_succ]
    refine wpAnyT_takeB (i := 11) (oi := ⟨some 29, .call { callee := .builtin .len, args := #[(.tmp 28)], argTypes := #[28] }, _, _, _, _⟩) (v := ?vR7c6x11) rfl (by kernel_rfl) (by kernel_rfl) (by kernel_rfl) (by kernel_rfl) (fun _ _ _ h => h) (Or.inl ⟨by rfl, ?hyR7c6x11⟩) (by assumption) ?restR7c6x11
    case hyR7c6x11 => (intro w hSw; (try dsimp only at hSw); go_simp; try (with_reducible rfl))
    try simp only [Act.put, List.setIfInBounds_toArray, List.set_cons_zero, List.set_cons_succ]
    refine wpAnyT_takeB (i := 12) (oi := ⟨some 30, .binOp .lss 3 (.tmp 27) (.tmp 29) 3, _, _, _, _⟩) (v := ?vR7c6x12) rfl (by kernel_rfl) (by kernel_rfl) (by kernel_rfl) (by kernel_rfl) (fun _ _ _ h => h) (Or.inl ⟨by rfl, ?hyR7c6x12⟩) (by assumption) ?restR7c6x12
    case hyR7c6x12 => (intro w hSw; (try dsimp only at hSw); go_simp; try (with_reducible rfl))
    try simp only [Act.put, List.setIfInBounds_toArray, List.set_cons_zero, List.set_cons_succ]
    refine wpAnyT_takeB (i := 13) (oi := ⟨some 31, .pick (.tmp 23) (.tmp 30) ((.const (.bool false))), _, _, _, _⟩) (v := ?vR7c6x13) rfl (by kernel_rfl) (by kernel_rfl) (by kernel_rfl) (by kernel_rfl) (fun _ _ _ h => h) (Or.inl ⟨by rfl, ?hyR7c6x13⟩) (by assumption) ?restR7c6x13
    case hyR7c6x13 => (intro w hSw; (try dsimp only at hSw); go_simp; try (with_reducible rfl))
    try simp only [Act.put, List.setIfInBounds_toArray, List.set_cons_zero, List.set_cons_succ]
    refine wpAnyT_takeB (i := 14) (oi := ⟨some 32, .move (.tmp 31), _, _, _, _⟩) (v := ?vR7c6x14) rfl (by kernel_rfl) (by kernel_rfl) (by kernel_rfl) (by kernel_rfl) (fun _ _ _ h => h) (Or.inl ⟨by rfl, ?hyR7c6x14⟩) (by assumption) ?restR7c6x14
    case hyR7c6x14 => (intro w hSw; (try dsimp only at hSw); go_simp; try (with_reducible rfl))
    try simp only [Act.put, List.setIfInBounds_toArray, List.set_cons_zero, List.set_cons_succ]
    refine wpAnyT_takeB (i := 15) (oi := ⟨some 33, .move (.tmp 0), _, _, _, _⟩) (v := ?vR7c6x15) rfl (by kernel_rfl) (by kernel_rfl) (by kernel_rfl) (by kernel_rfl) (fun _ _ _ h => h) (Or.inl ⟨by rfl, ?hyR7c6x15⟩) (by assumption) ?restR7c6x15
    case hyR7c6x15 => (intro w hSw; (try dsimp only at hSw); go_simp; try (with_reducible rfl))
    try simp only [Act.put, List.setIfInBounds_toArray, List.set_cons_zero, List.set_cons_succ]
    refine wpAnyT_takeB (i := 16) (oi := ⟨some 34, .move (.tmp 6), _, _, _, _⟩) (v := ?vR7c6x16) rfl (by kernel_rfl) (by kernel_rfl) (by kernel_rfl) (by kernel_rfl) (fun _ _ _ h => h) (Or.inl ⟨by rfl, ?hyR7c6x16⟩) (by assumption) ?restR7c6x16
    case hyR7c6x16 => (intro w hSw; (try dsimp only at hSw); go_simp; try (with_reducible rfl))
    try simp only [Act.put, List.setIfInBounds_toArray, List.set_cons_zero, List.set_cons_succ]
    refine wpAnyT_takeB (i := 17) (oi := ⟨some 35, .indexAddr 28 (.tmp 33) (.tmp 34), _, _, _, _⟩) (v := ?vR7c6x17) rfl (by kernel_rfl) (by kernel_rfl) (by kernel_rfl) (by kernel_rfl) (fun _ _ _ h => h) (Or.inl ⟨by rfl, ?hyR7c6x17⟩) (by assumption) ?restR7c6x17
    case hyR7c6x17 => (intro w hSw; (try dsimp only at hSw); go_simp; try (with_reducible rfl))
    try simp only [Act.put, List.setIfInBounds_toArray, List.set_cons_zero, List.set_cons_succ]
    refine wpAnyT_takeB (i := 18) (oi := ⟨some 36, .load 3 (.tmp 35), _, _, _, _⟩) (v := ?vR7c6x18) rfl (by kernel_rfl) (by kernel_rfl) (by kernel_rfl) (by kernel_rfl) (fun _ _ _ h => h) (Or.inl ⟨by rfl, ?hyR7c6x18⟩) (by assumption) ?restR7c6x18
    case hyR7c6x18 => (intro w hSw; (try dsimp only at hSw); go_simp; try (with_reducible rfl))
    try simp only [Act.put, List.setIfInBounds_toArray, List.set_cons_zero, List.set_cons_succ]
    refine wpAnyT_takeB (i := 19) (oi := ⟨some 37, .binOp .geq 3 (.tmp 36) ((.const (.int .i64 0))) 3, _, _, _, _⟩) (v := ?vR7c6x19) rfl (by kernel_rfl) (by kernel_rfl) (by kernel_rfl) (by kernel_rfl) (fun _ _ _ h => h) (Or.inl ⟨by rfl, ?hyR7c6x19⟩) (by assumption) ?restR7c6x19
    case hyR7c6x19 => (intro w hSw; (try dsimp only at hSw); go_simp; try (with_reducible rfl))
    try simp only [Act.put, List.setIfInBounds_toArray, List.set_cons_zero, List.set_cons_succ]
    refine wpAnyT_takeB (i := 20) (oi := ⟨some 38, .pick (.tmp 32) (.tmp 37) ((.const (.bool false))), _, _, _, _⟩) (v := ?vR7c6x20) rfl (by kernel_rfl) (by kernel_rfl) (by kernel_rfl) (by kernel_rfl) (fun _ _ _ h => h) (Or.inl ⟨by rfl, ?hyR7c6x20⟩) (by assumption) ?restR7c6x20
    case hyR7c6x20 => (intro w hSw; (try dsimp only at hSw); go_simp; try (with_reducible rfl))
    try simp only [Act.put, List.setIfInBounds_toArray, List.set_cons_zero, List.set_cons_succ]
    refine wpAnyT_takeB (i := 21) (oi := ⟨some 39, .move (.tmp 38), _, _, _, _⟩) (v := ?vR7c6x21) rfl (by kernel_rfl) (by kernel_rfl) (by kernel_rfl) (by kernel_rfl) (fun _ _ _ h => h) (Or.inl ⟨by rfl, ?hyR7c6x21⟩) (by assumption) ?restR7c6x21
    case hyR7c6x21 => (intro w hSw; (try dsimp only at hSw); go_simp; try (with_reducible rfl))
    try simp only [Act.put, List.setIfInBounds_toArray, List.set_cons_zero, List.set_cons_succ]
    refine wpAnyT_takeB (i := 22) (oi := ⟨some 40, .move (.tmp 0), _, _, _, _⟩) (v := ?vR7c6x22) rfl (by kernel_rfl) (by kernel_rfl) (by kernel_rfl) (by kernel_rfl) (fun _ _ _ h => h) (Or.inl ⟨by rfl, ?hyR7c6x22⟩) (by assumption) ?restR7c6x22
    case hyR7c6x22 => (intro w hSw; (try dsimp only at hSw); go_simp; try (with_reducible rfl))
    try simp only [Act.put, List.setIfInBounds_toArray, List.set_cons_zero, List.set_cons_succ]
    refine wpAnyT_takeB (i := 23) (oi := ⟨some 41, .move (.tmp 6), _, _, _, _⟩) (v := ?vR7c6x23) rfl (by kernel_rfl) (by kernel_rfl) (by kernel_rfl) (by kernel_rfl) (fun _ _ _ h => h) (Or.inl ⟨by rfl, ?hyR7c6x23⟩) (by assumption) ?restR7c6x23
    case hyR7c6x23 => (intro w hSw; (try dsimp only at hSw); go_simp; try (with_reducible rfl))
    try simp only [Act.put, List.setIfInBounds_toArray, List.set_cons_zero, List.set_cons_succ]
    refine wpAnyT_takeB (i := 24) (oi := ⟨some 42, .indexAddr 28 (.tmp 40) (.tmp 41), _, _, _, _⟩) (v := ?vR7c6x24) rfl (by kernel_rfl) (by kernel_rfl) (by kernel_rfl) (by kernel_rfl) (fun _ _ _ h => h) (Or.inl ⟨by rfl, ?hyR7c6x24⟩) (by assumption) ?restR7c6x24
    case hyR7c6x24 => (intro w hSw; (try dsimp only at hSw); go_simp; try (with_reducible rfl))
    try simp only [Act.put, List.setIfInBounds_toArray, List.set_cons_zero, List.set_cons_succ]
    refine wpAnyT_takeB (i := 25) (oi := ⟨some 43, .load 3 (.tmp 42), _, _, _, _⟩) (v := ?vR7c6x25) rfl (by kernel_rfl) (by kernel_rfl) (by kernel_rfl) (by kernel_rfl) (fun _ _ _ h => h) (Or.inl ⟨by rfl, ?hyR7c6x25⟩) (by assumption) ?restR7c6x25
    case hyR7c6x25 => (intro w hSw; (try dsimp only at hSw); go_simp; try (with_reducible rfl))
    try simp only [Act.put, List.setIfInBounds_toArray, List.set_cons_zero, List.set_cons_succ]
    refine wpAnyT_takeB (i := 26) (oi := ⟨some 44, .move (.tmp 1), _, _, _, _⟩) (v := ?vR7c6x26) rfl (by kernel_rfl) (by kernel_rfl) (by kernel_rfl) (by kernel_rfl) (fun _ _ _ h => h) (Or.inl ⟨by rfl, ?hyR7c6x26⟩) (by assumption) ?restR7c6x26
    case hyR7c6x26 => (intro w hSw; (try dsimp only at hSw); go_simp; try (with_reducible rfl))
    try simp only [Act.put, List.setIfInBounds_toArray, List.set_cons_zero, List.set_cons_succ]
    refine wpAnyT_takeB (i := 27) (oi := ⟨some 45, .call { callee := .builtin .len, args := #[(.tmp 44)], argTypes := #[28] }, _, _, _, _⟩) (v := ?vR7c6x27) rfl (by kernel_rfl) (by kernel_rfl) (by kernel_rfl) (by kernel_rfl) (fun _ _ _ h => h) (Or.inl ⟨by rfl, ?hyR7c6x27⟩) (by assumption) ?restR7c6x27
    case hyR7c6x27 => (intro w hSw; (try dsimp only at hSw); go_simp; try (with_reducible rfl))
    try simp only [Act.put, List.setIfInBounds_toArray, List.set_cons_zero, List.set_cons_succ]
    refine wpAnyT_takeB (i := 28) (oi := ⟨some 46, .binOp .lss 3 (.tmp 43) (.tmp 45) 3, _, _, _, _⟩) (v := ?vR7c6x28) rfl (by kernel_rfl) (by kernel_rfl) (by kernel_rfl) (by kernel_rfl) (fun _ _ _ h => h) (Or.inl ⟨by rfl, ?hyR7c6x28⟩) (by assumption) ?restR7c6x28
    case hyR7c6x28 => (intro w hSw; (try dsimp only at hSw); go_simp; try (with_reducible rfl))
    try simp only [Act.put, List.setIfInBounds_toArray, List.set_cons_zero, List.set_cons_succ]
    refine wpAnyT_takeB (i := 29) (oi := ⟨some 47, .pick (.tmp 39) (.tmp 46) ((.const (.bool false))), _, _, _, _⟩) (v := ?vR7c6x29) rfl (by kernel_rfl) (by kernel_rfl) (by kernel_rfl) (by kernel_rfl) (fun _ _ _ h => h) (Or.inl ⟨by rfl, ?hyR7c6x29⟩) (by assumption) ?restR7c6x29
    case hyR7c6x29 => (intro w hSw; (try dsimp only at hSw); go_simp; try (with_reducible rfl))
    try simp only [Act.put, List.setIfInBounds_toArray, List.set_cons_zero, List.set_cons_succ]
    refine wpAnyT_takeB (i := 30) (oi := ⟨some 48, .move (.tmp 47), _, _, _, _⟩) (v := ?vR7c6x30) rfl (by kernel_rfl) (by kernel_rfl) (by kernel_rfl) (by kernel_rfl) (fun _ _ _ h => h) (Or.inl ⟨by rfl, ?hyR7c6x30⟩) (by assumption) ?restR7c6x30
    case hyR7c6x30 => (intro w hSw; (try dsimp only at hSw); go_simp; try (with_reducible rfl))
    try simp only [Act.put, List.setIfInBounds_toArray, List.set_cons_zero, List.set_cons_succ]
    refine wpAnyT_takeB (i := 31) (oi := ⟨some 49, .move (.tmp 1), _, _, _, _⟩) (v := ?vR7c6x31) rfl (by kernel_rfl) (by kernel_rfl) (by kernel_rfl) (by kernel_rfl) (fun _ _ _ h => h) (Or.inl ⟨by rfl, ?hyR7c6x31⟩) (by assumption) ?restR7c6x31
    case hyR7c6x31 => (intro w hSw; (try dsimp only at hSw); go_simp; try (with_reducible rfl))
    try simp only [Act.put, List.setIfInBounds_toArray, List.set_cons_zero, List.set_cons_succ]
    refine wpAnyT_takeB (i := 32) (oi := ⟨some 50, .move (.tmp 0), _, _, _, _⟩) (v := ?vR7c6x32) rfl (by kernel_rfl) (by kernel_rfl) (by kernel_rfl) (by kernel_rfl) (fun _ _ _ h => h) (Or.inl ⟨by rfl, ?hyR7c6x32⟩) (by assumption) ?restR7c6x32
    case hyR7c6x32 => (intro w hSw; (try dsimp only at hSw); go_simp; try (with_reducible rfl))
    try simp only [Act.put, List.setIfInBounds_toArray, List.set_cons_zero, List.set_cons_succ]
    refine wpAnyT_takeB (i := 33) (oi := ⟨some 51, .move (.tmp 5), _, _, _, _⟩) (v := ?vR7c6x33) rfl (by kernel_rfl) (by kernel_rfl) (by kernel_rfl) (by kernel_rfl) (fun _ _ _ h => h) (Or.inl ⟨by rfl, ?hyR7c6x33⟩) (by assumption) ?restR7c6x33
    case hyR7c6x33 => (intro w hSw; (try dsimp only at hSw); go_simp; try (with_reducible rfl))
    try simp only [Act.put, List.setIfInBounds_toArray, List.set_cons_zero, List.set_cons_succ]
    refine wpAnyT_takeB (i := 34) (oi := ⟨some 52, .indexAddr 28 (.tmp 50) (.tmp 51), _, _, _, _⟩) (v := ?vR7c6x34) rfl (by kernel_rfl) (by kernel_rfl) (by kernel_rfl) (by kernel_rfl) (fun _ _ _ h => h) (Or.inl ⟨by rfl, ?hyR7c6x34⟩) (by assumption) ?restR7c6x34
    case hyR7c6x34 => (intro w hSw; (try dsimp only at hSw); go_simp; try (with_reducible rfl))
    try simp only [Act.put, List.setIfInBounds_toArray, List.set_cons_zero, List.set_cons_succ]
    refine wpAnyT_takeB (i := 35) (oi := ⟨some 53, .load 3 (.tmp 52), _, _, _, _⟩) (v := ?vR7c6x35) rfl (by kernel_rfl) (by kernel_rfl) (by kernel_rfl) (by kernel_rfl) (fun _ _ _ h => h) (Or.inl ⟨by rfl, ?hyR7c6x35⟩) (by assumption) ?restR7c6x35
    case hyR7c6x35 => (intro w hSw; (try dsimp only at hSw); go_simp; try (with_reducible rfl))
    try simp only [Act.put, List.setIfInBounds_toArray, List.set_cons_zero, List.set_cons_succ]
    refine wpAnyT_takeB (i := 36) (oi := ⟨some 54, .indexAddr 28 (.tmp 49) (.tmp 53), _, _, _, _⟩) (v := ?vR7c6x36) rfl (by kernel_rfl) (by kernel_rfl) (by kernel_rfl) (by kernel_rfl) (fun _ _ _ h => h) (Or.inl ⟨by rfl, ?hyR7c6x36⟩) (by assumption) ?restR7c6x36
    case hyR7c6x36 => (intro w hSw; (try dsimp only at hSw); go_simp; try (with_reducible rfl))
    try simp only [Act.put, List.setIfInBounds_toArray, List.set_cons_zero, List.set_cons_succ]
    refine wpAnyT_takeB (i := 37) (oi := ⟨some 55, .load 3 (.tmp 54), _, _, _, _⟩) (v := ?vR7c6x37) rfl (by kernel_rfl) (by kernel_rfl) (by kernel_rfl) (by kernel_rfl) (fun _ _ _ h => h) (Or.inl ⟨by rfl, ?hyR7c6x37⟩) (by assumption) ?restR7c6x37
    case hyR7c6x37 => (intro w hSw; (try dsimp only at hSw); go_simp; try (with_reducible rfl))
    try simp only [Act.put, List.setIfInBounds_toArray, List.set_cons_zero, List.set_cons_succ]
    refine wpAnyT_takeB (i := 38) (oi := ⟨some 56, .move (.tmp 1), _, _, _, _⟩) (v := ?vR7c6x38) rfl (by kernel_rfl) (by kernel_rfl) (by kernel_rfl) (by kernel_rfl) (fun _ _ _ h => h) (Or.inl ⟨by rfl, ?hyR7c6x38⟩) (by assumption) ?restR7c6x38
    case hyR7c6x38 => (intro w hSw; (try dsimp only at hSw); go_simp; try (with_reducible rfl))
    try simp only [Act.put, List.setIfInBounds_toArray, List.set_cons_zero, List.set_cons_succ]
    refine wpAnyT_takeB (i := 39) (oi := ⟨some 57, .move (.tmp 0), _, _, _, _⟩) (v := ?vR7c6x39) rfl (by kernel_rfl) (by kernel_rfl) (by kernel_rfl) (by kernel_rfl) (fun _ _ _ h => h) (Or.inl ⟨by rfl, ?hyR7c6x39⟩) (by assumption) ?restR7c6x39
    case hyR7c6x39 => (intro w hSw; (try dsimp only at hSw); go_simp; try (with_reducible rfl))
    try simp only [Act.put, List.setIfInBounds_toArray, List.set_cons_zero, List.set_cons_succ]
    refine wpAnyT_takeB (i := 40) (oi := ⟨some 58, .move (.tmp 6), _, _, _, _⟩) (v := ?vR7c6x40) rfl (by kernel_rfl) (by kernel_rfl) (by kernel_rfl) (by kernel_rfl) (fun _ _ _ h => h) (Or.inl ⟨by rfl, ?hyR7c6x40⟩) (by assumption) ?restR7c6x40
    case hyR7c6x40 => (intro w hSw; (try dsimp only at hSw); go_simp; try (with_reducible rfl))
    try simp only [Act.put, List.setIfInBounds_toArray, List.set_cons_zero, List.set_cons_succ]
    refine wpAnyT_takeB (i := 41) (oi := ⟨some 59, .indexAddr 28 (.tmp 57) (.tmp 58), _, _, _, _⟩) (v := ?vR7c6x41) rfl (by kernel_rfl) (by kernel_rfl) (by kernel_rfl) (by kernel_rfl) (fun _ _ _ h => h) (Or.inl ⟨by rfl, ?hyR7c6x41⟩) (by assumption) ?restR7c6x41
    case hyR7c6x41 => (intro w hSw; (try dsimp only at hSw); go_simp; try (with_reducible rfl))
    try simp only [Act.put, List.setIfInBounds_toArray, List.set_cons_zero, List.set_cons_succ]
    refine wpAnyT_takeB (i := 42) (oi := ⟨some 60, .load 3 (.tmp 59), _, _, _, _⟩) (v := ?vR7c6x42) rfl (by kernel_rfl) (by kernel_rfl) (by kernel_rfl) (by kernel_rfl) (fun _ _ _ h => h) (Or.inl ⟨by rfl, ?hyR7c6x42⟩) (by assumption) ?restR7c6x42
    case hyR7c6x42 => (intro w hSw; (try dsimp only at hSw); go_simp; try (with_reducible rfl))
    try simp only [Act.put, List.setIfInBounds_toArray, List.set_cons_zero, List.set_cons_succ]
    refine wpAnyT_takeB (i := 43) (oi := ⟨some 61, .indexAddr 28 (.tmp 56) (.tmp 60), _, _, _, _⟩) (v := ?vR7c6x43) rfl (by kernel_rfl) (by kernel_rfl) (by kernel_rfl) (by kernel_rfl) (fun _ _ _ h => h) (Or.inl ⟨by rfl, ?hyR7c6x43⟩) (by assumption) ?restR7c6x43
    case hyR7c6x43 => (intro w hSw; (try dsimp only at hSw); go_simp; try (with_reducible rfl))
    try simp only [Act.put, List.setIfInBounds_toArray, List.set_cons_zero, List.set_cons_succ]
    refine wpAnyT_takeB (i := 44) (oi := ⟨some 62, .load 3 (.tmp 61), _, _, _, _⟩) (v := ?vR7c6x44) rfl (by kernel_rfl) (by kernel_rfl) (by kernel_rfl) (by kernel_rfl) (fun _ _ _ h => h) (Or.inl ⟨by rfl, ?hyR7c6x44⟩) (by assumption) ?restR7c6x44
    case hyR7c6x44 => (intro w hSw; (try dsimp only at hSw); go_simp; try (with_reducible rfl))
    try simp only [Act.put, List.setIfInBounds_toArray, List.set_cons_zero, List.set_cons_succ]
    refine wpAnyT_takeB (i := 45) (oi := ⟨some 63, .binOp .eql 3 (.tmp 55) (.tmp 62) 3, _, _, _, _⟩) (v := ?vR7c6x45) rfl (by kernel_rfl) (by kernel_rfl) (by kernel_rfl) (by kernel_rfl) (fun _ _ _ h => h) (Or.inl ⟨by rfl, ?hyR7c6x45⟩) (by assumption) ?restR7c6x45
    case hyR7c6x45 => (intro w hSw; (try dsimp only at hSw); go_simp; try (with_reducible rfl))
    try simp only [Act.put, List.setIfInBounds_toArray, List.set_cons_zero, List.set_cons_succ]
    refine wpAnyT_takeB (i := 46) (oi := ⟨some 64, .pick (.tmp 48) (.tmp 63) ((.const (.bool false))), _, _, _, _⟩) (v := ?vR7c6x46) rfl (by kernel_rfl) (by kernel_rfl) (by kernel_rfl) (by kernel_rfl) (fun _ _ _ h => h) (Or.inl ⟨by rfl, ?hyR7c6x46⟩) (by assumption) ?restR7c6x46
    case hyR7c6x46 => (intro w hSw; (try dsimp only at hSw); go_simp; try (with_reducible rfl))
    try simp only [Act.put, List.setIfInBounds_toArray, List.set_cons_zero, List.set_cons_succ]
    refine wpAnyT_done (by kernel_rfl) ?_ _
    go_wp2_with fail
    go_roundw
    case rel => exact ⟨k + 1, by go_num, hkn, (below_succ HA2.out (HXY.out HN.out)), HBy.out.trans ((Below.refl _ _).drew.mono HBy.out.size)⟩
    case measure => simp [intOf]; omega
end Go.Proofs.YtemnbcilmbojhaaGreatDoor

namespace Go.Proofs.YtemnbcilmbojhaaGreatDoor

theorem pigeon : ∀ (n : Nat) (a : Int) (l : List Int), l.Nodup → (∀ v ∈ l, a ≤ v ∧ v < a + (n : Int)) → l.length ≤ n
  | 0, a, l, _, h => by
    cases l with
    | nil => exact Nat.le_refl _
    | cons v l =>
      have := h v List.mem_cons_self
      omega
  | n + 1, a, l, hd, h => by
    have h1 := pigeon n a (l.filter fun v => decide (v ≠ a + (n : Int))) (hd.filter _) (fun v hv => by
      obtain ⟨hm, hn⟩ := List.mem_filter.1 hv
      have := h v hm
      have := of_decide_eq_true hn
      omega)
    have h2 : l.length ≤ (l.filter fun v => decide (v ≠ a + (n : Int))).length + 1 := by
      clear h1 h
      induction l with
      | nil => simp
      | cons v l ih =>
        obtain ⟨hv, hd2⟩ := List.nodup_cons.1 hd
        have ih := ih hd2
        by_cases e : v = a + (n : Int)
        · have : (l.filter fun v => decide (v ≠ a + (n : Int))) = l := by
            rw [List.filter_eq_self]
            intro u hu
            simp
            intro e2
            exact hv (by rw [e, ← e2]; exact hu)
          rw [List.filter_cons, if_neg (by simp [e]), this, List.length_cons]
          exact Nat.le_refl _
        · rw [List.filter_cons, if_pos (by simp [e]), List.length_cons, List.length_cons]
          omega
    omega
/-- The value at a place. -/
def valAt (vs : List Int) (y : Int) : Int := vs.getD y.toNat 0
theorem dif_pair {xs vs : List Int} (h : Dif xs vs) : (plP vs.length xs).Pairwise fun x y => valAt vs x ≠ valAt vs y := by
  have h1 : xs.Pairwise fun x y => isP vs.length x = true → isP vs.length y = true → valAt vs x ≠ valAt vs y := by
    rw [List.pairwise_iff_getElem]
    intro i j hi hj hij hx hy he
    have hc := h j i hj hij
    have e1 : xs.getD j 0 = xs[j] := by rw [List.getD_eq_getElem?_getD, List.getElem?_eq_getElem hj]; rfl
    have e2 : xs.getD i 0 = xs[i] := by rw [List.getD_eq_getElem?_getD, List.getElem?_eq_getElem hi]; rfl
    rw [e1, e2] at hc
    unfold isP at hx hy
    unfold clash at hc
    unfold valAt at he
    simp at hx hy hc
    exact hc hy.1 hy.2 hx.1 hx.2 he.symm
  have h2 : (plP vs.length xs).Pairwise fun x y => isP vs.length x = true → isP vs.length y = true → valAt vs x ≠ valAt vs y := h1.filter _
  have h3 : ∀ x ∈ plP vs.length xs, isP vs.length x = true := fun x hx => (List.mem_filter.1 hx).2
  exact List.Pairwise.imp_of_mem (fun {x y} hx hy hr => hr (h3 x hx) (h3 y hy)) h2
theorem not_dif {xs vs : List Int} (h : ¬ Dif xs vs) : ∃ v, 2 ≤ (plP vs.length xs).countP fun y => decide (valAt vs y = v) := by
  have : ∃ i k, i < xs.length ∧ k < i ∧ clash vs (xs.getD i 0) (xs.getD k 0) = true := by
    apply Classical.byContradiction
    intro hc
    apply h
    intro i k hi hk
    cases hcl : clash vs (xs.getD i 0) (xs.getD k 0) with
    | false => rfl
    | true => exact absurd ⟨i, k, hi, hk, hcl⟩ hc
  obtain ⟨i, k, hi, hk, hc⟩ := this
  have hk2 : k < xs.length := by omega
  have e1 : xs.getD i 0 = xs[i] := by rw [List.getD_eq_getElem?_getD, List.getElem?_eq_getElem hi]; rfl
  have e2 : xs.getD k 0 = xs[k] := by rw [List.getD_eq_getElem?_getD, List.getElem?_eq_getElem hk2]; rfl
  rw [e1, e2] at hc
  unfold clash at hc
  simp at hc
  obtain ⟨c1, c2, c3, c4, c5⟩ := hc
  refine ⟨valAt vs xs[i], ?_⟩
  unfold plP
  rw [List.countP_filter]
  have hsp : xs = xs.take i ++ xs[i] :: xs.drop (i + 1) := by
    rw [← List.drop_eq_getElem_cons hi, List.take_append_drop]
  have hq : ∀ y, (decide (valAt vs y = valAt vs xs[i]) && isP vs.length y) = true ↔ (valAt vs y = valAt vs xs[i] ∧ 0 ≤ y ∧ y < (vs.length : Int)) := fun y => by
    unfold isP
    simp
  have hq1 : (decide (valAt vs xs[i] = valAt vs xs[i]) && isP vs.length xs[i]) = true := (hq _).2 ⟨rfl, c1, c2⟩
  have hpos : 0 < (xs.take i).countP fun y => decide (valAt vs y = valAt vs xs[i]) && isP vs.length y := by
    rw [List.countP_pos_iff]
    refine ⟨xs[k], ?_, (hq _).2 ⟨c5.symm, c3, c4⟩⟩
    rw [List.mem_take_iff_getElem]
    exact ⟨k, by omega, rfl⟩
  have hge : xs.countP (fun y => decide (valAt vs y = valAt vs xs[i]) && isP vs.length y) = (xs.take i).countP (fun y => decide (valAt vs y = valAt vs xs[i]) && isP vs.length y) + (xs[i] :: xs.drop (i + 1)).countP (fun y => decide (valAt vs y = valAt vs xs[i]) && isP vs.length y) := by
    rw [← List.countP_append, ← hsp]
  rw [hge, List.countP_cons, if_pos hq1]
  omega
/-- Values that are all different at the places: nothing is overfull. -/
theorem no_over {D : List Dm} {xs vs : List Int} (hF : Fines D) (hl : Lies D vs) (hd : Dif xs vs) (a t : Int) : ¬ OF D (plP D.length xs) a t := by
  rintro ⟨h1, h2⟩
  have hlen : vs.length = D.length := hl.len
  have hp := dif_pair hd
  rw [hlen] at hp
  have hn : (((plP D.length xs).filter (inW D a t)).map (valAt vs)).Nodup := by
    unfold List.Nodup
    rw [List.pairwise_map]
    exact hp.filter _
  have hin : ∀ v ∈ ((plP D.length xs).filter (inW D a t)).map (valAt vs), a ≤ v ∧ v ≤ t := fun v hv => by
    obtain ⟨y, hy, rfl⟩ := List.mem_map.1 hv
    obtain ⟨hy1, hy2⟩ := List.mem_filter.1 hy
    have h0 := plP_in hy1
    have hx : y.toNat < D.length := by omega
    obtain ⟨v, hv1, hv2⟩ := hl.get y.toNat _ (dmAt_get hx)
    have e : valAt vs y = v := by
      unfold valAt
      rw [List.getD_eq_getElem?_getD, hv1]
      rfl
    have hf := dmAt_fine hF hx
    have := hf.least v hv2
    have := hf.most v hv2
    have := inW_iff.1 hy2
    rw [e]
    omega
  have hlc : (((plP D.length xs).filter (inW D a t)).map (valAt vs)).length = wc D (plP D.length xs) a t := by
    rw [List.length_map]
    unfold wc
    rw [List.countP_eq_length_filter]
  obtain ⟨y, hy, hyi⟩ := wc_pos h1
  have hat := hin (valAt vs y) (List.mem_map.2 ⟨y, List.mem_filter.2 ⟨hy, hyi⟩, rfl⟩)
  have := pigeon (t - a + 1).toNat a _ hn (fun v hv => by have := hin v hv; omega)
  omega
/-- P13.5, at a store with one value each. -/
theorem ends_two {D : List Dm} {xs vs : List Int} {l : List Cz} {ok : Bool} (hF : Fines D) (hl : Lies D vs) (ho : Ones D) (hD : D.length ≤ 32) (h : CtR D xs l ok) : (ok = true ↔ Dif xs vs) ∧ l = [] := by
  obtain ⟨Gs, hp, hs, h⟩ := h
  have hlen : vs.length = D.length := hl.len
  have hone : ∀ x, x < D.length → (dmAt D x).lo = (dmAt D x).hi ∧ vs.getD x 0 = (dmAt D x).lo := fun x hx => by
    have hf := dmAt_fine hF hx
    have e := hf.one.1 (ho x _ (dmAt_get hx))
    obtain ⟨v, hv1, hv2⟩ := hl.get x _ (dmAt_get hx)
    refine ⟨e, ?_⟩
    rw [List.getD_eq_getElem?_getD, hv1]
    have := hf.least v hv2
    have := hf.most v hv2
    show v = _
    omega
  by_cases hd : Dif xs vs
  · have n0 : (crL Gs (hcG D xs)).any ov = false := by
      rw [Bool.eq_false_iff]
      intro hc
      obtain ⟨a, t, ho⟩ := (over_iff hD hp hs).1 hc
      exact no_over hF hl hd a t ho
    have h1 : l = hcZ D xs (crL Gs (hcG D xs)) ∧ ok = true := by
      refine h.elim (fun h1 => ?_) (fun h1 => h1.2)
      have h2 := h1.1
      rw [n0] at h2
      exact absurd h2 (by decide)
    refine ⟨⟨fun _ => hd, fun _ => h1.2⟩, ?_⟩
    rw [h1.1, List.eq_nil_iff_forall_not_mem]
    intro z hz
    unfold hcZ at hz
    rw [List.mem_flatMap] at hz
    obtain ⟨g, hg, hz⟩ := hz
    unfold czL at hz
    rw [List.mem_flatMap] at hz
    obtain ⟨v, hva, hz⟩ := hz
    obtain ⟨m1, m2, m3, m4, m5, m6⟩ := hcG_mem hg
    have hf := dmAt_fine hF m2
    have hvh := (hf.all v).1 hva
    have l1 := hf.least v hvh
    have l2 := hf.most v hvh
    obtain ⟨_, _, i, hi, hif, hlo, hhi, _⟩ := cz1_mem (by rw [m3]; exact l1) hz
    obtain ⟨a, t, hie, _, _⟩ := crowd_is hD hp hs hi
    rw [hie, ivO_f hD (cntP_pos m6)] at hif
    have hlo2 : a ≤ v := by rw [hie] at hlo; exact hlo
    have hhi2 : v ≤ t := by rw [hie] at hhi; exact hhi
    have e := (hone g.x m2).1
    have : inW D a t (g.x : Int) = true := inW_iff.2 ⟨by rw [Int.toNat_natCast]; omega, by rw [Int.toNat_natCast]; omega⟩
    rw [this] at hif
    exact absurd hif (by decide)
  · obtain ⟨v, hv⟩ := not_dif hd
    rw [hlen] at hv
    have hw : 2 ≤ wc D (plP D.length xs) v v := by
      refine Nat.le_trans hv (List.countP_mono_left fun y hy hh => ?_)
      have h0 := plP_in hy
      have hx : y.toNat < D.length := by omega
      obtain ⟨e1, e2⟩ := hone y.toNat hx
      have e3 : vs.getD y.toNat 0 = v := of_decide_eq_true hh
      exact inW_iff.2 ⟨by omega, by omega⟩
    have ho : OF D (plP D.length xs) v v := ⟨by omega, by omega⟩
    have n1 := (over_iff hD hp hs).2 ⟨v, v, ho⟩
    have h1 : l = [] ∧ ok = false := by
      refine h.elim (fun h1 => h1.2) (fun h1 => ?_)
      have h2 := h1.1
      rw [n1] at h2
      exact absurd h2 (by decide)
    refine ⟨⟨fun hk => ?_, fun hk => absurd hk hd⟩, h1.1⟩
    rw [h1.2] at hk
    exact absurd hk (by decide)
end Go.Proofs.YtemnbcilmbojhaaGreatDoor

namespace Go.Proofs.YtemnbcilmbojhaaGreatDoor
open Go.RowKit

theorem StAt.own_lt {B : Nat} {w : World} {p : Nat} {nv mv : Value} {s : St} (h : StAt B w p nv mv s) : ∀ k, Own p nv mv k → k < w.heap.size := by
  intro k hk
  rcases hk with rfl | hk | hk
  · exact h.lt
  · exact (h.n.lt k hk).2
  · exact (h.m.lt k hk).2
theorem bool_iff {b c : Bool} (h : b = true ↔ c = true) : b = c := by
  cases b <;> cases c <;> simp at h ⊢
/-- P13.5, behind the two answers. -/
theorem ends_fin {m : Md.Mo} {xs vs : List Int} {s t : St} {l : List Cz} {ok b : Bool} (hse : s = newS m) (hl : Lies s.now vs) (hte : t = oneS s vs s.now.length) (hD : s.now.length ≤ 32) (hc : CtR t.now xs l ok) (hb : b = true ↔ Dif xs vs) : ok = b ∧ l = [] := by
  subst hse
  obtain ⟨l1, o1, a1, n1⟩ := one_lies (alls_new m) hl
  rw [← hte] at l1 o1 a1 n1
  obtain ⟨h1, h2⟩ := ends_two (fines_alls a1) l1 o1 (by rw [n1]; exact hD) hc
  exact ⟨bool_iff (h1.trans hb.symm), h2⟩
set_option maxRecDepth 10000 in
set_option maxHeartbeats 8000000 in
theorem hallEnds_walk (m : Md.Mo) (vv vc vg : Value) (xa : Option Addr) (xc : Nat) (xs : List Int) (ia : Option Addr) (ic : Nat) (ins : List Int) (w : World) (hM : MoAt w m vv vc vg) (hX : IntsAt w (.slice xa xs.length xc) xs) (hI : IntsAt w (.slice ia ins.length ic) ins) (hT : Tz w) (hs : 0 < w.heap.size) : Calls Tryz.prog 4 #[moVal m vv vc vg, .slice xa xs.length xc, .slice ia ins.length ic] w fun e w' => e = .returned (.bool true) ∧ Below w.heap.size w w' := by
  obtain ⟨W, hW⟩ : ∃ W, w.alloc (.cells #[vv, vc, .bool m.has, vg] 26) = W := ⟨_, rfl⟩
  have hb0 : Below w.heap.size w W := by rw [← hW]; exact (Below.refl _ _).alloc (Nat.le_refl _) _
  have g0 : W.heap[w.heap.size]? = some (.cells #[vv, vc, .bool m.has, vg] 26 (0, 0)) := by rw [← hW]; exact heap_alloc_new w _
  have HWs : Hid (∀ w', Below W.heap.size W w' → Below w.heap.size w w') := fun w' hb => hb0.trans (hb.mono hb0.size)
  have hsW : 0 < W.heap.size := Nat.lt_of_lt_of_le hs hb0.size
  have HF : Hid (Calls Tryz.prog 6 #[.agg #[vv, vc, .bool m.has, vg], .slice none 0 0, .slice xa xs.length xc] W fun e w' => (∃ b : Bool, e = .returned (.bool b) ∧ (b = true → 0 ≤ 20000 ∧ xs.length ≤ 70)) ∧ Below W.heap.size W w') := few_any m vv vc vg none xa 0 xs.length 0 xc W (hM.below hb0) (by omega)
  have HK : Hid (∀ w', Below W.heap.size W w' → Calls Tryz.prog 7 #[] w' fun e w2 => e = .returned (.bool true) ∧ Below w'.heap.size w' w2) := fun w' hb => known_any w' ((hT.below hb0 hs).below hb hsW) (Nat.lt_of_lt_of_le hsW hb.size)
  have HNw : Hid (∀ w', Below W.heap.size W w' → Calls Tryz.prog 18 #[.agg #[vv, vc, .bool m.has, vg]] w' (NewOut m w')) := fun w' hb => new_any m vv vc vg w' (hM.below (HWs.out w' hb)) (Nat.lt_of_lt_of_le hsW hb.size)
  have HTz : Hid (∀ w', Below W.heap.size W w' → Tz w') := fun w' hb => (hT.below hb0 hs).below hb hsW
  have HWi : Hid (∀ B p nv mv s w', Below W.heap.size W w' → StAt B w' p nv mv s → Calls Tryz.prog 15 #[.pointer (some ⟨p, 0, none⟩), .slice ia ins.length ic] w' (VsOut (wiL s.now ins s.now.length) w')) := fun B p nv mv s w' hb hS => within_any B p nv mv s w' hS (HTz.out w' hb) (Nat.lt_of_lt_of_le hsW hb.size) _ ins (hI.below (HWs.out w' hb))
  have HCu : Hid (∀ B p nv mv s w', xs.length ≤ 70 → Below W.heap.size W w' → Alls s → StAt B w' p nv mv s → Calls Tryz.prog 9 #[.slice xa xs.length xc, .pointer (some ⟨p, 0, none⟩)] w' (HlCtOut s.now xs w')) := fun B p nv mv s w' hx hb hA hS => cuts_out xa xc xs (hX.below (HWs.out w' hb)) (by omega) hS hA (HTz.out w' hb) (Nat.lt_of_lt_of_le hsW hb.size)
  have HDi : Hid (∀ (va : Option Addr) (vc : Nat) (vs : List Int) w', xs.length ≤ 70 → vs.length ≤ 32 → Below W.heap.size W w' → IntsAt w' (.slice va vs.length vc) vs → Calls Tryz.prog 16 #[.slice xa xs.length xc, .slice va vs.length vc] w' (DfOut xs vs w')) := fun va vc vs w' hx hv hb hi => differ_any xa va xc vc xs vs w' (hX.below (HWs.out w' hb)) hi (by omega) (by omega)
  have HGc : Hid (∀ w', Below W.heap.size W w' → w'.cell? ⟨w.heap.size, 0, none⟩ = some vv ∧ w'.cell? ⟨w.heap.size, 1, none⟩ = some vc ∧ w'.cell? ⟨w.heap.size, 2, none⟩ = some (.bool m.has) ∧ w'.cell? ⟨w.heap.size, 3, none⟩ = some vg) := fun w' hb => by
    have e0 := (hb.block _ (Array.getElem?_eq_some_iff.1 g0).1).trans g0
    exact ⟨cell_of e0 0, cell_of e0 1, cell_of e0 2, cell_of e0 3⟩
  have hmv : moVal m vv vc vg = .agg #[vv, vc, .bool m.has, vg] := rfl
  rw [hmv]
  obtain ⟨p0, p1, p2, p3⟩ := HGc.out W (Below.refl _ _)
  clear hM hX hI hT hs hb0 g0 hsW hmv
  go_enter Tryz.func4, Tryz.ntmps4
  go_upto_region 1 with fail
  try rw [hW]
  clear hW
  go_cut [20] from 12 to 20 (fun s20 wx => (∃ b : Bool, s20 = .bool b ∧ Hid (b = false → xs.length ≤ 70)) ∧ Hid (Below W.heap.size W wx))
  case first =>
    go_wp2_with (go_at_call 6; refine calls_at HF.out (by with_reducible rfl) (by with_reducible rfl) ?_; rintro e w1 ⟨⟨b1, rfl, hf1⟩, hb1⟩; (have HB1 : Hid (Below W.heap.size W w1) := hb1); (have HF1 : Hid (b1 = true → 0 ≤ 20000 ∧ xs.length ≤ 70) := hf1); clear hb1 hf1; cases b1)
    all_goals go_meet
    all_goals first | exact ⟨⟨_, rfl, fun _ => (HF1.out (by trivial)).2⟩, HB1⟩ | exact ⟨⟨_, rfl, (fun h => by cases h)⟩, HB1⟩
  case rest =>
  obtain ⟨⟨bf, rfl, HX70⟩, HB1⟩ := hcut
  rename World => w1
  clear HF p0 p1 p2 p3
  cases bf with
  | true =>
    go_wp2_with fail
    go_ret
    exact ⟨rfl, HWs.out _ HB1.out⟩
  | false =>
  have hx70 : xs.length ≤ 70 := HX70.out rfl
  go_upto_region 5 with (go_at_call 7; refine calls_at (HK.out w1 HB1.out) (by with_reducible rfl) (by with_reducible rfl) ?_; rintro e w2 ⟨rfl, hb2⟩)
  have HB2 : Hid (Below W.heap.size W w2) := bl_next HB1.out hb2
  clear hb2 HK HB1
  obtain ⟨p0, p1, p2, p3⟩ := HGc.out w2 HB2.out
  go_upto_region 8 with (go_at_call 18; refine calls_at (HNw.out w2 HB2.out) (by with_reducible rfl) (by with_reducible rfl) ?_; rintro e w3 ⟨p, nv, mv, rfl, hS3, hb3⟩)
  have HB3 : Hid (Below W.heap.size W w3) := bl_next HB2.out hb3
  have hLi := wi_lies (fines_alls (alls_new m)) ins
  have hAn := alls_new m
  obtain ⟨s, hse⟩ : ∃ s, newS m = s := ⟨_, rfl⟩
  rw [hse] at hS3 hLi hAn
  have HSe : Hid (s = newS m) := hse.symm
  have HW3 := HWi.out w2.heap.size p nv mv s w3 HB3.out hS3
  obtain ⟨vs, hvs⟩ : ∃ vs, wiL s.now ins s.now.length = vs := ⟨_, rfl⟩
  rw [hvs] at HW3 hLi
  have HLi : Hid (Lies s.now vs) := hLi
  have HAn : Hid (Alls s) := hAn
  have hlen : vs.length = s.now.length := hLi.len
  have Hln : Hid (vs.length = s.now.length) := hlen
  have HW3' : Hid (Calls Tryz.prog 15 #[.pointer (some ⟨p, 0, none⟩), .slice ia ins.length ic] w3 (VsOut vs w3)) := HW3
  have HS3 : Hid (StAt w2.heap.size w3 p nv mv s) := hS3
  have HOw : Hid (∀ k, Own p nv mv k → k < w3.heap.size) := hS3.own_lt
  have hn32 : vs.length ≤ 32 := by rw [hlen]; exact hS3.n32
  have HB2' : Hid (W.heap.size ≤ w2.heap.size) := HB2.out.size
  clear HW3 hvs hse hS3 hb3 HNw hLi HWi p0 p1 p2 p3 hlen hAn
  go_upto_region 9 with (go_at_call 15; refine calls_at HW3'.out (by with_reducible rfl) (by with_reducible rfl) ?_; rintro e w4 ⟨uv, rfl, ho4, hb4⟩)
  obtain ⟨ua, uc, rfl⟩ := own_slice ho4
  have HB4 : Hid (Below W.heap.size W w4) := bl_next HB3.out hb4
  have HV4 : Hid (w4.ownsRow w3.heap.size 3 1 (.slice ua vs.length uc) vs.length (vs.map (.int .i64))) := ho4
  have HS4 : Hid (StAt w2.heap.size w4 p nv mv (oneS s vs 0)) := HS3.out.below hb4
  have HCt : Hid (∀ Bq t (z : Ct) w', StAt Bq w' p nv mv t → Calls Tryz.prog 19 #[.pointer (some ⟨p, 0, none⟩), .agg #[.int .i64 z.k, .int .i64 z.x, .int .i64 z.v]] w' (CutOut Bq p nv mv t z.k z.x z.v w')) := fun Bq t z w' h => cut_any Bq p nv mv t z.k z.x z.v w' h
  have HIc : Hid (∀ (w' : World) (k : Nat) (hk : k < vs.length), w'.ownsRow w3.heap.size 3 1 (.slice ua vs.length uc) vs.length (vs.map (.int .i64)) → ∃ b off, ua = some ⟨b, off, none⟩ ∧ w'.cell? ⟨b, off + k, none⟩ = some (.int .i64 vs[k])) := fun w' k hk ho => ints_cells (own_ints ho (by unfold maxLen; omega)) k hk
  have HOf : Hid (∀ (w' w'' : World), w'.ownsRow w3.heap.size 3 1 (.slice ua vs.length uc) vs.length (vs.map (.int .i64)) → Stp w2.heap.size p nv mv w' w'' → w''.ownsRow w3.heap.size 3 1 (.slice ua vs.length uc) vs.length (vs.map (.int .i64))) := fun w' w'' ho hst => own_off ho (fun g hg e => by have := (ho.lt g hg).1; have := HOw.out g e; omega) hst.off
  clear ho4 hb4 HW3' HS3 HB3 HB2
  go_wp2_with fail
  go_loopw [9] (fun iv wr => ∃ (k : Nat), iv = .int .i64 (k : Int) ∧ k ≤ vs.length ∧ Hid (StAt w2.heap.size wr p nv mv (oneS s vs k)) ∧ Hid (wr.ownsRow w3.heap.size 3 1 (.slice ua vs.length uc) vs.length (vs.map (.int .i64))) ∧ Hid (Below W.heap.size W wr)) (fun iv _ => vs.length - (intOf iv).toNat)
  case atStart => exact ⟨0, rfl, Nat.zero_le _, HS4, HV4, HB4⟩
  case round =>
  obtain ⟨k, rfl, hk, HS, HV, HBr⟩ := hrel
  by_cases hkn : k < vs.length
  case pos =>
    have hkI : (k : Int) < (vs.length : Int) := by omega
    obtain ⟨b, off, rfl, u0⟩ := HIc.out wr k hkn HV.out
    have eg : vs.getD k 0 = vs[k] := by rw [List.getD_eq_getElem?_getD, List.getElem?_eq_getElem hkn]; rfl
    have HX : Hid (oneS s vs (k + 1) = ((oneS s vs k).cut 1 (k : Int) vs[k]).cut 2 (k : Int) vs[k]) := by show _ = _; rw [← eg]; rfl
    have HIk := fun w' ho => HIc.out w' k hkn ho
    obtain ⟨u, hu⟩ : ∃ u, vs[k] = u := ⟨_, rfl⟩
    rw [hu] at u0 HX HIk
    have HI2 : Hid (∀ w' : World, w'.ownsRow w3.heap.size 3 1 (.slice (some ⟨b, off, none⟩) vs.length uc) vs.length (vs.map (.int .i64)) → w'.cell? ⟨b, off + k, none⟩ = some (.int .i64 u)) := fun w' ho => by
      obtain ⟨b', o', e, hc⟩ := HIk w' ho
      injection e with e
      injection e with e1 e2
      subst e1 e2
      exact hc
    have HK1 : Hid (Calls Tryz.prog 19 #[.pointer (some ⟨p, 0, none⟩), .agg #[.int .i64 1, .int .i64 (k : Int), .int .i64 u]] wr (CutOut w2.heap.size p nv mv (oneS s vs k) 1 (k : Int) u wr)) := HCt.out _ _ ⟨1, (k : Int), u⟩ wr HS.out
    have HK2 : Hid (∀ w', StAt w2.heap.size w' p nv mv ((oneS s vs k).cut 1 (k : Int) u) → Calls Tryz.prog 19 #[.pointer (some ⟨p, 0, none⟩), .agg #[.int .i64 2, .int .i64 (k : Int), .int .i64 u]] w' (CutOut w2.heap.size p nv mv ((oneS s vs k).cut 1 (k : Int) u) 2 (k : Int) u w')) := fun w' h => HCt.out _ _ ⟨2, (k : Int), u⟩ w' h
    clear hu HIk eg
    go_wp2_with (first | (go_at_call 19; refine calls_at HK1.out (by with_reducible rfl) (by with_reducible rfl) ?_; rintro e w5 ⟨rfl, hS5, hT5⟩; (have HV5 : Hid (w5.ownsRow w3.heap.size 3 1 (.slice (some ⟨b, off, none⟩) vs.length uc) vs.length (vs.map (.int .i64))) := HOf.out _ _ HV.out hT5); (have HB5 : Hid (Below W.heap.size W w5) := HBr.out.trans (hT5.below.mono HB2'.out)); (have u1 := HI2.out w5 HV5.out); (have HS5 : Hid (StAt w2.heap.size w5 p nv mv ((oneS s vs k).cut 1 (k : Int) u)) := hS5); clear hS5 hT5) | (go_at_call 19; refine calls_at (HK2.out w5 HS5.out) (by with_reducible rfl) (by with_reducible rfl) ?_; rintro e w6 ⟨rfl, hS6, hT6⟩))
    go_roundw
    case rel => exact ⟨k + 1, by go_num, hkn, (by show StAt _ _ _ _ _ _; rw [HX.out]; exact hS6), HOf.out _ _ HV5.out hT6, HB5.out.trans (hT6.below.mono HB2'.out)⟩
    case measure => simp [intOf]; omega
  case neg =>
  have hke : k = vs.length := by omega
  subst hke
  have hkI : ¬ (vs.length : Int) < (vs.length : Int) := by omega
  obtain ⟨t, hte⟩ : ∃ t, oneS s vs vs.length = t := ⟨_, rfl⟩
  have HS5 : Hid (StAt w2.heap.size wr p nv mv t) := by have := HS.out; rw [hte] at this; exact this
  have HTe : Hid (t = oneS s vs s.now.length) := by show _ = _; rw [← hte, Hln.out]
  have HAt : Hid (Alls t) := by rw [HTe.out]; exact (one_lies HAn.out HLi.out).2.2.1
  have HI5 : Hid (IntsAt wr (.slice ua vs.length uc) vs) := own_ints HV.out (by unfold maxLen; omega)
  have HsN : Hid (s.now.length ≤ 32) := by rw [← Hln.out]; exact hn32
  clear HS HV HS4 HV4 HB4 hte hkn hk HCt HIc HOf HOw HB2'
  have HCs : Hid (Calls Tryz.prog 9 #[.slice xa xs.length xc, .pointer (some ⟨p, 0, none⟩)] wr (HlCtOut t.now xs wr)) := HCu.out _ p nv mv t wr hx70 HBr.out HAt.out HS5.out
  go_upto_region 15 with (go_at_call 9; refine calls_at HCs.out (by with_reducible rfl) (by with_reducible rfl) ?_; intro e w6 hh; (obtain ⟨l, ok, a6, cp6, h1, h2, h3, h4, h5⟩ := hh); subst h3)
  have HB6 : Hid (Below W.heap.size W w6) := bl_next HBr.out h5
  have HR6 : Hid (CtR t.now xs l ok) := h1
  have HD6 : Hid (Calls Tryz.prog 16 #[.slice xa xs.length xc, .slice ua vs.length uc] w6 (DfOut xs vs w6)) := HDi.out ua uc vs w6 hx70 hn32 HB6.out (HI5.out.below h5)
  have HFn : Hid (∀ b : Bool, (b = true ↔ Dif xs vs) → ok = b ∧ l = []) := fun b hb => ends_fin HSe.out HLi.out HTe.out HsN.out HR6.out hb
  clear h1 h2 h4 h5 HCs HCu HDi
  go_wp2_with (go_at_call 16; refine calls_at HD6.out (by with_reducible rfl) (by with_reducible rfl) ?_; intro e w7 hh; (obtain ⟨⟨b7, h1, h2⟩, h3⟩ := hh); subst h1; (obtain ⟨f1, f2⟩ := HFn.out b7 h2); subst f1; subst f2)
  go_ret
  exact ⟨rfl, HWs.out _ (bl_next HB6.out h3)⟩
end Go.Proofs.YtemnbcilmbojhaaGreatDoor
