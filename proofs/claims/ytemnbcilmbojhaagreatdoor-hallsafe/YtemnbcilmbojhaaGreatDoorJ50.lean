/-
  Put together: HlDiff, HlMe, HlEndsW, HlInside, HlMf, HlSafeF, HlSafeW.
-/
import Derived.Test.YtemnbcilmbojhaaGreatDoorJ48
import Derived.Test.YtemnbcilmbojhaaGreatDoorJ47
import Derived.Test.YtemnbcilmbojhaaGreatDoorJ49
import Derived.Test.YtemnbcilmbojhaaGreatDoorJ35
namespace Go.Proofs.YtemnbcilmbojhaaGreatDoor
open Go.RowKit

/-- Two places with the same value. -/
def clash (vs : List Int) (x y : Int) : Bool := decide (0 ≤ x) && (decide (x < (vs.length : Int)) && (decide (0 ≤ y) && (decide (y < (vs.length : Int)) && decide (vs.getD x.toNat 0 = vs.getD y.toNat 0))))
def DifTo (xs vs : List Int) (n : Nat) : Prop := ∀ i k, i < n → k < i → clash vs (xs.getD i 0) (xs.getD k 0) = false
def Dif (xs vs : List Int) : Prop := DifTo xs vs xs.length
theorem below_succ {p : Nat → Prop} {k : Nat} (h : ∀ j, j < k → p j) (hk : p k) : ∀ j, j < k + 1 → p j := fun j hj => by
  by_cases e : j = k
  · rw [e]
    exact hk
  · exact h j (by omega)
theorem dif_succ {xs vs : List Int} {i : Nat} (h : DifTo xs vs i) (h2 : ∀ j, j < i → clash vs (xs.getD i 0) (xs.getD j 0) = false) : DifTo xs vs (i + 1) := fun a b ha hb => by
  by_cases e : a = i
  · subst e
    exact h2 b hb
  · exact h a b (by omega) hb
def DfOut (xs vs : List Int) (w : World) (e : Ending) (w' : World) : Prop := (∃ b : Bool, e = .returned (.bool b) ∧ (b = true ↔ Dif xs vs)) ∧ Below w.heap.size w w'
set_option maxRecDepth 10000 in
set_option maxHeartbeats 4000000 in
theorem differ_any (xa va : Option Addr) (xc vc : Nat) (xs vs : List Int) (w : World) (hX : IntsAt w (.slice xa xs.length xc) xs) (hV : IntsAt w (.slice va vs.length vc) vs) (hl : xs.length ≤ 1000000) (_ : vs.length ≤ 1000000) : Calls Tryz.prog 16 #[.slice xa xs.length xc, .slice va vs.length vc] w (DfOut xs vs w) := by
  have HX : Hid (∀ w', Below w.heap.size w w' → ∀ k (hk : k < xs.length), ∃ b off, xa = some ⟨b, off, none⟩ ∧ w'.cell? ⟨b, off + k, none⟩ = some (.int .i64 xs[k])) := fun w' hb k hk => ints_cells (hX.below hb) k hk
  have HV : Hid (∀ w', Below w.heap.size w w' → ∀ k (hk : k < vs.length), ∃ b off, va = some ⟨b, off, none⟩ ∧ w'.cell? ⟨b, off + k, none⟩ = some (.int .i64 vs[k])) := fun w' hb k hk => ints_cells (hV.below hb) k hk
  clear hX hV
  go_enter Tryz.func16, Tryz.ntmps16
  go_wp2_with fail
  go_loopw [5] (fun iv wr => ∃ (i : Nat), iv = .int .i64 (i : Int) ∧ i ≤ xs.length ∧ Hid (DifTo xs vs i) ∧ Hid (Below w.heap.size w wr)) (fun iv _ => xs.length - (intOf iv).toNat)
  case atStart => exact ⟨0, rfl, Nat.zero_le _, (fun i k h => absurd h (Nat.not_lt_zero _)), Below.refl _ _⟩
  case round =>
  obtain ⟨i, rfl, hi, HA, HBr⟩ := hrel
  by_cases hin : i < xs.length
  case neg =>
    have hie : i = xs.length := by omega
    subst hie
    have hiI : ¬ (xs.length : Int) < (xs.length : Int) := by omega
    go_wp2_with fail
    go_ret
    exact ⟨⟨true, rfl, ⟨fun _ => HA.out, fun _ => rfl⟩⟩, HBr.out⟩
  case pos =>
  have hiI : (i : Int) < (xs.length : Int) := by omega
  go_upto_region 5 with fail
  go_loopw [6] (fun iv wy => ∃ (k : Nat), iv = .int .i64 (k : Int) ∧ k ≤ i ∧ Hid (∀ j, j < k → clash vs (xs.getD i 0) (xs.getD j 0) = false) ∧ Hid (Below w.heap.size w wy)) (fun iv _ => i - (intOf iv).toNat)
  case atStart => exact ⟨0, rfl, Nat.zero_le _, (fun j h => absurd h (Nat.not_lt_zero _)), HBr⟩
  case round =>
  obtain ⟨k, rfl, hk, HA2, HBy⟩ := hrel
  rename World => wy
  by_cases hkn : k < i
  case neg =>
    have hke : k = i := by omega
    subst hke
    have hkI : ¬ (k : Int) < (k : Int) := by omega
    go_wp2_with fail
    go_roundw
    case rel => exact ⟨k + 1, by go_num, hin, (dif_succ HA.out HA2.out), HBy⟩
    case measure => simp [intOf]; omega
  case pos =>
  have hkI : (k : Int) < (i : Int) := by omega
  have hkx : k < xs.length := by omega
  have hkxI : (k : Int) < (xs.length : Int) := by omega
  obtain ⟨b, off, rfl, _⟩ := HX.out wy HBy.out i hin
  have HC : Hid (∀ w', Below w.heap.size w w' → w'.cell? ⟨b, off + i, none⟩ = some (.int .i64 xs[i]) ∧ w'.cell? ⟨b, off + k, none⟩ = some (.int .i64 xs[k])) := fun w' hb => by
    obtain ⟨b1, o1, e1, c1⟩ := HX.out w' hb i hin
    injection e1 with e1
    injection e1 with e1 e2
    subst e1 e2
    obtain ⟨b1, o1, e1, c2⟩ := HX.out w' hb k hkx
    injection e1 with e1
    injection e1 with e1 e2
    subst e1 e2
    exact ⟨c1, c2⟩
  have HXY0 : xs.getD i 0 = xs[i] ∧ xs.getD k 0 = xs[k] := ⟨by rw [List.getD_eq_getElem?_getD, List.getElem?_eq_getElem hin]; rfl, by rw [List.getD_eq_getElem?_getD, List.getElem?_eq_getElem hkx]; rfl⟩
  obtain ⟨x, hx⟩ : ∃ x, xs[i] = x := ⟨_, rfl⟩
  obtain ⟨y, hy⟩ : ∃ y, xs[k] = y := ⟨_, rfl⟩
  rw [hx, hy] at HC HXY0
  have HXY : Hid (clash vs x y = false → clash vs (xs.getD i 0) (xs.getD k 0) = false) := fun h => by rw [HXY0.1, HXY0.2]; exact h
  have HYX : Hid (clash vs x y = true → ¬ Dif xs vs) := fun h hd => by
    have := hd i k hin hkn
    rw [HXY0.1, HXY0.2, h] at this
    cases this
  have HC2 : Hid (∀ w', Below wy.heap.size wy w' → w'.cell? ⟨b, off + i, none⟩ = some (.int .i64 x) ∧ w'.cell? ⟨b, off + k, none⟩ = some (.int .i64 y)) := fun w' hb => HC.out w' (bl_next HBy.out hb)
  clear hx hy HXY0 HC
  by_cases hx0 : 0 ≤ x
  case neg =>
    have HN : Hid (clash vs x y = false) := by show _ = _; unfold clash; simp; omega
    go_upto_region 7 with fail
    refine wp_region_T (fun w' => w'.cell? ⟨b, off + i, none⟩ = some (.int .i64 x) ∧ w'.cell? ⟨b, off + k, none⟩ = some (.int .i64 y)) (fun _ => True) [] (by kernel_rfl) ⟨HC2.out _ (Below.refl _ _).drew, trivial⟩ (fun hHeld => ?_)
    refine wpAnyT_takeB (i := 0) (oi := ⟨some 18, .move (.tmp 0), _, _, _, _⟩) (v := ?vR7c1x0) rfl (by kernel_rfl) (by kernel_rfl) (by kernel_rfl) (by kernel_rfl) (fun _ _ _ h => h) (Or.inl ⟨by rfl, ?hyR7c1x0⟩) (by assumption) ?restR7c1x0
    case hyR7c1x0 => (intro w hSw; (try dsimp only at hSw); go_simp; try (with_reducible rfl))
    try simp only [Act.put, List.setIfInBounds_toArray, List.set_cons_zero, List.set_cons_succ]
    refine wpAnyT_takeB (i := 1) (oi := ⟨some 19, .move (.tmp 5), _, _, _, _⟩) (v := ?vR7c1x1) rfl (by kernel_rfl) (by kernel_rfl) (by kernel_rfl) (by kernel_rfl) (fun _ _ _ h => h) (Or.inl ⟨by rfl, ?hyR7c1x1⟩) (by assumption) ?restR7c1x1
    case hyR7c1x1 => (intro w hSw; (try dsimp only at hSw); go_simp; try (with_reducible rfl))
    try simp only [Act.put, List.setIfInBounds_toArray, List.set_cons_zero, List.set_cons_succ]
    refine wpAnyT_takeB (i := 2) (oi := ⟨some 20, .indexAddr 28 (.tmp 18) (.tmp 19), _, _, _, _⟩) (v := ?vR7c1x2) rfl (by kernel_rfl) (by kernel_rfl) (by kernel_rfl) (by kernel_rfl) (fun _ _ _ h => h) (Or.inl ⟨by rfl, ?hyR7c1x2⟩) (by assumption) ?restR7c1x2
    case hyR7c1x2 => (intro w hSw; (try dsimp only at hSw); go_simp; try (with_reducible rfl))
    try simp only [Act.put, List.setIfInBounds_toArray, List.set_cons_zero, List.set_cons_succ]
    refine wpAnyT_takeB (i := 3) (oi := ⟨some 21, .load 3 (.tmp 20), _, _, _, _⟩) (v := ?vR7c1x3) rfl (by kernel_rfl) (by kernel_rfl) (by kernel_rfl) (by kernel_rfl) (fun _ _ _ h => h) (Or.inl ⟨by rfl, ?hyR7c1x3⟩) (by assumption) ?restR7c1x3
    case hyR7c1x3 => (intro w hSw; (try dsimp only at hSw); go_simp; try (with_reducible rfl))
    try simp only [Act.put, List.setIfInBounds_toArray, List.set_cons_zero, List.set_cons_succ]
    refine wpAnyT_takeB (i := 4) (oi := ⟨some 22, .binOp .geq 3 (.tmp 21) ((.const (.int .i64 0))) 3, _, _, _, _⟩) (v := ?vR7c1x4) rfl (by kernel_rfl) (by kernel_rfl) (by kernel_rfl) (by kernel_rfl) (fun _ _ _ h => h) (Or.inl ⟨by rfl, ?hyR7c1x4⟩) (by assumption) ?restR7c1x4
    case hyR7c1x4 => (intro w hSw; (try dsimp only at hSw); go_simp; try (with_reducible rfl))
    try simp only [Act.put, List.setIfInBounds_toArray, List.set_cons_zero, List.set_cons_succ]
    refine wpAnyT_takeB (i := 5) (oi := ⟨some 23, .move (.tmp 22), _, _, _, _⟩) (v := ?vR7c1x5) rfl (by kernel_rfl) (by kernel_rfl) (by kernel_rfl) (by kernel_rfl) (fun _ _ _ h => h) (Or.inl ⟨by rfl, ?hyR7c1x5⟩) (by assumption) ?restR7c1x5
    case hyR7c1x5 => (intro w hSw; (try dsimp only at hSw); go_simp; try (with_reducible rfl))
    try simp only [Act.put, List.setIfInBounds_toArray, List.set_cons_zero, List.set_cons_succ]
    refine wpAnyT_takeB (i := 6) (oi := ⟨some 24, .move (.tmp 0), _, _, _, _⟩) (v := undef) rfl (by kernel_rfl) (by kernel_rfl) (by kernel_rfl) (by kernel_rfl) (fun _ _ _ h => h) (Or.inr ⟨by rfl, rfl⟩) (by assumption) ?restR7c1x6
    try simp only [Act.put, List.setIfInBounds_toArray, List.set_cons_zero, List.set_cons_succ]
    refine wpAnyT_takeB (i := 7) (oi := ⟨some 25, .move (.tmp 5), _, _, _, _⟩) (v := undef) rfl (by kernel_rfl) (by kernel_rfl) (by kernel_rfl) (by kernel_rfl) (fun _ _ _ h => h) (Or.inr ⟨by rfl, rfl⟩) (by assumption) ?restR7c1x7
    try simp only [Act.put, List.setIfInBounds_toArray, List.set_cons_zero, List.set_cons_succ]
    refine wpAnyT_takeB (i := 8) (oi := ⟨some 26, .indexAddr 28 (.tmp 24) (.tmp 25), _, _, _, _⟩) (v := undef) rfl (by kernel_rfl) (by kernel_rfl) (by kernel_rfl) (by kernel_rfl) (fun _ _ _ h => h) (Or.inr ⟨by rfl, rfl⟩) (by assumption) ?restR7c1x8
    try simp only [Act.put, List.setIfInBounds_toArray, List.set_cons_zero, List.set_cons_succ]
    refine wpAnyT_takeB (i := 9) (oi := ⟨some 27, .load 3 (.tmp 26), _, _, _, _⟩) (v := undef) rfl (by kernel_rfl) (by kernel_rfl) (by kernel_rfl) (by kernel_rfl) (fun _ _ _ h => h) (Or.inr ⟨by rfl, rfl⟩) (by assumption) ?restR7c1x9
    try simp only [Act.put, List.setIfInBounds_toArray, List.set_cons_zero, List.set_cons_succ]
    refine wpAnyT_takeB (i := 10) (oi := ⟨some 28, .move (.tmp 1), _, _, _, _⟩) (v := undef) rfl (by kernel_rfl) (by kernel_rfl) (by kernel_rfl) (by kernel_rfl) (fun _ _ _ h => h) (Or.inr ⟨by rfl, rfl⟩) (by assumption) ?restR7c1x10
    try simp only [Act.put, List.setIfInBounds_toArray, List.set_cons_zero, List.set_cons_succ]
    refine wpAnyT_takeB (i := 11) (oi := ⟨some 29, .call { callee := .builtin .len, args := #[(.tmp 28)], argTypes := #[28] }, _, _, _, _⟩) (v := undef) rfl (by kernel_rfl) (by kernel_rfl) (by kernel_rfl) (by kernel_rfl) (fun _ _ _ h => h) (Or.inr ⟨by rfl, rfl⟩) (by assumption) ?restR7c1x11
    try simp only [Act.put, List.setIfInBounds_toArray, List.set_cons_zero, List.set_cons_succ]
    refine wpAnyT_takeB (i := 12) (oi := ⟨some 30, .binOp .lss 3 (.tmp 27) (.tmp 29) 3, _, _, _, _⟩) (v := undef) rfl (by kernel_rfl) (by kernel_rfl) (by kernel_rfl) (by kernel_rfl) (fun _ _ _ h => h) (Or.inr ⟨by rfl, rfl⟩) (by assumption) ?restR7c1x12
    try simp only [Act.put, List.setIfInBounds_toArray, List.set_cons_zero, List.set_cons_succ]
    refine wpAnyT_takeB (i := 13) (oi := ⟨some 31, .pick (.tmp 23) (.tmp 30) ((.const (.bool false))), _, _, _, _⟩) (v := ?vR7c1x13) rfl (by kernel_rfl) (by kernel_rfl) (by kernel_rfl) (by kernel_rfl) (fun _ _ _ h => h) (Or.inl ⟨by rfl, ?hyR7c1x13⟩) (by assumption) ?restR7c1x13
    case hyR7c1x13 => (intro w hSw; (try dsimp only at hSw); go_simp; try (with_reducible rfl))
    try simp only [Act.put, List.setIfInBounds_toArray, List.set_cons_zero, List.set_cons_succ]
    refine wpAnyT_takeB (i := 14) (oi := ⟨some 32, .move (.tmp 31), _, _, _, _⟩) (v := ?vR7c1x14) rfl (by kernel_rfl) (by kernel_rfl) (by kernel_rfl) (by kernel_rfl) (fun _ _ _ h => h) (Or.inl ⟨by rfl, ?hyR7c1x14⟩) (by assumption) ?restR7c1x14
    case hyR7c1x14 => (intro w hSw; (try dsimp only at hSw); go_simp; try (with_reducible rfl))
    try simp only [Act.put, List.setIfInBounds_toArray, List.set_cons_zero, List.set_cons_succ]
    refine wpAnyT_takeB (i := 15) (oi := ⟨some 33, .move (.tmp 0), _, _, _, _⟩) (v := undef) rfl (by kernel_rfl) (by kernel_rfl) (by kernel_rfl) (by kernel_rfl) (fun _ _ _ h => h) (Or.inr ⟨by rfl, rfl⟩) (by assumption) ?restR7c1x15
    try simp only [Act.put, List.setIfInBounds_toArray, List.set_cons_zero, List.set_cons_succ]
    refine wpAnyT_takeB (i := 16) (oi := ⟨some 34, .move (.tmp 6), _, _, _, _⟩) (v := undef) rfl (by kernel_rfl) (by kernel_rfl) (by kernel_rfl) (by kernel_rfl) (fun _ _ _ h => h) (Or.inr ⟨by rfl, rfl⟩) (by assumption) ?restR7c1x16
    try simp only [Act.put, List.setIfInBounds_toArray, List.set_cons_zero, List.set_cons_succ]
    refine wpAnyT_takeB (i := 17) (oi := ⟨some 35, .indexAddr 28 (.tmp 33) (.tmp 34), _, _, _, _⟩) (v := undef) rfl (by kernel_rfl) (by kernel_rfl) (by kernel_rfl) (by kernel_rfl) (fun _ _ _ h => h) (Or.inr ⟨by rfl, rfl⟩) (by assumption) ?restR7c1x17
    try simp only [Act.put, List.setIfInBounds_toArray, List.set_cons_zero, List.set_cons_succ]
    refine wpAnyT_takeB (i := 18) (oi := ⟨some 36, .load 3 (.tmp 35), _, _, _, _⟩) (v := undef) rfl (by kernel_rfl) (by kernel_rfl) (by kernel_rfl) (by kernel_rfl) (fun _ _ _ h => h) (Or.inr ⟨by rfl, rfl⟩) (by assumption) ?restR7c1x18
    try simp only [Act.put, List.setIfInBounds_toArray, List.set_cons_zero, List.set_cons_succ]
    refine wpAnyT_takeB (i := 19) (oi := ⟨some 37, .binOp .geq 3 (.tmp 36) ((.const (.int .i64 0))) 3, _, _, _, _⟩) (v := undef) rfl (by kernel_rfl) (by kernel_rfl) (by kernel_rfl) (by kernel_rfl) (fun _ _ _ h => h) (Or.inr ⟨by rfl, rfl⟩) (by assumption) ?restR7c1x19
    try simp only [Act.put, List.setIfInBounds_toArray, List.set_cons_zero, List.set_cons_succ]
    refine wpAnyT_takeB (i := 20) (oi := ⟨some 38, .pick (.tmp 32) (.tmp 37) ((.const (.bool false))), _, _, _, _⟩) (v := ?vR7c1x20) rfl (by kernel_rfl) (by kernel_rfl) (by kernel_rfl) (by kernel_rfl) (fun _ _ _ h => h) (Or.inl ⟨by rfl, ?hyR7c1x20⟩) (by assumption) ?restR7c1x20
    case hyR7c1x20 => (intro w hSw; (try dsimp only at hSw); go_simp; try (with_reducible rfl))
    try simp only [Act.put, List.setIfInBounds_toArray, List.set_cons_zero, List.set_cons_succ]
    refine wpAnyT_takeB (i := 21) (oi := ⟨some 39, .move (.tmp 38), _, _, _, _⟩) (v := ?vR7c1x21) rfl (by kernel_rfl) (by kernel_rfl) (by kernel_rfl) (by kernel_rfl) (fun _ _ _ h => h) (Or.inl ⟨by rfl, ?hyR7c1x21⟩) (by assumption) ?restR7c1x21
    case hyR7c1x21 => (intro w hSw; (try dsimp only at hSw); go_simp; try (with_reducible rfl))
    try simp only [Act.put, List.setIfInBounds_toArray, List.set_cons_zero, List.set_cons_succ]
    refine wpAnyT_takeB (i := 22) (oi := ⟨some 40, .move (.tmp 0), _, _, _, _⟩) (v := undef) rfl (by kernel_rfl) (by kernel_rfl) (by kernel_rfl) (by kernel_rfl) (fun _ _ _ h => h) (Or.inr ⟨by rfl, rfl⟩) (by assumption) ?restR7c1x22
    try simp only [Act.put, List.setIfInBounds_toArray, List.set_cons_zero, List.set_cons_succ]
    refine wpAnyT_takeB (i := 23) (oi := ⟨some 41, .move (.tmp 6), _, _, _, _⟩) (v := undef) rfl (by kernel_rfl) (by kernel_rfl) (by kernel_rfl) (by kernel_rfl) (fun _ _ _ h => h) (Or.inr ⟨by rfl, rfl⟩) (by assumption) ?restR7c1x23
    try simp only [Act.put, List.setIfInBounds_toArray, List.set_cons_zero, List.set_cons_succ]
    refine wpAnyT_takeB (i := 24) (oi := ⟨some 42, .indexAddr 28 (.tmp 40) (.tmp 41), _, _, _, _⟩) (v := undef) rfl (by kernel_rfl) (by kernel_rfl) (by kernel_rfl) (by kernel_rfl) (fun _ _ _ h => h) (Or.inr ⟨by rfl, rfl⟩) (by assumption) ?restR7c1x24
    try simp only [Act.put, List.setIfInBounds_toArray, List.set_cons_zero, List.set_cons_succ]
    refine wpAnyT_takeB (i := 25) (oi := ⟨some 43, .load 3 (.tmp 42), _, _, _, _⟩) (v := undef) rfl (by kernel_rfl) (by kernel_rfl) (by kernel_rfl) (by kernel_rfl) (fun _ _ _ h => h) (Or.inr ⟨by rfl, rfl⟩) (by assumption) ?restR7c1x25
    try simp only [Act.put, List.setIfInBounds_toArray, List.set_cons_zero, List.set_cons_succ]
    refine wpAnyT_takeB (i := 26) (oi := ⟨some 44, .move (.tmp 1), _, _, _, _⟩) (v := undef) rfl (by kernel_rfl) (by kernel_rfl) (by kernel_rfl) (by kernel_rfl) (fun _ _ _ h => h) (Or.inr ⟨by rfl, rfl⟩) (by assumption) ?restR7c1x26
    try simp only [Act.put, List.setIfInBounds_toArray, List.set_cons_zero, List.set_cons_succ]
    refine wpAnyT_takeB (i := 27) (oi := ⟨some 45, .call { callee := .builtin .len, args := #[(.tmp 44)], argTypes := #[28] }, _, _, _, _⟩) (v := undef) rfl (by kernel_rfl) (by kernel_rfl) (by kernel_rfl) (by kernel_rfl) (fun _ _ _ h => h) (Or.inr ⟨by rfl, rfl⟩) (by assumption) ?restR7c1x27
    try simp only [Act.put, List.setIfInBounds_toArray, List.set_cons_zero, List.set_cons_succ]
    refine wpAnyT_takeB (i := 28) (oi := ⟨some 46, .binOp .lss 3 (.tmp 43) (.tmp 45) 3, _, _, _, _⟩) (v := undef) rfl (by kernel_rfl) (by kernel_rfl) (by kernel_rfl) (by kernel_rfl) (fun _ _ _ h => h) (Or.inr ⟨by rfl, rfl⟩) (by assumption) ?restR7c1x28
    try simp only [Act.put, List.setIfInBounds_toArray, List.set_cons_zero, List.set_cons_succ]
    refine wpAnyT_takeB (i := 29) (oi := ⟨some 47, .pick (.tmp 39) (.tmp 46) ((.const (.bool false))), _, _, _, _⟩) (v := ?vR7c1x29) rfl (by kernel_rfl) (by kernel_rfl) (by kernel_rfl) (by kernel_rfl) (fun _ _ _ h => h) (Or.inl ⟨by rfl, ?hyR7c1x29⟩) (by assumption) ?restR7c1x29
    case hyR7c1x29 => (intro w hSw; (try dsimp only at hSw); go_simp; try (with_reducible rfl))
    try simp only [Act.put, List.setIfInBounds_toArray, List.set_cons_zero, List.set_cons_succ]
    refine wpAnyT_takeB (i := 30) (oi := ⟨some 48, .move (.tmp 47), _, _, _, _⟩) (v := ?vR7c1x30) rfl (by kernel_rfl) (by kernel_rfl) (by kernel_rfl) (by kernel_rfl) (fun _ _ _ h => h) (Or.inl ⟨by rfl, ?hyR7c1x30⟩) (by assumption) ?restR7c1x30
    case hyR7c1x30 => (intro w hSw; (try dsimp only at hSw); go_simp; try (with_reducible rfl))
    try simp only [Act.put, List.setIfInBounds_toArray, List.set_cons_zero, List.set_cons_succ]
    refine wpAnyT_takeB (i := 31) (oi := ⟨some 49, .move (.tmp 1), _, _, _, _⟩) (v := undef) rfl (by kernel_rfl) (by kernel_rfl) (by kernel_rfl) (by kernel_rfl) (fun _ _ _ h => h) (Or.inr ⟨by rfl, rfl⟩) (by assumption) ?restR7c1x31
    try simp only [Act.put, List.setIfInBounds_toArray, List.set_cons_zero, List.set_cons_succ]
    refine wpAnyT_takeB (i := 32) (oi := ⟨some 50, .move (.tmp 0), _, _, _, _⟩) (v := undef) rfl (by kernel_rfl) (by kernel_rfl) (by kernel_rfl) (by kernel_rfl) (fun _ _ _ h => h) (Or.inr ⟨by rfl, rfl⟩) (by assumption) ?restR7c1x32
    try simp only [Act.put, List.setIfInBounds_toArray, List.set_cons_zero, List.set_cons_succ]
    refine wpAnyT_takeB (i := 33) (oi := ⟨some 51, .move (.tmp 5), _, _, _, _⟩) (v := undef) rfl (by kernel_rfl) (by kernel_rfl) (by kernel_rfl) (by kernel_rfl) (fun _ _ _ h => h) (Or.inr ⟨by rfl, rfl⟩) (by assumption) ?restR7c1x33
    try simp only [Act.put, List.setIfInBounds_toArray, List.set_cons_zero, List.set_cons_succ]
    refine wpAnyT_takeB (i := 34) (oi := ⟨some 52, .indexAddr 28 (.tmp 50) (.tmp 51), _, _, _, _⟩) (v := undef) rfl (by kernel_rfl) (by kernel_rfl) (by kernel_rfl) (by kernel_rfl) (fun _ _ _ h => h) (Or.inr ⟨by rfl, rfl⟩) (by assumption) ?restR7c1x34
    try simp only [Act.put, List.setIfInBounds_toArray, List.set_cons_zero, List.set_cons_succ]
    refine wpAnyT_takeB (i := 35) (oi := ⟨some 53, .load 3 (.tmp 52), _, _, _, _⟩) (v := undef) rfl (by kernel_rfl) (by kernel_rfl) (by kernel_rfl) (by kernel_rfl) (fun _ _ _ h => h) (Or.inr ⟨by rfl, rfl⟩) (by assumption) ?restR7c1x35
    try simp only [Act.put, List.setIfInBounds_toArray, List.set_cons_zero, List.set_cons_succ]
    refine wpAnyT_takeB (i := 36) (oi := ⟨some 54, .indexAddr 28 (.tmp 49) (.tmp 53), _, _, _, _⟩) (v := undef) rfl (by kernel_rfl) (by kernel_rfl) (by kernel_rfl) (by kernel_rfl) (fun _ _ _ h => h) (Or.inr ⟨by rfl, rfl⟩) (by assumption) ?restR7c1x36
    try simp only [Act.put, List.setIfInBounds_toArray, List.set_cons_zero, List.set_cons_succ]
    refine wpAnyT_takeB (i := 37) (oi := ⟨some 55, .load 3 (.tmp 54), _, _, _, _⟩) (v := undef) rfl (by kernel_rfl) (by kernel_rfl) (by kernel_rfl) (by kernel_rfl) (fun _ _ _ h => h) (Or.inr ⟨by rfl, rfl⟩) (by assumption) ?restR7c1x37
    try simp only [Act.put, List.setIfInBounds_toArray, List.set_cons_zero, List.set_cons_succ]
    refine wpAnyT_takeB (i := 38) (oi := ⟨some 56, .move (.tmp 1), _, _, _, _⟩) (v := undef) rfl (by kernel_rfl) (by kernel_rfl) (by kernel_rfl) (by kernel_rfl) (fun _ _ _ h => h) (Or.inr ⟨by rfl, rfl⟩) (by assumption) ?restR7c1x38
    try simp only [Act.put, List.setIfInBounds_toArray, List.set_cons_zero, List.set_cons_succ]
    refine wpAnyT_takeB (i := 39) (oi := ⟨some 57, .move (.tmp 0), _, _, _, _⟩) (v := undef) rfl (by kernel_rfl) (by kernel_rfl) (by kernel_rfl) (by kernel_rfl) (fun _ _ _ h => h) (Or.inr ⟨by rfl, rfl⟩) (by assumption) ?restR7c1x39
    try simp only [Act.put, List.setIfInBounds_toArray, List.set_cons_zero, List.set_cons_succ]
    refine wpAnyT_takeB (i := 40) (oi := ⟨some 58, .move (.tmp 6), _, _, _, _⟩) (v := undef) rfl (by kernel_rfl) (by kernel_rfl) (by kernel_rfl) (by kernel_rfl) (fun _ _ _ h => h) (Or.inr ⟨by rfl, rfl⟩) (by assumption) ?restR7c1x40
    try simp only [Act.put, List.setIfInBounds_toArray, List.set_cons_zero, List.set_cons_succ]
    refine wpAnyT_takeB (i := 41) (oi := ⟨some 59, .indexAddr 28 (.tmp 57) (.tmp 58), _, _, _, _⟩) (v := undef) rfl (by kernel_rfl) (by kernel_rfl) (by kernel_rfl) (by kernel_rfl) (fun _ _ _ h => h) (Or.inr ⟨by rfl, rfl⟩) (by assumption) ?restR7c1x41
    try simp only [Act.put, List.setIfInBounds_toArray, List.set_cons_zero, List.set_cons_succ]
    refine wpAnyT_takeB (i := 42) (oi := ⟨some 60, .load 3 (.tmp 59), _, _, _, _⟩) (v := undef) rfl (by kernel_rfl) (by kernel_rfl) (by kernel_rfl) (by kernel_rfl) (fun _ _ _ h => h) (Or.inr ⟨by rfl, rfl⟩) (by assumption) ?restR7c1x42
    try simp only [Act.put, List.setIfInBounds_toArray, List.set_cons_zero, List.set_cons_succ]
    refine wpAnyT_takeB (i := 43) (oi := ⟨some 61, .indexAddr 28 (.tmp 56) (.tmp 60), _, _, _, _⟩) (v := undef) rfl (by kernel_rfl) (by kernel_rfl) (by kernel_rfl) (by kernel_rfl) (fun _ _ _ h => h) (Or.inr ⟨by rfl, rfl⟩) (by assumption) ?restR7c1x43
    try simp only [Act.put, List.setIfInBounds_toArray, List.set_cons_zero, List.set_cons_succ]
    refine wpAnyT_takeB (i := 44) (oi := ⟨some 62, .load 3 (.tmp 61), _, _, _, _⟩) (v := undef) rfl (by kernel_rfl) (by kernel_rfl) (by kernel_rfl) (by kernel_rfl) (fun _ _ _ h => h) (Or.inr ⟨by rfl, rfl⟩) (by assumption) ?restR7c1x44
    try simp only [Act.put, List.setIfInBounds_toArray, List.set_cons_zero, List.set_cons_succ]
    refine wpAnyT_takeB (i := 45) (oi := ⟨some 63, .binOp .eql 3 (.tmp 55) (.tmp 62) 3, _, _, _, _⟩) (v := undef) rfl (by kernel_rfl) (by kernel_rfl) (by kernel_rfl) (by kernel_rfl) (fun _ _ _ h => h) (Or.inr ⟨by rfl, rfl⟩) (by assumption) ?restR7c1x45
    try simp only [Act.put, List.setIfInBounds_toArray, List.set_cons_zero, List.set_cons_succ]
    refine wpAnyT_takeB (i := 46) (oi := ⟨some 64, .pick (.tmp 48) (.tmp 63) ((.const (.bool false))), _, _, _, _⟩) (v := ?vR7c1x46) rfl (by kernel_rfl) (by kernel_rfl) (by kernel_rfl) (by kernel_rfl) (fun _ _ _ h => h) (Or.inl ⟨by rfl, ?hyR7c1x46⟩) (by assumption) ?restR7c1x46
    case hyR7c1x46 => (intro w hSw; (try dsimp only at hSw); go_simp; try (with_reducible rfl))
    try simp only [Act.put, List.setIfInBounds_toArray, List.set_cons_zero, List.set_cons_succ]
    refine wpAnyT_done (by kernel_rfl) ?_ _
    go_wp2_with fail
    go_roundw
    case rel => exact ⟨k + 1, by go_num, hkn, (below_succ HA2.out (HXY.out HN.out)), HBy.out.trans ((Below.refl _ _).drew.mono HBy.out.size)⟩
    case measure => simp [intOf]; omega
  case pos =>
  by_cases hx1 : x < (vs.length : Int)
  case neg =>
    have HN : Hid (clash vs x y = false) := by show _ = _; unfold clash; simp; omega
    go_upto_region 7 with fail
    refine wp_region_T (fun w' => w'.cell? ⟨b, off + i, none⟩ = some (.int .i64 x) ∧ w'.cell? ⟨b, off + k, none⟩ = some (.int .i64 y)) (fun _ => True) [] (by kernel_rfl) ⟨HC2.out _ (Below.refl _ _).drew, trivial⟩ (fun hHeld => ?_)
    refine wpAnyT_takeB (i := 0) (oi := ⟨some 18, .move (.tmp 0), _, _, _, _⟩) (v := ?vR7c2x0) rfl (by kernel_rfl) (by kernel_rfl) (by kernel_rfl) (by kernel_rfl) (fun _ _ _ h => h) (Or.inl ⟨by rfl, ?hyR7c2x0⟩) (by assumption) ?restR7c2x0
    case hyR7c2x0 => (intro w hSw; (try dsimp only at hSw); go_simp; try (with_reducible rfl))
    try simp only [Act.put, List.setIfInBounds_toArray, List.set_cons_zero, List.set_cons_succ]
    refine wpAnyT_takeB (i := 1) (oi := ⟨some 19, .move (.tmp 5), _, _, _, _⟩) (v := ?vR7c2x1) rfl (by kernel_rfl) (by kernel_rfl) (by kernel_rfl) (by kernel_rfl) (fun _ _ _ h => h) (Or.inl ⟨by rfl, ?hyR7c2x1⟩) (by assumption) ?restR7c2x1
    case hyR7c2x1 => (intro w hSw; (try dsimp only at hSw); go_simp; try (with_reducible rfl))
    try simp only [Act.put, List.setIfInBounds_toArray, List.set_cons_zero, List.set_cons_succ]
    refine wpAnyT_takeB (i := 2) (oi := ⟨some 20, .indexAddr 28 (.tmp 18) (.tmp 19), _, _, _, _⟩) (v := ?vR7c2x2) rfl (by kernel_rfl) (by kernel_rfl) (by kernel_rfl) (by kernel_rfl) (fun _ _ _ h => h) (Or.inl ⟨by rfl, ?hyR7c2x2⟩) (by assumption) ?restR7c2x2
    case hyR7c2x2 => (intro w hSw; (try dsimp only at hSw); go_simp; try (with_reducible rfl))
    try simp only [Act.put, List.setIfInBounds_toArray, List.set_cons_zero, List.set_cons_succ]
    refine wpAnyT_takeB (i := 3) (oi := ⟨some 21, .load 3 (.tmp 20), _, _, _, _⟩) (v := ?vR7c2x3) rfl (by kernel_rfl) (by kernel_rfl) (by kernel_rfl) (by kernel_rfl) (fun _ _ _ h => h) (Or.inl ⟨by rfl, ?hyR7c2x3⟩) (by assumption) ?restR7c2x3
    case hyR7c2x3 => (intro w hSw; (try dsimp only at hSw); go_simp; try (with_reducible rfl))
    try simp only [Act.put, List.setIfInBounds_toArray, List.set_cons_zero, List.set_cons_succ]
    refine wpAnyT_takeB (i := 4) (oi := ⟨some 22, .binOp .geq 3 (.tmp 21) ((.const (.int .i64 0))) 3, _, _, _, _⟩) (v := ?vR7c2x4) rfl (by kernel_rfl) (by kernel_rfl) (by kernel_rfl) (by kernel_rfl) (fun _ _ _ h => h) (Or.inl ⟨by rfl, ?hyR7c2x4⟩) (by assumption) ?restR7c2x4
    case hyR7c2x4 => (intro w hSw; (try dsimp only at hSw); go_simp; try (with_reducible rfl))
    try simp only [Act.put, List.setIfInBounds_toArray, List.set_cons_zero, List.set_cons_succ]
    refine wpAnyT_takeB (i := 5) (oi := ⟨some 23, .move (.tmp 22), _, _, _, _⟩) (v := ?vR7c2x5) rfl (by kernel_rfl) (by kernel_rfl) (by kernel_rfl) (by kernel_rfl) (fun _ _ _ h => h) (Or.inl ⟨by rfl, ?hyR7c2x5⟩) (by assumption) ?restR7c2x5
    case hyR7c2x5 => (intro w hSw; (try dsimp only at hSw); go_simp; try (with_reducible rfl))
    try simp only [Act.put, List.setIfInBounds_toArray, List.set_cons_zero, List.set_cons_succ]
    refine wpAnyT_takeB (i := 6) (oi := ⟨some 24, .move (.tmp 0), _, _, _, _⟩) (v := ?vR7c2x6) rfl (by kernel_rfl) (by kernel_rfl) (by kernel_rfl) (by kernel_rfl) (fun _ _ _ h => h) (Or.inl ⟨by rfl, ?hyR7c2x6⟩) (by assumption) ?restR7c2x6
    case hyR7c2x6 => (intro w hSw; (try dsimp only at hSw); go_simp; try (with_reducible rfl))
    try simp only [Act.put, List.setIfInBounds_toArray, List.set_cons_zero, List.set_cons_succ]
    refine wpAnyT_takeB (i := 7) (oi := ⟨some 25, .move (.tmp 5), _, _, _, _⟩) (v := ?vR7c2x7) rfl (by kernel_rfl) (by kernel_rfl) (by kernel_rfl) (by kernel_rfl) (fun _ _ _ h => h) (Or.inl ⟨by rfl, ?hyR7c2x7⟩) (by assumption) ?restR7c2x7
    case hyR7c2x7 => (intro w hSw; (try dsimp only at hSw); go_simp; try (with_reducible rfl))
    try simp only [Act.put, List.setIfInBounds_toArray, List.set_cons_zero, List.set_cons_succ]
    refine wpAnyT_takeB (i := 8) (oi := ⟨some 26, .indexAddr 28 (.tmp 24) (.tmp 25), _, _, _, _⟩) (v := ?vR7c2x8) rfl (by kernel_rfl) (by kernel_rfl) (by kernel_rfl) (by kernel_rfl) (fun _ _ _ h => h) (Or.inl ⟨by rfl, ?hyR7c2x8⟩) (by assumption) ?restR7c2x8
    case hyR7c2x8 => (intro w hSw; (try dsimp only at hSw); go_simp; try (with_reducible rfl))
    try simp only [Act.put, List.setIfInBounds_toArray, List.set_cons_zero, List.set_cons_succ]
    refine wpAnyT_takeB (i := 9) (oi := ⟨some 27, .load 3 (.tmp 26), _, _, _, _⟩) (v := ?vR7c2x9) rfl (by kernel_rfl) (by kernel_rfl) (by kernel_rfl) (by kernel_rfl) (fun _ _ _ h => h) (Or.inl ⟨by rfl, ?hyR7c2x9⟩) (by assumption) ?restR7c2x9
    case hyR7c2x9 => (intro w hSw; (try dsimp only at hSw); go_simp; try (with_reducible rfl))
    try simp only [Act.put, List.setIfInBounds_toArray, List.set_cons_zero, List.set_cons_succ]
    refine wpAnyT_takeB (i := 10) (oi := ⟨some 28, .move (.tmp 1), _, _, _, _⟩) (v := ?vR7c2x10) rfl (by kernel_rfl) (by kernel_rfl) (by kernel_rfl) (by kernel_rfl) (fun _ _ _ h => h) (Or.inl ⟨by rfl, ?hyR7c2x10⟩) (by assumption) ?restR7c2x10
    case hyR7c2x10 => (intro w hSw; (try dsimp only at hSw); go_simp; try (with_reducible rfl))
    try simp only [Act.put, List.setIfInBounds_toArray, List.set_cons_zero, List.set_cons_succ]
    refine wpAnyT_takeB (i := 11) (oi := ⟨some 29, .call { callee := .builtin .len, args := #[(.tmp 28)], argTypes := #[28] }, _, _, _, _⟩) (v := ?vR7c2x11) rfl (by kernel_rfl) (by kernel_rfl) (by kernel_rfl) (by kernel_rfl) (fun _ _ _ h => h) (Or.inl ⟨by rfl, ?hyR7c2x11⟩) (by assumption) ?restR7c2x11
    case hyR7c2x11 => (intro w hSw; (try dsimp only at hSw); go_simp; try (with_reducible rfl))
    try simp only [Act.put, List.setIfInBounds_toArray, List.set_cons_zero, List.set_cons_succ]
    refine wpAnyT_takeB (i := 12) (oi := ⟨some 30, .binOp .lss 3 (.tmp 27) (.tmp 29) 3, _, _, _, _⟩) (v := ?vR7c2x12) rfl (by kernel_rfl) (by kernel_rfl) (by kernel_rfl) (by kernel_rfl) (fun _ _ _ h => h) (Or.inl ⟨by rfl, ?hyR7c2x12⟩) (by assumption) ?restR7c2x12
    case hyR7c2x12 => (intro w hSw; (try dsimp only at hSw); go_simp; try (with_reducible rfl))
    try simp only [Act.put, List.setIfInBounds_toArray, List.set_cons_zero, List.set_cons_succ]
    refine wpAnyT_takeB (i := 13) (oi := ⟨some 31, .pick (.tmp 23) (.tmp 30) ((.const (.bool false))), _, _, _, _⟩) (v := ?vR7c2x13) rfl (by kernel_rfl) (by kernel_rfl) (by kernel_rfl) (by kernel_rfl) (fun _ _ _ h => h) (Or.inl ⟨by rfl, ?hyR7c2x13⟩) (by assumption) ?restR7c2x13
    case hyR7c2x13 => (intro w hSw; (try dsimp only at hSw); go_simp; try (with_reducible rfl))
    try simp only [Act.put, List.setIfInBounds_toArray, List.set_cons_zero, List.set_cons_succ]
    refine wpAnyT_takeB (i := 14) (oi := ⟨some 32, .move (.tmp 31), _, _, _, _⟩) (v := ?vR7c2x14) rfl (by kernel_rfl) (by kernel_rfl) (by kernel_rfl) (by kernel_rfl) (fun _ _ _ h => h) (Or.inl ⟨by rfl, ?hyR7c2x14⟩) (by assumption) ?restR7c2x14
    case hyR7c2x14 => (intro w hSw; (try dsimp only at hSw); go_simp; try (with_reducible rfl))
    try simp only [Act.put, List.setIfInBounds_toArray, List.set_cons_zero, List.set_cons_succ]
    refine wpAnyT_takeB (i := 15) (oi := ⟨some 33, .move (.tmp 0), _, _, _, _⟩) (v := undef) rfl (by kernel_rfl) (by kernel_rfl) (by kernel_rfl) (by kernel_rfl) (fun _ _ _ h => h) (Or.inr ⟨by rfl, rfl⟩) (by assumption) ?restR7c2x15
    try simp only [Act.put, List.setIfInBounds_toArray, List.set_cons_zero, List.set_cons_succ]
    refine wpAnyT_takeB (i := 16) (oi := ⟨some 34, .move (.tmp 6), _, _, _, _⟩) (v := undef) rfl (by kernel_rfl) (by kernel_rfl) (by kernel_rfl) (by kernel_rfl) (fun _ _ _ h => h) (Or.inr ⟨by rfl, rfl⟩) (by assumption) ?restR7c2x16
    try simp only [Act.put, List.setIfInBounds_toArray, List.set_cons_zero, List.set_cons_succ]
    refine wpAnyT_takeB (i := 17) (oi := ⟨some 35, .indexAddr 28 (.tmp 33) (.tmp 34), _, _, _, _⟩) (v := undef) rfl (by kernel_rfl) (by kernel_rfl) (by kernel_rfl) (by kernel_rfl) (fun _ _ _ h => h) (Or.inr ⟨by rfl, rfl⟩) (by assumption) ?restR7c2x17
    try simp only [Act.put, List.setIfInBounds_toArray, List.set_cons_zero, List.set_cons_succ]
    refine wpAnyT_takeB (i := 18) (oi := ⟨some 36, .load 3 (.tmp 35), _, _, _, _⟩) (v := undef) rfl (by kernel_rfl) (by kernel_rfl) (by kernel_rfl) (by kernel_rfl) (fun _ _ _ h => h) (Or.inr ⟨by rfl, rfl⟩) (by assumption) ?restR7c2x18
    try simp only [Act.put, List.setIfInBounds_toArray, List.set_cons_zero, List.set_cons_succ]
    refine wpAnyT_takeB (i := 19) (oi := ⟨some 37, .binOp .geq 3 (.tmp 36) ((.const (.int .i64 0))) 3, _, _, _, _⟩) (v := undef) rfl (by kernel_rfl) (by kernel_rfl) (by kernel_rfl) (by kernel_rfl) (fun _ _ _ h => h) (Or.inr ⟨by rfl, rfl⟩) (by assumption) ?restR7c2x19
    try simp only [Act.put, List.setIfInBounds_toArray, List.set_cons_zero, List.set_cons_succ]
    refine wpAnyT_takeB (i := 20) (oi := ⟨some 38, .pick (.tmp 32) (.tmp 37) ((.const (.bool false))), _, _, _, _⟩) (v := ?vR7c2x20) rfl (by kernel_rfl) (by kernel_rfl) (by kernel_rfl) (by kernel_rfl) (fun _ _ _ h => h) (Or.inl ⟨by rfl, ?hyR7c2x20⟩) (by assumption) ?restR7c2x20
    case hyR7c2x20 => (intro w hSw; (try dsimp only at hSw); go_simp; try (with_reducible rfl))
    try simp only [Act.put, List.setIfInBounds_toArray, List.set_cons_zero, List.set_cons_succ]
    refine wpAnyT_takeB (i := 21) (oi := ⟨some 39, .move (.tmp 38), _, _, _, _⟩) (v := ?vR7c2x21) rfl (by kernel_rfl) (by kernel_rfl) (by kernel_rfl) (by kernel_rfl) (fun _ _ _ h => h) (Or.inl ⟨by rfl, ?hyR7c2x21⟩) (by assumption) ?restR7c2x21
    case hyR7c2x21 => (intro w hSw; (try dsimp only at hSw); go_simp; try (with_reducible rfl))
    try simp only [Act.put, List.setIfInBounds_toArray, List.set_cons_zero, List.set_cons_succ]
    refine wpAnyT_takeB (i := 22) (oi := ⟨some 40, .move (.tmp 0), _, _, _, _⟩) (v := undef) rfl (by kernel_rfl) (by kernel_rfl) (by kernel_rfl) (by kernel_rfl) (fun _ _ _ h => h) (Or.inr ⟨by rfl, rfl⟩) (by assumption) ?restR7c2x22
    try simp only [Act.put, List.setIfInBounds_toArray, List.set_cons_zero, List.set_cons_succ]
    refine wpAnyT_takeB (i := 23) (oi := ⟨some 41, .move (.tmp 6), _, _, _, _⟩) (v := undef) rfl (by kernel_rfl) (by kernel_rfl) (by kernel_rfl) (by kernel_rfl) (fun _ _ _ h => h) (Or.inr ⟨by rfl, rfl⟩) (by assumption) ?restR7c2x23
    try simp only [Act.put, List.setIfInBounds_toArray, List.set_cons_zero, List.set_cons_succ]
    refine wpAnyT_takeB (i := 24) (oi := ⟨some 42, .indexAddr 28 (.tmp 40) (.tmp 41), _, _, _, _⟩) (v := undef) rfl (by kernel_rfl) (by kernel_rfl) (by kernel_rfl) (by kernel_rfl) (fun _ _ _ h => h) (Or.inr ⟨by rfl, rfl⟩) (by assumption) ?restR7c2x24
    try simp only [Act.put, List.setIfInBounds_toArray, List.set_cons_zero, List.set_cons_succ]
    refine wpAnyT_takeB (i := 25) (oi := ⟨some 43, .load 3 (.tmp 42), _, _, _, _⟩) (v := undef) rfl (by kernel_rfl) (by kernel_rfl) (by kernel_rfl) (by kernel_rfl) (fun _ _ _ h => h) (Or.inr ⟨by rfl, rfl⟩) (by assumption) ?restR7c2x25
    try simp only [Act.put, List.setIfInBounds_toArray, List.set_cons_zero, List.set_cons_succ]
    refine wpAnyT_takeB (i := 26) (oi := ⟨some 44, .move (.tmp 1), _, _, _, _⟩) (v := undef) rfl (by kernel_rfl) (by kernel_rfl) (by kernel_rfl) (by kernel_rfl) (fun _ _ _ h => h) (Or.inr ⟨by rfl, rfl⟩) (by assumption) ?restR7c2x26
    try simp only [Act.put, List.setIfInBounds_toArray, List.set_cons_zero, List.set_cons_succ]
    refine wpAnyT_takeB (i := 27) (oi := ⟨some 45, .call { callee := .builtin .len, args := #[(.tmp 44)], argTypes := #[28] }, _, _, _, _⟩) (v := undef) rfl (by kernel_rfl) (by kernel_rfl) (by kernel_rfl) (by kernel_rfl) (fun _ _ _ h => h) (Or.inr ⟨by rfl, rfl⟩) (by assumption) ?restR7c2x27
    try simp only [Act.put, List.setIfInBounds_toArray, List.set_cons_zero, List.set_cons_succ]
    refine wpAnyT_takeB (i := 28) (oi := ⟨some 46, .binOp .lss 3 (.tmp 43) (.tmp 45) 3, _, _, _, _⟩) (v := undef) rfl (by kernel_rfl) (by kernel_rfl) (by kernel_rfl) (by kernel_rfl) (fun _ _ _ h => h) (Or.inr ⟨by rfl, rfl⟩) (by assumption) ?restR7c2x28
    try simp only [Act.put, List.setIfInBounds_toArray, List.set_cons_zero, List.set_cons_succ]
    refine wpAnyT_takeB (i := 29) (oi := ⟨some 47, .pick (.tmp 39) (.tmp 46) ((.const (.bool false))), _, _, _, _⟩) (v := ?vR7c2x29) rfl (by kernel_rfl) (by kernel_rfl) (by kernel_rfl) (by kernel_rfl) (fun _ _ _ h => h) (Or.inl ⟨by rfl, ?hyR7c2x29⟩) (by assumption) ?restR7c2x29
    case hyR7c2x29 => (intro w hSw; (try dsimp only at hSw); go_simp; try (with_reducible rfl))
    try simp only [Act.put, List.setIfInBounds_toArray, List.set_cons_zero, List.set_cons_succ]
    refine wpAnyT_takeB (i := 30) (oi := ⟨some 48, .move (.tmp 47), _, _, _, _⟩) (v := ?vR7c2x30) rfl (by kernel_rfl) (by kernel_rfl) (by kernel_rfl) (by kernel_rfl) (fun _ _ _ h => h) (Or.inl ⟨by rfl, ?hyR7c2x30⟩) (by assumption) ?restR7c2x30
    case hyR7c2x30 => (intro w hSw; (try dsimp only at hSw); go_simp; try (with_reducible rfl))
    try simp only [Act.put, List.setIfInBounds_toArray, List.set_cons_zero, List.set_cons_succ]
    refine wpAnyT_takeB (i := 31) (oi := ⟨some 49, .move (.tmp 1), _, _, _, _⟩) (v := undef) rfl (by kernel_rfl) (by kernel_rfl) (by kernel_rfl) (by kernel_rfl) (fun _ _ _ h => h) (Or.inr ⟨by rfl, rfl⟩) (by assumption) ?restR7c2x31
    try simp only [Act.put, List.setIfInBounds_toArray, List.set_cons_zero, List.set_cons_succ]
    refine wpAnyT_takeB (i := 32) (oi := ⟨some 50, .move (.tmp 0), _, _, _, _⟩) (v := undef) rfl (by kernel_rfl) (by kernel_rfl) (by kernel_rfl) (by kernel_rfl) (fun _ _ _ h => h) (Or.inr ⟨by rfl, rfl⟩) (by assumption) ?restR7c2x32
    try simp only [Act.put, List.setIfInBounds_toArray, List.set_cons_zero, List.set_cons_succ]
    refine wpAnyT_takeB (i := 33) (oi := ⟨some 51, .move (.tmp 5), _, _, _, _⟩) (v := undef) rfl (by kernel_rfl) (by kernel_rfl) (by kernel_rfl) (by kernel_rfl) (fun _ _ _ h => h) (Or.inr ⟨by rfl, rfl⟩) (by assumption) ?restR7c2x33
    try simp only [Act.put, List.setIfInBounds_toArray, List.set_cons_zero, List.set_cons_succ]
    refine wpAnyT_takeB (i := 34) (oi := ⟨some 52, .indexAddr 28 (.tmp 50) (.tmp 51), _, _, _, _⟩) (v := undef) rfl (by kernel_rfl) (by kernel_rfl) (by kernel_rfl) (by kernel_rfl) (fun _ _ _ h => h) (Or.inr ⟨by rfl, rfl⟩) (by assumption) ?restR7c2x34
    try simp only [Act.put, List.setIfInBounds_toArray, List.set_cons_zero, List.set_cons_succ]
    refine wpAnyT_takeB (i := 35) (oi := ⟨some 53, .load 3 (.tmp 52), _, _, _, _⟩) (v := undef) rfl (by kernel_rfl) (by kernel_rfl) (by kernel_rfl) (by kernel_rfl) (fun _ _ _ h => h) (Or.inr ⟨by rfl, rfl⟩) (by assumption) ?restR7c2x35
    try simp only [Act.put, List.setIfInBounds_toArray, List.set_cons_zero, List.set_cons_succ]
    refine wpAnyT_takeB (i := 36) (oi := ⟨some 54, .indexAddr 28 (.tmp 49) (.tmp 53), _, _, _, _⟩) (v := undef) rfl (by kernel_rfl) (by kernel_rfl) (by kernel_rfl) (by kernel_rfl) (fun _ _ _ h => h) (Or.inr ⟨by rfl, rfl⟩) (by assumption) ?restR7c2x36
    try simp only [Act.put, List.setIfInBounds_toArray, List.set_cons_zero, List.set_cons_succ]
    refine wpAnyT_takeB (i := 37) (oi := ⟨some 55, .load 3 (.tmp 54), _, _, _, _⟩) (v := undef) rfl (by kernel_rfl) (by kernel_rfl) (by kernel_rfl) (by kernel_rfl) (fun _ _ _ h => h) (Or.inr ⟨by rfl, rfl⟩) (by assumption) ?restR7c2x37
    try simp only [Act.put, List.setIfInBounds_toArray, List.set_cons_zero, List.set_cons_succ]
    refine wpAnyT_takeB (i := 38) (oi := ⟨some 56, .move (.tmp 1), _, _, _, _⟩) (v := undef) rfl (by kernel_rfl) (by kernel_rfl) (by kernel_rfl) (by kernel_rfl) (fun _ _ _ h => h) (Or.inr ⟨by rfl, rfl⟩) (by assumption) ?restR7c2x38
    try simp only [Act.put, List.setIfInBounds_toArray, List.set_cons_zero, List.set_cons_succ]
    refine wpAnyT_takeB (i := 39) (oi := ⟨some 57, .move (.tmp 0), _, _, _, _⟩) (v := undef) rfl (by kernel_rfl) (by kernel_rfl) (by kernel_rfl) (by kernel_rfl) (fun _ _ _ h => h) (Or.inr ⟨by rfl, rfl⟩) (by assumption) ?restR7c2x39
    try simp only [Act.put, List.setIfInBounds_toArray, List.set_cons_zero, List.set_cons_succ]
    refine wpAnyT_takeB (i := 40) (oi := ⟨some 58, .move (.tmp 6), _, _, _, _⟩) (v := undef) rfl (by kernel_rfl) (by kernel_rfl) (by kernel_rfl) (by kernel_rfl) (fun _ _ _ h => h) (Or.inr ⟨by rfl, rfl⟩) (by assumption) ?restR7c2x40
    try simp only [Act.put, List.setIfInBounds_toArray, List.set_cons_zero, List.set_cons_succ]
    refine wpAnyT_takeB (i := 41) (oi := ⟨some 59, .indexAddr 28 (.tmp 57) (.tmp 58), _, _, _, _⟩) (v := undef) rfl (by kernel_rfl) (by kernel_rfl) (by kernel_rfl) (by kernel_rfl) (fun _ _ _ h => h) (Or.inr ⟨by rfl, rfl⟩) (by assumption) ?restR7c2x41
    try simp only [Act.put, List.setIfInBounds_toArray, List.set_cons_zero, List.set_cons_succ]
    refine wpAnyT_takeB (i := 42) (oi := ⟨some 60, .load 3 (.tmp 59), _, _, _, _⟩) (v := undef) rfl (by kernel_rfl) (by kernel_rfl) (by kernel_rfl) (by kernel_rfl) (fun _ _ _ h => h) (Or.inr ⟨by rfl, rfl⟩) (by assumption) ?restR7c2x42
    try simp only [Act.put, List.setIfInBounds_toArray, List.set_cons_zero, List.set_cons_succ]
    refine wpAnyT_takeB (i := 43) (oi := ⟨some 61, .indexAddr 28 (.tmp 56) (.tmp 60), _, _, _, _⟩) (v := undef) rfl (by kernel_rfl) (by kernel_rfl) (by kernel_rfl) (by kernel_rfl) (fun _ _ _ h => h) (Or.inr ⟨by rfl, rfl⟩) (by assumption) ?restR7c2x43
    try simp only [Act.put, List.setIfInBounds_toArray, List.set_cons_zero, List.set_cons_succ]
    refine wpAnyT_takeB (i := 44) (oi := ⟨some 62, .load 3 (.tmp 61), _, _, _, _⟩) (v := undef) rfl (by kernel_rfl) (by kernel_rfl) (by kernel_rfl) (by kernel_rfl) (fun _ _ _ h => h) (Or.inr ⟨by rfl, rfl⟩) (by assumption) ?restR7c2x44
    try simp only [Act.put, List.setIfInBounds_toArray, List.set_cons_zero, List.set_cons_succ]
    refine wpAnyT_takeB (i := 45) (oi := ⟨some 63, .binOp .eql 3 (.tmp 55) (.tmp 62) 3, _, _, _, _⟩) (v := undef) rfl (by kernel_rfl) (by kernel_rfl) (by kernel_rfl) (by kernel_rfl) (fun _ _ _ h => h) (Or.inr ⟨by rfl, rfl⟩) (by assumption) ?restR7c2x45
    try simp only [Act.put, List.setIfInBounds_toArray, List.set_cons_zero, List.set_cons_succ]
    refine wpAnyT_takeB (i := 46) (oi := ⟨some 64, .pick (.tmp 48) (.tmp 63) ((.const (.bool false))), _, _, _, _⟩) (v := ?vR7c2x46) rfl (by kernel_rfl) (by kernel_rfl) (by kernel_rfl) (by kernel_rfl) (fun _ _ _ h => h) (Or.inl ⟨by rfl, ?hyR7c2x46⟩) (by assumption) ?restR7c2x46
    case hyR7c2x46 => (intro w hSw; (try dsimp only at hSw); go_simp; try (with_reducible rfl))
    try simp only [Act.put, List.setIfInBounds_toArray, List.set_cons_zero, List.set_cons_succ]
    refine wpAnyT_done (by kernel_rfl) ?_ _
    go_wp2_with fail
    go_roundw
    case rel => exact ⟨k + 1, by go_num, hkn, (below_succ HA2.out (HXY.out HN.out)), HBy.out.trans ((Below.refl _ _).drew.mono HBy.out.size)⟩
    case measure => simp [intOf]; omega
  case pos =>
  by_cases hy0 : 0 ≤ y
  case neg =>
    have HN : Hid (clash vs x y = false) := by show _ = _; unfold clash; simp; omega
    go_upto_region 7 with fail
    refine wp_region_T (fun w' => w'.cell? ⟨b, off + i, none⟩ = some (.int .i64 x) ∧ w'.cell? ⟨b, off + k, none⟩ = some (.int .i64 y)) (fun _ => True) [] (by kernel_rfl) ⟨HC2.out _ (Below.refl _ _).drew, trivial⟩ (fun hHeld => ?_)
    refine wpAnyT_takeB (i := 0) (oi := ⟨some 18, .move (.tmp 0), _, _, _, _⟩) (v := ?vR7c3x0) rfl (by kernel_rfl) (by kernel_rfl) (by kernel_rfl) (by kernel_rfl) (fun _ _ _ h => h) (Or.inl ⟨by rfl, ?hyR7c3x0⟩) (by assumption) ?restR7c3x0
    case hyR7c3x0 => (intro w hSw; (try dsimp only at hSw); go_simp; try (with_reducible rfl))
    try simp only [Act.put, List.setIfInBounds_toArray, List.set_cons_zero, List.set_cons_succ]
    refine wpAnyT_takeB (i := 1) (oi := ⟨some 19, .move (.tmp 5), _, _, _, _⟩) (v := ?vR7c3x1) rfl (by kernel_rfl) (by kernel_rfl) (by kernel_rfl) (by kernel_rfl) (fun _ _ _ h => h) (Or.inl ⟨by rfl, ?hyR7c3x1⟩) (by assumption) ?restR7c3x1
    case hyR7c3x1 => (intro w hSw; (try dsimp only at hSw); go_simp; try (with_reducible rfl))
    try simp only [Act.put, List.setIfInBounds_toArray, List.set_cons_zero, List.set_cons_succ]
    refine wpAnyT_takeB (i := 2) (oi := ⟨some 20, .indexAddr 28 (.tmp 18) (.tmp 19), _, _, _, _⟩) (v := ?vR7c3x2) rfl (by kernel_rfl) (by kernel_rfl) (by kernel_rfl) (by kernel_rfl) (fun _ _ _ h => h) (Or.inl ⟨by rfl, ?hyR7c3x2⟩) (by assumption) ?restR7c3x2
    case hyR7c3x2 => (intro w hSw; (try dsimp only at hSw); go_simp; try (with_reducible rfl))
    try simp only [Act.put, List.setIfInBounds_toArray, List.set_cons_zero, List.set_cons_succ]
    refine wpAnyT_takeB (i := 3) (oi := ⟨some 21, .load 3 (.tmp 20), _, _, _, _⟩) (v := ?vR7c3x3) rfl (by kernel_rfl) (by kernel_rfl) (by kernel_rfl) (by kernel_rfl) (fun _ _ _ h => h) (Or.inl ⟨by rfl, ?hyR7c3x3⟩) (by assumption) ?restR7c3x3
    case hyR7c3x3 => (intro w hSw; (try dsimp only at hSw); go_simp; try (with_reducible rfl))
    try simp only [Act.put, List.setIfInBounds_toArray, List.set_cons_zero, List.set_cons_succ]
    refine wpAnyT_takeB (i := 4) (oi := ⟨some 22, .binOp .geq 3 (.tmp 21) ((.const (.int .i64 0))) 3, _, _, _, _⟩) (v := ?vR7c3x4) rfl (by kernel_rfl) (by kernel_rfl) (by kernel_rfl) (by kernel_rfl) (fun _ _ _ h => h) (Or.inl ⟨by rfl, ?hyR7c3x4⟩) (by assumption) ?restR7c3x4
    case hyR7c3x4 => (intro w hSw; (try dsimp only at hSw); go_simp; try (with_reducible rfl))
    try simp only [Act.put, List.setIfInBounds_toArray, List.set_cons_zero, List.set_cons_succ]
    refine wpAnyT_takeB (i := 5) (oi := ⟨some 23, .move (.tmp 22), _, _, _, _⟩) (v := ?vR7c3x5) rfl (by kernel_rfl) (by kernel_rfl) (by kernel_rfl) (by kernel_rfl) (fun _ _ _ h => h) (Or.inl ⟨by rfl, ?hyR7c3x5⟩) (by assumption) ?restR7c3x5
    case hyR7c3x5 => (intro w hSw; (try dsimp only at hSw); go_simp; try (with_reducible rfl))
    try simp only [Act.put, List.setIfInBounds_toArray, List.set_cons_zero, List.set_cons_succ]
    refine wpAnyT_takeB (i := 6) (oi := ⟨some 24, .move (.tmp 0), _, _, _, _⟩) (v := ?vR7c3x6) rfl (by kernel_rfl) (by kernel_rfl) (by kernel_rfl) (by kernel_rfl) (fun _ _ _ h => h) (Or.inl ⟨by rfl, ?hyR7c3x6⟩) (by assumption) ?restR7c3x6
    case hyR7c3x6 => (intro w hSw; (try dsimp only at hSw); go_simp; try (with_reducible rfl))
    try simp only [Act.put, List.setIfInBounds_toArray, List.set_cons_zero, List.set_cons_succ]
    refine wpAnyT_takeB (i := 7) (oi := ⟨some 25, .move (.tmp 5), _, _, _, _⟩) (v := ?vR7c3x7) rfl (by kernel_rfl) (by kernel_rfl) (by kernel_rfl) (by kernel_rfl) (fun _ _ _ h => h) (Or.inl ⟨by rfl, ?hyR7c3x7⟩) (by assumption) ?restR7c3x7
    case hyR7c3x7 => (intro w hSw; (try dsimp only at hSw); go_simp; try (with_reducible rfl))
    try simp only [Act.put, List.setIfInBounds_toArray, List.set_cons_zero, List.set_cons_succ]
    refine wpAnyT_takeB (i := 8) (oi := ⟨some 26, .indexAddr 28 (.tmp 24) (.tmp 25), _, _, _, _⟩) (v := ?vR7c3x8) rfl (by kernel_rfl) (by kernel_rfl) (by kernel_rfl) (by kernel_rfl) (fun _ _ _ h => h) (Or.inl ⟨by rfl, ?hyR7c3x8⟩) (by assumption) ?restR7c3x8
    case hyR7c3x8 => (intro w hSw; (try dsimp only at hSw); go_simp; try (with_reducible rfl))
    try simp only [Act.put, List.setIfInBounds_toArray, List.set_cons_zero, List.set_cons_succ]
    refine wpAnyT_takeB (i := 9) (oi := ⟨some 27, .load 3 (.tmp 26), _, _, _, _⟩) (v := ?vR7c3x9) rfl (by kernel_rfl) (by kernel_rfl) (by kernel_rfl) (by kernel_rfl) (fun _ _ _ h => h) (Or.inl ⟨by rfl, ?hyR7c3x9⟩) (by assumption) ?restR7c3x9
    case hyR7c3x9 => (intro w hSw; (try dsimp only at hSw); go_simp; try (with_reducible rfl))
    try simp only [Act.put, List.setIfInBounds_toArray, List.set_cons_zero, List.set_cons_succ]
    refine wpAnyT_takeB (i := 10) (oi := ⟨some 28, .move (.tmp 1), _, _, _, _⟩) (v := ?vR7c3x10) rfl (by kernel_rfl) (by kernel_rfl) (by kernel_rfl) (by kernel_rfl) (fun _ _ _ h => h) (Or.inl ⟨by rfl, ?hyR7c3x10⟩) (by assumption) ?restR7c3x10
    case hyR7c3x10 => (intro w hSw; (try dsimp only at hSw); go_simp; try (with_reducible rfl))
    try simp only [Act.put, List.setIfInBounds_toArray, List.set_cons_zero, List.set_cons_succ]
    refine wpAnyT_takeB (i := 11) (oi := ⟨some 29, .call { callee := .builtin .len, args := #[(.tmp 28)], argTypes := #[28] }, _, _, _, _⟩) (v := ?vR7c3x11) rfl (by kernel_rfl) (by kernel_rfl) (by kernel_rfl) (by kernel_rfl) (fun _ _ _ h => h) (Or.inl ⟨by rfl, ?hyR7c3x11⟩) (by assumption) ?restR7c3x11
    case hyR7c3x11 => (intro w hSw; (try dsimp only at hSw); go_simp; try (with_reducible rfl))
    try simp only [Act.put, List.setIfInBounds_toArray, List.set_cons_zero, List.set_cons_succ]
    refine wpAnyT_takeB (i := 12) (oi := ⟨some 30, .binOp .lss 3 (.tmp 27) (.tmp 29) 3, _, _, _, _⟩) (v := ?vR7c3x12) rfl (by kernel_rfl) (by kernel_rfl) (by kernel_rfl) (by kernel_rfl) (fun _ _ _ h => h) (Or.inl ⟨by rfl, ?hyR7c3x12⟩) (by assumption) ?restR7c3x12
    case hyR7c3x12 => (intro w hSw; (try dsimp only at hSw); go_simp; try (with_reducible rfl))
    try simp only [Act.put, List.setIfInBounds_toArray, List.set_cons_zero, List.set_cons_succ]
    refine wpAnyT_takeB (i := 13) (oi := ⟨some 31, .pick (.tmp 23) (.tmp 30) ((.const (.bool false))), _, _, _, _⟩) (v := ?vR7c3x13) rfl (by kernel_rfl) (by kernel_rfl) (by kernel_rfl) (by kernel_rfl) (fun _ _ _ h => h) (Or.inl ⟨by rfl, ?hyR7c3x13⟩) (by assumption) ?restR7c3x13
    case hyR7c3x13 => (intro w hSw; (try dsimp only at hSw); go_simp; try (with_reducible rfl))
    try simp only [Act.put, List.setIfInBounds_toArray, List.set_cons_zero, List.set_cons_succ]
    refine wpAnyT_takeB (i := 14) (oi := ⟨some 32, .move (.tmp 31), _, _, _, _⟩) (v := ?vR7c3x14) rfl (by kernel_rfl) (by kernel_rfl) (by kernel_rfl) (by kernel_rfl) (fun _ _ _ h => h) (Or.inl ⟨by rfl, ?hyR7c3x14⟩) (by assumption) ?restR7c3x14
    case hyR7c3x14 => (intro w hSw; (try dsimp only at hSw); go_simp; try (with_reducible rfl))
    try simp only [Act.put, List.setIfInBounds_toArray, List.set_cons_zero, List.set_cons_succ]
    refine wpAnyT_takeB (i := 15) (oi := ⟨some 33, .move (.tmp 0), _, _, _, _⟩) (v := ?vR7c3x15) rfl (by kernel_rfl) (by kernel_rfl) (by kernel_rfl) (by kernel_rfl) (fun _ _ _ h => h) (Or.inl ⟨by rfl, ?hyR7c3x15⟩) (by assumption) ?restR7c3x15
    case hyR7c3x15 => (intro w hSw; (try dsimp only at hSw); go_simp; try (with_reducible rfl))
    try simp only [Act.put, List.setIfInBounds_toArray, List.set_cons_zero, List.set_cons_succ]
    refine wpAnyT_takeB (i := 16) (oi := ⟨some 34, .move (.tmp 6), _, _, _, _⟩) (v := ?vR7c3x16) rfl (by kernel_rfl) (by kernel_rfl) (by kernel_rfl) (by kernel_rfl) (fun _ _ _ h => h) (Or.inl ⟨by rfl, ?hyR7c3x16⟩) (by assumption) ?restR7c3x16
    case hyR7c3x16 => (intro w hSw; (try dsimp only at hSw); go_simp; try (with_reducible rfl))
    try simp only [Act.put, List.setIfInBounds_toArray, List.set_cons_zero, List.set_cons_succ]
    refine wpAnyT_takeB (i := 17) (oi := ⟨some 35, .indexAddr 28 (.tmp 33) (.tmp 34), _, _, _, _⟩) (v := ?vR7c3x17) rfl (by kernel_rfl) (by kernel_rfl) (by kernel_rfl) (by kernel_rfl) (fun _ _ _ h => h) (Or.inl ⟨by rfl, ?hyR7c3x17⟩) (by assumption) ?restR7c3x17
    case hyR7c3x17 => (intro w hSw; (try dsimp only at hSw); go_simp; try (with_reducible rfl))
    try simp only [Act.put, List.setIfInBounds_toArray, List.set_cons_zero, List.set_cons_succ]
    refine wpAnyT_takeB (i := 18) (oi := ⟨some 36, .load 3 (.tmp 35), _, _, _, _⟩) (v := ?vR7c3x18) rfl (by kernel_rfl) (by kernel_rfl) (by kernel_rfl) (by kernel_rfl) (fun _ _ _ h => h) (Or.inl ⟨by rfl, ?hyR7c3x18⟩) (by assumption) ?restR7c3x18
    case hyR7c3x18 => (intro w hSw; (try dsimp only at hSw); go_simp; try (with_reducible rfl))
    try simp only [Act.put, List.setIfInBounds_toArray, List.set_cons_zero, List.set_cons_succ]
    refine wpAnyT_takeB (i := 19) (oi := ⟨some 37, .binOp .geq 3 (.tmp 36) ((.const (.int .i64 0))) 3, _, _, _, _⟩) (v := ?vR7c3x19) rfl (by kernel_rfl) (by kernel_rfl) (by kernel_rfl) (by kernel_rfl) (fun _ _ _ h => h) (Or.inl ⟨by rfl, ?hyR7c3x19⟩) (by assumption) ?restR7c3x19
    case hyR7c3x19 => (intro w hSw; (try dsimp only at hSw); go_simp; try (with_reducible rfl))
    try simp only [Act.put, List.setIfInBounds_toArray, List.set_cons_zero, List.set_cons_succ]
    refine wpAnyT_takeB (i := 20) (oi := ⟨some 38, .pick (.tmp 32) (.tmp 37) ((.const (.bool false))), _, _, _, _⟩) (v := ?vR7c3x20) rfl (by kernel_rfl) (by kernel_rfl) (by kernel_rfl) (by kernel_rfl) (fun _ _ _ h => h) (Or.inl ⟨by rfl, ?hyR7c3x20⟩) (by assumption) ?restR7c3x20
    case hyR7c3x20 => (intro w hSw; (try dsimp only at hSw); go_simp; try (with_reducible rfl))
    try simp only [Act.put, List.setIfInBounds_toArray, List.set_cons_zero, List.set_cons_succ]
    refine wpAnyT_takeB (i := 21) (oi := ⟨some 39, .move (.tmp 38), _, _, _, _⟩) (v := ?vR7c3x21) rfl (by kernel_rfl) (by kernel_rfl) (by kernel_rfl) (by kernel_rfl) (fun _ _ _ h => h) (Or.inl ⟨by rfl, ?hyR7c3x21⟩) (by assumption) ?restR7c3x21
    case hyR7c3x21 => (intro w hSw; (try dsimp only at hSw); go_simp; try (with_reducible rfl))
    try simp only [Act.put, List.setIfInBounds_toArray, List.set_cons_zero, List.set_cons_succ]
    refine wpAnyT_takeB (i := 22) (oi := ⟨some 40, .move (.tmp 0), _, _, _, _⟩) (v := undef) rfl (by kernel_rfl) (by kernel_rfl) (by kernel_rfl) (by kernel_rfl) (fun _ _ _ h => h) (Or.inr ⟨by rfl, rfl⟩) (by assumption) ?restR7c3x22
    try simp only [Act.put, List.setIfInBounds_toArray, List.set_cons_zero, List.set_cons_succ]
    refine wpAnyT_takeB (i := 23) (oi := ⟨some 41, .move (.tmp 6), _, _, _, _⟩) (v := undef) rfl (by kernel_rfl) (by kernel_rfl) (by kernel_rfl) (by kernel_rfl) (fun _ _ _ h => h) (Or.inr ⟨by rfl, rfl⟩) (by assumption) ?restR7c3x23
    try simp only [Act.put, List.setIfInBounds_toArray, List.set_cons_zero, List.set_cons_succ]
    refine wpAnyT_takeB (i := 24) (oi := ⟨some 42, .indexAddr 28 (.tmp 40) (.tmp 41), _, _, _, _⟩) (v := undef) rfl (by kernel_rfl) (by kernel_rfl) (by kernel_rfl) (by kernel_rfl) (fun _ _ _ h => h) (Or.inr ⟨by rfl, rfl⟩) (by assumption) ?restR7c3x24
    try simp only [Act.put, List.setIfInBounds_toArray, List.set_cons_zero, List.set_cons_succ]
    refine wpAnyT_takeB (i := 25) (oi := ⟨some 43, .load 3 (.tmp 42), _, _, _, _⟩) (v := undef) rfl (by kernel_rfl) (by kernel_rfl) (by kernel_rfl) (by kernel_rfl) (fun _ _ _ h => h) (Or.inr ⟨by rfl, rfl⟩) (by assumption) ?restR7c3x25
    try simp only [Act.put, List.setIfInBounds_toArray, List.set_cons_zero, List.set_cons_succ]
    refine wpAnyT_takeB (i := 26) (oi := ⟨some 44, .move (.tmp 1), _, _, _, _⟩) (v := undef) rfl (by kernel_rfl) (by kernel_rfl) (by kernel_rfl) (by kernel_rfl) (fun _ _ _ h => h) (Or.inr ⟨by rfl, rfl⟩) (by assumption) ?restR7c3x26
    try simp only [Act.put, List.setIfInBounds_toArray, List.set_cons_zero, List.set_cons_succ]
    refine wpAnyT_takeB (i := 27) (oi := ⟨some 45, .call { callee := .builtin .len, args := #[(.tmp 44)], argTypes := #[28] }, _, _, _, _⟩) (v := undef) rfl (by kernel_rfl) (by kernel_rfl) (by kernel_rfl) (by kernel_rfl) (fun _ _ _ h => h) (Or.inr ⟨by rfl, rfl⟩) (by assumption) ?restR7c3x27
    try simp only [Act.put, List.setIfInBounds_toArray, List.set_cons_zero, List.set_cons_succ]
    refine wpAnyT_takeB (i := 28) (oi := ⟨some 46, .binOp .lss 3 (.tmp 43) (.tmp 45) 3, _, _, _, _⟩) (v := undef) rfl (by kernel_rfl) (by kernel_rfl) (by kernel_rfl) (by kernel_rfl) (fun _ _ _ h => h) (Or.inr ⟨by rfl, rfl⟩) (by assumption) ?restR7c3x28
    try simp only [Act.put, List.setIfInBounds_toArray, List.set_cons_zero, List.set_cons_succ]
    refine wpAnyT_takeB (i := 29) (oi := ⟨some 47, .pick (.tmp 39) (.tmp 46) ((.const (.bool false))), _, _, _, _⟩) (v := ?vR7c3x29) rfl (by kernel_rfl) (by kernel_rfl) (by kernel_rfl) (by kernel_rfl) (fun _ _ _ h => h) (Or.inl ⟨by rfl, ?hyR7c3x29⟩) (by assumption) ?restR7c3x29
    case hyR7c3x29 => (intro w hSw; (try dsimp only at hSw); go_simp; try (with_reducible rfl))
    try simp only [Act.put, List.setIfInBounds_toArray, List.set_cons_zero, List.set_cons_succ]
    refine wpAnyT_takeB (i := 30) (oi := ⟨some 48, .move (.tmp 47), _, _, _, _⟩) (v := ?vR7c3x30) rfl (by kernel_rfl) (by kernel_rfl) (by kernel_rfl) (by kernel_rfl) (fun _ _ _ h => h) (Or.inl ⟨by rfl, ?hyR7c3x30⟩) (by assumption) ?restR7c3x30
    case hyR7c3x30 => (intro w hSw; (try dsimp only at hSw); go_simp; try (with_reducible rfl))
    try simp only [Act.put, List.setIfInBounds_toArray, List.set_cons_zero, List.set_cons_succ]
    refine wpAnyT_takeB (i := 31) (oi := ⟨some 49, .move (.tmp 1), _, _, _, _⟩) (v := undef) rfl (by kernel_rfl) (by kernel_rfl) (by kernel_rfl) (by kernel_rfl) (fun _ _ _ h => h) (Or.inr ⟨by rfl, rfl⟩) (by assumption) ?restR7c3x31
    try simp only [Act.put, List.setIfInBounds_toArray, List.set_cons_zero, List.set_cons_succ]
    refine wpAnyT_takeB (i := 32) (oi := ⟨some 50, .move (.tmp 0), _, _, _, _⟩) (v := undef) rfl (by kernel_rfl) (by kernel_rfl) (by kernel_rfl) (by kernel_rfl) (fun _ _ _ h => h) (Or.inr ⟨by rfl, rfl⟩) (by assumption) ?restR7c3x32
    try simp only [Act.put, List.setIfInBounds_toArray, List.set_cons_zero, List.set_cons_succ]
    refine wpAnyT_takeB (i := 33) (oi := ⟨some 51, .move (.tmp 5), _, _, _, _⟩) (v := undef) rfl (by kernel_rfl) (by kernel_rfl) (by kernel_rfl) (by kernel_rfl) (fun _ _ _ h => h) (Or.inr ⟨by rfl, rfl⟩) (by assumption) ?restR7c3x33
    try simp only [Act.put, List.setIfInBounds_toArray, List.set_cons_zero, List.set_cons_succ]
    refine wpAnyT_takeB (i := 34) (oi := ⟨some 52, .indexAddr 28 (.tmp 50) (.tmp 51), _, _, _, _⟩) (v := undef) rfl (by kernel_rfl) (by kernel_rfl) (by kernel_rfl) (by kernel_rfl) (fun _ _ _ h => h) (Or.inr ⟨by rfl, rfl⟩) (by assumption) ?restR7c3x34
    try simp only [Act.put, List.setIfInBounds_toArray, List.set_cons_zero, List.set_cons_succ]
    refine wpAnyT_takeB (i := 35) (oi := ⟨some 53, .load 3 (.tmp 52), _, _, _, _⟩) (v := undef) rfl (by kernel_rfl) (by kernel_rfl) (by kernel_rfl) (by kernel_rfl) (fun _ _ _ h => h) (Or.inr ⟨by rfl, rfl⟩) (by assumption) ?restR7c3x35
    try simp only [Act.put, List.setIfInBounds_toArray, List.set_cons_zero, List.set_cons_succ]
    refine wpAnyT_takeB (i := 36) (oi := ⟨some 54, .indexAddr 28 (.tmp 49) (.tmp 53), _, _, _, _⟩) (v := undef) rfl (by kernel_rfl) (by kernel_rfl) (by kernel_rfl) (by kernel_rfl) (fun _ _ _ h => h) (Or.inr ⟨by rfl, rfl⟩) (by assumption) ?restR7c3x36
    try simp only [Act.put, List.setIfInBounds_toArray, List.set_cons_zero, List.set_cons_succ]
    refine wpAnyT_takeB (i := 37) (oi := ⟨some 55, .load 3 (.tmp 54), _, _, _, _⟩) (v := undef) rfl (by kernel_rfl) (by kernel_rfl) (by kernel_rfl) (by kernel_rfl) (fun _ _ _ h => h) (Or.inr ⟨by rfl, rfl⟩) (by assumption) ?restR7c3x37
    try simp only [Act.put, List.setIfInBounds_toArray, List.set_cons_zero, List.set_cons_succ]
    refine wpAnyT_takeB (i := 38) (oi := ⟨some 56, .move (.tmp 1), _, _, _, _⟩) (v := undef) rfl (by kernel_rfl) (by kernel_rfl) (by kernel_rfl) (by kernel_rfl) (fun _ _ _ h => h) (Or.inr ⟨by rfl, rfl⟩) (by assumption) ?restR7c3x38
    try simp only [Act.put, List.setIfInBounds_toArray, List.set_cons_zero, List.set_cons_succ]
    refine wpAnyT_takeB (i := 39) (oi := ⟨some 57, .move (.tmp 0), _, _, _, _⟩) (v := undef) rfl (by kernel_rfl) (by kernel_rfl) (by kernel_rfl) (by kernel_rfl) (fun _ _ _ h => h) (Or.inr ⟨by rfl, rfl⟩) (by assumption) ?restR7c3x39
    try simp only [Act.put, List.setIfInBounds_toArray, List.set_cons_zero, List.set_cons_succ]
    refine wpAnyT_takeB (i := 40) (oi := ⟨some 58, .move (.tmp 6), _, _, _, _⟩) (v := undef) rfl (by kernel_rfl) (by kernel_rfl) (by kernel_rfl) (by kernel_rfl) (fun _ _ _ h => h) (Or.inr ⟨by rfl, rfl⟩) (by assumption) ?restR7c3x40
    try simp only [Act.put, List.setIfInBounds_toArray, List.set_cons_zero, List.set_cons_succ]
    refine wpAnyT_takeB (i := 41) (oi := ⟨some 59, .indexAddr 28 (.tmp 57) (.tmp 58), _, _, _, _⟩) (v := undef) rfl (by kernel_rfl) (by kernel_rfl) (by kernel_rfl) (by kernel_rfl) (fun _ _ _ h => h) (Or.inr ⟨by rfl, rfl⟩) (by assumption) ?restR7c3x41
    try simp only [Act.put, List.setIfInBounds_toArray, List.set_cons_zero, List.set_cons_succ]
    refine wpAnyT_takeB (i := 42) (oi := ⟨some 60, .load 3 (.tmp 59), _, _, _, _⟩) (v := undef) rfl (by kernel_rfl) (by kernel_rfl) (by kernel_rfl) (by kernel_rfl) (fun _ _ _ h => h) (Or.inr ⟨by rfl, rfl⟩) (by assumption) ?restR7c3x42
    try simp only [Act.put, List.setIfInBounds_toArray, List.set_cons_zero, List.set_cons_succ]
    refine wpAnyT_takeB (i := 43) (oi := ⟨some 61, .indexAddr 28 (.tmp 56) (.tmp 60), _, _, _, _⟩) (v := undef) rfl (by kernel_rfl) (by kernel_rfl) (by kernel_rfl) (by kernel_rfl) (fun _ _ _ h => h) (Or.inr ⟨by rfl, rfl⟩) (by assumption) ?restR7c3x43
    try simp only [Act.put, List.setIfInBounds_toArray, List.set_cons_zero, List.set_cons_succ]
    refine wpAnyT_takeB (i := 44) (oi := ⟨some 62, .load 3 (.tmp 61), _, _, _, _⟩) (v := undef) rfl (by kernel_rfl) (by kernel_rfl) (by kernel_rfl) (by kernel_rfl) (fun _ _ _ h => h) (Or.inr ⟨by rfl, rfl⟩) (by assumption) ?restR7c3x44
    try simp only [Act.put, List.setIfInBounds_toArray, List.set_cons_zero, List.set_cons_succ]
    refine wpAnyT_takeB (i := 45) (oi := ⟨some 63, .binOp .eql 3 (.tmp 55) (.tmp 62) 3, _, _, _, _⟩) (v := undef) rfl (by kernel_rfl) (by kernel_rfl) (by kernel_rfl) (by kernel_rfl) (fun _ _ _ h => h) (Or.inr ⟨by rfl, rfl⟩) (by assumption) ?restR7c3x45
    try simp only [Act.put, List.setIfInBounds_toArray, List.set_cons_zero, List.set_cons_succ]
    refine wpAnyT_takeB (i := 46) (oi := ⟨some 64, .pick (.tmp 48) (.tmp 63) ((.const (.bool false))), _, _, _, _⟩) (v := ?vR7c3x46) rfl (by kernel_rfl) (by kernel_rfl) (by kernel_rfl) (by kernel_rfl) (fun _ _ _ h => h) (Or.inl ⟨by rfl, ?hyR7c3x46⟩) (by assumption) ?restR7c3x46
    case hyR7c3x46 => (intro w hSw; (try dsimp only at hSw); go_simp; try (with_reducible rfl))
    try simp only [Act.put, List.setIfInBounds_toArray, List.set_cons_zero, List.set_cons_succ]
    refine wpAnyT_done (by kernel_rfl) ?_ _
    go_wp2_with fail
    go_roundw
    case rel => exact ⟨k + 1, by go_num, hkn, (below_succ HA2.out (HXY.out HN.out)), HBy.out.trans ((Below.refl _ _).drew.mono HBy.out.size)⟩
    case measure => simp [intOf]; omega
  case pos =>
  by_cases hy1 : y < (vs.length : Int)
  case neg =>
    have HN : Hid (clash vs x y = false) := by show _ = _; unfold clash; simp; omega
    go_upto_region 7 with fail
    refine wp_region_T (fun w' => w'.cell? ⟨b, off + i, none⟩ = some (.int .i64 x) ∧ w'.cell? ⟨b, off + k, none⟩ = some (.int .i64 y)) (fun _ => True) [] (by kernel_rfl) ⟨HC2.out _ (Below.refl _ _).drew, trivial⟩ (fun hHeld => ?_)
    refine wpAnyT_takeB (i := 0) (oi := ⟨some 18, .move (.tmp 0), _, _, _, _⟩) (v := ?vR7c4x0) rfl (by kernel_rfl) (by kernel_rfl) (by kernel_rfl) (by kernel_rfl) (fun _ _ _ h => h) (Or.inl ⟨by rfl, ?hyR7c4x0⟩) (by assumption) ?restR7c4x0
    case hyR7c4x0 => (intro w hSw; (try dsimp only at hSw); go_simp; try (with_reducible rfl))
    try simp only [Act.put, List.setIfInBounds_toArray, List.set_cons_zero, List.set_cons_succ]
    refine wpAnyT_takeB (i := 1) (oi := ⟨some 19, .move (.tmp 5), _, _, _, _⟩) (v := ?vR7c4x1) rfl (by kernel_rfl) (by kernel_rfl) (by kernel_rfl) (by kernel_rfl) (fun _ _ _ h => h) (Or.inl ⟨by rfl, ?hyR7c4x1⟩) (by assumption) ?restR7c4x1
    case hyR7c4x1 => (intro w hSw; (try dsimp only at hSw); go_simp; try (with_reducible rfl))
    try simp only [Act.put, List.setIfInBounds_toArray, List.set_cons_zero, List.set_cons_succ]
    refine wpAnyT_takeB (i := 2) (oi := ⟨some 20, .indexAddr 28 (.tmp 18) (.tmp 19), _, _, _, _⟩) (v := ?vR7c4x2) rfl (by kernel_rfl) (by kernel_rfl) (by kernel_rfl) (by kernel_rfl) (fun _ _ _ h => h) (Or.inl ⟨by rfl, ?hyR7c4x2⟩) (by assumption) ?restR7c4x2
    case hyR7c4x2 => (intro w hSw; (try dsimp only at hSw); go_simp; try (with_reducible rfl))
    try simp only [Act.put, List.setIfInBounds_toArray, List.set_cons_zero, List.set_cons_succ]
    refine wpAnyT_takeB (i := 3) (oi := ⟨some 21, .load 3 (.tmp 20), _, _, _, _⟩) (v := ?vR7c4x3) rfl (by kernel_rfl) (by kernel_rfl) (by kernel_rfl) (by kernel_rfl) (fun _ _ _ h => h) (Or.inl ⟨by rfl, ?hyR7c4x3⟩) (by assumption) ?restR7c4x3
    case hyR7c4x3 => (intro w hSw; (try dsimp only at hSw); go_simp; try (with_reducible rfl))
    try simp only [Act.put, List.setIfInBounds_toArray, List.set_cons_zero, List.set_cons_succ]
    refine wpAnyT_takeB (i := 4) (oi := ⟨some 22, .binOp .geq 3 (.tmp 21) ((.const (.int .i64 0))) 3, _, _, _, _⟩) (v := ?vR7c4x4) rfl (by kernel_rfl) (by kernel_rfl) (by kernel_rfl) (by kernel_rfl) (fun _ _ _ h => h) (Or.inl ⟨by rfl, ?hyR7c4x4⟩) (by assumption) ?restR7c4x4
    case hyR7c4x4 => (intro w hSw; (try dsimp only at hSw); go_simp; try (with_reducible rfl))
    try simp only [Act.put, List.setIfInBounds_toArray, List.set_cons_zero, List.set_cons_succ]
    refine wpAnyT_takeB (i := 5) (oi := ⟨some 23, .move (.tmp 22), _, _, _, _⟩) (v := ?vR7c4x5) rfl (by kernel_rfl) (by kernel_rfl) (by kernel_rfl) (by kernel_rfl) (fun _ _ _ h => h) (Or.inl ⟨by rfl, ?hyR7c4x5⟩) (by assumption) ?restR7c4x5
    case hyR7c4x5 => (intro w hSw; (try dsimp only at hSw); go_simp; try (with_reducible rfl))
    try simp only [Act.put, List.setIfInBounds_toArray, List.set_cons_zero, List.set_cons_succ]
    refine wpAnyT_takeB (i := 6) (oi := ⟨some 24, .move (.tmp 0), _, _, _, _⟩) (v := ?vR7c4x6) rfl (by kernel_rfl) (by kernel_rfl) (by kernel_rfl) (by kernel_rfl) (fun _ _ _ h => h) (Or.inl ⟨by rfl, ?hyR7c4x6⟩) (by assumption) ?restR7c4x6
    case hyR7c4x6 => (intro w hSw; (try dsimp only at hSw); go_simp; try (with_reducible rfl))
    try simp only [Act.put, List.setIfInBounds_toArray, List.set_cons_zero, List.set_cons_succ]
    refine wpAnyT_takeB (i := 7) (oi := ⟨some 25, .move (.tmp 5), _, _, _, _⟩) (v := ?vR7c4x7) rfl (by kernel_rfl) (by kernel_rfl) (by kernel_rfl) (by kernel_rfl) (fun _ _ _ h => h) (Or.inl ⟨by rfl, ?hyR7c4x7⟩) (by assumption) ?restR7c4x7
    case hyR7c4x7 => (intro w hSw; (try dsimp only at hSw); go_simp; try (with_reducible rfl))
    try simp only [Act.put, List.setIfInBounds_toArray, List.set_cons_zero, List.set_cons_succ]
    refine wpAnyT_takeB (i := 8) (oi := ⟨some 26, .indexAddr 28 (.tmp 24) (.tmp 25), _, _, _, _⟩) (v := ?vR7c4x8) rfl (by kernel_rfl) (by kernel_rfl) (by kernel_rfl) (by kernel_rfl) (fun _ _ _ h => h) (Or.inl ⟨by rfl, ?hyR7c4x8⟩) (by assumption) ?restR7c4x8
    case hyR7c4x8 => (intro w hSw; (try dsimp only at hSw); go_simp; try (with_reducible rfl))
    try simp only [Act.put, List.setIfInBounds_toArray, List.set_cons_zero, List.set_cons_succ]
    refine wpAnyT_takeB (i := 9) (oi := ⟨some 27, .load 3 (.tmp 26), _, _, _, _⟩) (v := ?vR7c4x9) rfl (by kernel_rfl) (by kernel_rfl) (by kernel_rfl) (by kernel_rfl) (fun _ _ _ h => h) (Or.inl ⟨by rfl, ?hyR7c4x9⟩) (by assumption) ?restR7c4x9
    case hyR7c4x9 => (intro w hSw; (try dsimp only at hSw); go_simp; try (with_reducible rfl))
    try simp only [Act.put, List.setIfInBounds_toArray, List.set_cons_zero, List.set_cons_succ]
    refine wpAnyT_takeB (i := 10) (oi := ⟨some 28, .move (.tmp 1), _, _, _, _⟩) (v := ?vR7c4x10) rfl (by kernel_rfl) (by kernel_rfl) (by kernel_rfl) (by kernel_rfl) (fun _ _ _ h => h) (Or.inl ⟨by rfl, ?hyR7c4x10⟩) (by assumption) ?restR7c4x10
    case hyR7c4x10 => (intro w hSw; (try dsimp only at hSw); go_simp; try (with_reducible rfl))
    try simp only [Act.put, List.setIfInBounds_toArray, List.set_cons_zero, List.set_cons_succ]
    refine wpAnyT_takeB (i := 11) (oi := ⟨some 29, .call { callee := .builtin .len, args := #[(.tmp 28)], argTypes := #[28] }, _, _, _, _⟩) (v := ?vR7c4x11) rfl (by kernel_rfl) (by kernel_rfl) (by kernel_rfl) (by kernel_rfl) (fun _ _ _ h => h) (Or.inl ⟨by rfl, ?hyR7c4x11⟩) (by assumption) ?restR7c4x11
    case hyR7c4x11 => (intro w hSw; (try dsimp only at hSw); go_simp; try (with_reducible rfl))
    try simp only [Act.put, List.setIfInBounds_toArray, List.set_cons_zero, List.set_cons_succ]
    refine wpAnyT_takeB (i := 12) (oi := ⟨some 30, .binOp .lss 3 (.tmp 27) (.tmp 29) 3, _, _, _, _⟩) (v := ?vR7c4x12) rfl (by kernel_rfl) (by kernel_rfl) (by kernel_rfl) (by kernel_rfl) (fun _ _ _ h => h) (Or.inl ⟨by rfl, ?hyR7c4x12⟩) (by assumption) ?restR7c4x12
    case hyR7c4x12 => (intro w hSw; (try dsimp only at hSw); go_simp; try (with_reducible rfl))
    try simp only [Act.put, List.setIfInBounds_toArray, List.set_cons_zero, List.set_cons_succ]
    refine wpAnyT_takeB (i := 13) (oi := ⟨some 31, .pick (.tmp 23) (.tmp 30) ((.const (.bool false))), _, _, _, _⟩) (v := ?vR7c4x13) rfl (by kernel_rfl) (by kernel_rfl) (by kernel_rfl) (by kernel_rfl) (fun _ _ _ h => h) (Or.inl ⟨by rfl, ?hyR7c4x13⟩) (by assumption) ?restR7c4x13
    case hyR7c4x13 => (intro w hSw; (try dsimp only at hSw); go_simp; try (with_reducible rfl))
    try simp only [Act.put, List.setIfInBounds_toArray, List.set_cons_zero, List.set_cons_succ]
    refine wpAnyT_takeB (i := 14) (oi := ⟨some 32, .move (.tmp 31), _, _, _, _⟩) (v := ?vR7c4x14) rfl (by kernel_rfl) (by kernel_rfl) (by kernel_rfl) (by kernel_rfl) (fun _ _ _ h => h) (Or.inl ⟨by rfl, ?hyR7c4x14⟩) (by assumption) ?restR7c4x14
    case hyR7c4x14 => (intro w hSw; (try dsimp only at hSw); go_simp; try (with_reducible rfl))
    try simp only [Act.put, List.setIfInBounds_toArray, List.set_cons_zero, List.set_cons_succ]
    refine wpAnyT_takeB (i := 15) (oi := ⟨some 33, .move (.tmp 0), _, _, _, _⟩) (v := ?vR7c4x15) rfl (by kernel_rfl) (by kernel_rfl) (by kernel_rfl) (by kernel_rfl) (fun _ _ _ h => h) (Or.inl ⟨by rfl, ?hyR7c4x15⟩) (by assumption) ?restR7c4x15
    case hyR7c4x15 => (intro w hSw; (try dsimp only at hSw); go_simp; try (with_reducible rfl))
    try simp only [Act.put, List.setIfInBounds_toArray, List.set_cons_zero, List.set_cons_succ]
    refine wpAnyT_takeB (i := 16) (oi := ⟨some 34, .move (.tmp 6), _, _, _, _⟩) (v := ?vR7c4x16) rfl (by kernel_rfl) (by kernel_rfl) (by kernel_rfl) (by kernel_rfl) (fun _ _ _ h => h) (Or.inl ⟨by rfl, ?hyR7c4x16⟩) (by assumption) ?restR7c4x16
    case hyR7c4x16 => (intro w hSw; (try dsimp only at hSw); go_simp; try (with_reducible rfl))
    try simp only [Act.put, List.setIfInBounds_toArray, List.set_cons_zero, List.set_cons_succ]
    refine wpAnyT_takeB (i := 17) (oi := ⟨some 35, .indexAddr 28 (.tmp 33) (.tmp 34), _, _, _, _⟩) (v := ?vR7c4x17) rfl (by kernel_rfl) (by kernel_rfl) (by kernel_rfl) (by kernel_rfl) (fun _ _ _ h => h) (Or.inl ⟨by rfl, ?hyR7c4x17⟩) (by assumption) ?restR7c4x17
    case hyR7c4x17 => (intro w hSw; (try dsimp only at hSw); go_simp; try (with_reducible rfl))
    try simp only [Act.put, List.setIfInBounds_toArray, List.set_cons_zero, List.set_cons_succ]
    refine wpAnyT_takeB (i := 18) (oi := ⟨some 36, .load 3 (.tmp 35), _, _, _, _⟩) (v := ?vR7c4x18) rfl (by kernel_rfl) (by kernel_rfl) (by kernel_rfl) (by kernel_rfl) (fun _ _ _ h => h) (Or.inl ⟨by rfl, ?hyR7c4x18⟩) (by assumption) ?restR7c4x18
    case hyR7c4x18 => (intro w hSw; (try dsimp only at hSw); go_simp; try (with_reducible rfl))
    try simp only [Act.put, List.setIfInBounds_toArray, List.set_cons_zero, List.set_cons_succ]
    refine wpAnyT_takeB (i := 19) (oi := ⟨some 37, .binOp .geq 3 (.tmp 36) ((.const (.int .i64 0))) 3, _, _, _, _⟩) (v := ?vR7c4x19) rfl (by kernel_rfl) (by kernel_rfl) (by kernel_rfl) (by kernel_rfl) (fun _ _ _ h => h) (Or.inl ⟨by rfl, ?hyR7c4x19⟩) (by assumption) ?restR7c4x19
    case hyR7c4x19 => (intro w hSw; (try dsimp only at hSw); go_simp; try (with_reducible rfl))
    try simp only [Act.put, List.setIfInBounds_toArray, List.set_cons_zero, List.set_cons_succ]
    refine wpAnyT_takeB (i := 20) (oi := ⟨some 38, .pick (.tmp 32) (.tmp 37) ((.const (.bool false))), _, _, _, _⟩) (v := ?vR7c4x20) rfl (by kernel_rfl) (by kernel_rfl) (by kernel_rfl) (by kernel_rfl) (fun _ _ _ h => h) (Or.inl ⟨by rfl, ?hyR7c4x20⟩) (by assumption) ?restR7c4x20
    case hyR7c4x20 => (intro w hSw; (try dsimp only at hSw); go_simp; try (with_reducible rfl))
    try simp only [Act.put, List.setIfInBounds_toArray, List.set_cons_zero, List.set_cons_succ]
    refine wpAnyT_takeB (i := 21) (oi := ⟨some 39, .move (.tmp 38), _, _, _, _⟩) (v := ?vR7c4x21) rfl (by kernel_rfl) (by kernel_rfl) (by kernel_rfl) (by kernel_rfl) (fun _ _ _ h => h) (Or.inl ⟨by rfl, ?hyR7c4x21⟩) (by assumption) ?restR7c4x21
    case hyR7c4x21 => (intro w hSw; (try dsimp only at hSw); go_simp; try (with_reducible rfl))
    try simp only [Act.put, List.setIfInBounds_toArray, List.set_cons_zero, List.set_cons_succ]
    refine wpAnyT_takeB (i := 22) (oi := ⟨some 40, .move (.tmp 0), _, _, _, _⟩) (v := ?vR7c4x22) rfl (by kernel_rfl) (by kernel_rfl) (by kernel_rfl) (by kernel_rfl) (fun _ _ _ h => h) (Or.inl ⟨by rfl, ?hyR7c4x22⟩) (by assumption) ?restR7c4x22
    case hyR7c4x22 => (intro w hSw; (try dsimp only at hSw); go_simp; try (with_reducible rfl))
    try simp only [Act.put, List.setIfInBounds_toArray, List.set_cons_zero, List.set_cons_succ]
    refine wpAnyT_takeB (i := 23) (oi := ⟨some 41, .move (.tmp 6), _, _, _, _⟩) (v := ?vR7c4x23) rfl (by kernel_rfl) (by kernel_rfl) (by kernel_rfl) (by kernel_rfl) (fun _ _ _ h => h) (Or.inl ⟨by rfl, ?hyR7c4x23⟩) (by assumption) ?restR7c4x23
    case hyR7c4x23 => (intro w hSw; (try dsimp only at hSw); go_simp; try (with_reducible rfl))
    try simp only [Act.put, List.setIfInBounds_toArray, List.set_cons_zero, List.set_cons_succ]
    refine wpAnyT_takeB (i := 24) (oi := ⟨some 42, .indexAddr 28 (.tmp 40) (.tmp 41), _, _, _, _⟩) (v := ?vR7c4x24) rfl (by kernel_rfl) (by kernel_rfl) (by kernel_rfl) (by kernel_rfl) (fun _ _ _ h => h) (Or.inl ⟨by rfl, ?hyR7c4x24⟩) (by assumption) ?restR7c4x24
    case hyR7c4x24 => (intro w hSw; (try dsimp only at hSw); go_simp; try (with_reducible rfl))
    try simp only [Act.put, List.setIfInBounds_toArray, List.set_cons_zero, List.set_cons_succ]
    refine wpAnyT_takeB (i := 25) (oi := ⟨some 43, .load 3 (.tmp 42), _, _, _, _⟩) (v := ?vR7c4x25) rfl (by kernel_rfl) (by kernel_rfl) (by kernel_rfl) (by kernel_rfl) (fun _ _ _ h => h) (Or.inl ⟨by rfl, ?hyR7c4x25⟩) (by assumption) ?restR7c4x25
    case hyR7c4x25 => (intro w hSw; (try dsimp only at hSw); go_simp; try (with_reducible rfl))
    try simp only [Act.put, List.setIfInBounds_toArray, List.set_cons_zero, List.set_cons_succ]
    refine wpAnyT_takeB (i := 26) (oi := ⟨some 44, .move (.tmp 1), _, _, _, _⟩) (v := ?vR7c4x26) rfl (by kernel_rfl) (by kernel_rfl) (by kernel_rfl) (by kernel_rfl) (fun _ _ _ h => h) (Or.inl ⟨by rfl, ?hyR7c4x26⟩) (by assumption) ?restR7c4x26
    case hyR7c4x26 => (intro w hSw; (try dsimp only at hSw); go_simp; try (with_reducible rfl))
    try simp only [Act.put, List.setIfInBounds_toArray, List.set_cons_zero, List.set_cons_succ]
    refine wpAnyT_takeB (i := 27) (oi := ⟨some 45, .call { callee := .builtin .len, args := #[(.tmp 44)], argTypes := #[28] }, _, _, _, _⟩) (v := ?vR7c4x27) rfl (by kernel_rfl) (by kernel_rfl) (by kernel_rfl) (by kernel_rfl) (fun _ _ _ h => h) (Or.inl ⟨by rfl, ?hyR7c4x27⟩) (by assumption) ?restR7c4x27
    case hyR7c4x27 => (intro w hSw; (try dsimp only at hSw); go_simp; try (with_reducible rfl))
    try simp only [Act.put, List.setIfInBounds_toArray, List.set_cons_zero, List.set_cons_succ]
    refine wpAnyT_takeB (i := 28) (oi := ⟨some 46, .binOp .lss 3 (.tmp 43) (.tmp 45) 3, _, _, _, _⟩) (v := ?vR7c4x28) rfl (by kernel_rfl) (by kernel_rfl) (by kernel_rfl) (by kernel_rfl) (fun _ _ _ h => h) (Or.inl ⟨by rfl, ?hyR7c4x28⟩) (by assumption) ?restR7c4x28
    case hyR7c4x28 => (intro w hSw; (try dsimp only at hSw); go_simp; try (with_reducible rfl))
    try simp only [Act.put, List.setIfInBounds_toArray, List.set_cons_zero, List.set_cons_succ]
    refine wpAnyT_takeB (i := 29) (oi := ⟨some 47, .pick (.tmp 39) (.tmp 46) ((.const (.bool false))), _, _, _, _⟩) (v := ?vR7c4x29) rfl (by kernel_rfl) (by kernel_rfl) (by kernel_rfl) (by kernel_rfl) (fun _ _ _ h => h) (Or.inl ⟨by rfl, ?hyR7c4x29⟩) (by assumption) ?restR7c4x29
    case hyR7c4x29 => (intro w hSw; (try dsimp only at hSw); go_simp; try (with_reducible rfl))
    try simp only [Act.put, List.setIfInBounds_toArray, List.set_cons_zero, List.set_cons_succ]
    refine wpAnyT_takeB (i := 30) (oi := ⟨some 48, .move (.tmp 47), _, _, _, _⟩) (v := ?vR7c4x30) rfl (by kernel_rfl) (by kernel_rfl) (by kernel_rfl) (by kernel_rfl) (fun _ _ _ h => h) (Or.inl ⟨by rfl, ?hyR7c4x30⟩) (by assumption) ?restR7c4x30
    case hyR7c4x30 => (intro w hSw; (try dsimp only at hSw); go_simp; try (with_reducible rfl))
    try simp only [Act.put, List.setIfInBounds_toArray, List.set_cons_zero, List.set_cons_succ]
    refine wpAnyT_takeB (i := 31) (oi := ⟨some 49, .move (.tmp 1), _, _, _, _⟩) (v := undef) rfl (by kernel_rfl) (by kernel_rfl) (by kernel_rfl) (by kernel_rfl) (fun _ _ _ h => h) (Or.inr ⟨by rfl, rfl⟩) (by assumption) ?restR7c4x31
    try simp only [Act.put, List.setIfInBounds_toArray, List.set_cons_zero, List.set_cons_succ]
    refine wpAnyT_takeB (i := 32) (oi := ⟨some 50, .move (.tmp 0), _, _, _, _⟩) (v := undef) rfl (by kernel_rfl) (by kernel_rfl) (by kernel_rfl) (by kernel_rfl) (fun _ _ _ h => h) (Or.inr ⟨by rfl, rfl⟩) (by assumption) ?restR7c4x32
    try simp only [Act.put, List.setIfInBounds_toArray, List.set_cons_zero, List.set_cons_succ]
    refine wpAnyT_takeB (i := 33) (oi := ⟨some 51, .move (.tmp 5), _, _, _, _⟩) (v := undef) rfl (by kernel_rfl) (by kernel_rfl) (by kernel_rfl) (by kernel_rfl) (fun _ _ _ h => h) (Or.inr ⟨by rfl, rfl⟩) (by assumption) ?restR7c4x33
    try simp only [Act.put, List.setIfInBounds_toArray, List.set_cons_zero, List.set_cons_succ]
    refine wpAnyT_takeB (i := 34) (oi := ⟨some 52, .indexAddr 28 (.tmp 50) (.tmp 51), _, _, _, _⟩) (v := undef) rfl (by kernel_rfl) (by kernel_rfl) (by kernel_rfl) (by kernel_rfl) (fun _ _ _ h => h) (Or.inr ⟨by rfl, rfl⟩) (by assumption) ?restR7c4x34
    try simp only [Act.put, List.setIfInBounds_toArray, List.set_cons_zero, List.set_cons_succ]
    refine wpAnyT_takeB (i := 35) (oi := ⟨some 53, .load 3 (.tmp 52), _, _, _, _⟩) (v := undef) rfl (by kernel_rfl) (by kernel_rfl) (by kernel_rfl) (by kernel_rfl) (fun _ _ _ h => h) (Or.inr ⟨by rfl, rfl⟩) (by assumption) ?restR7c4x35
    try simp only [Act.put, List.setIfInBounds_toArray, List.set_cons_zero, List.set_cons_succ]
    refine wpAnyT_takeB (i := 36) (oi := ⟨some 54, .indexAddr 28 (.tmp 49) (.tmp 53), _, _, _, _⟩) (v := undef) rfl (by kernel_rfl) (by kernel_rfl) (by kernel_rfl) (by kernel_rfl) (fun _ _ _ h => h) (Or.inr ⟨by rfl, rfl⟩) (by assumption) ?restR7c4x36
    try simp only [Act.put, List.setIfInBounds_toArray, List.set_cons_zero, List.set_cons_succ]
    refine wpAnyT_takeB (i := 37) (oi := ⟨some 55, .load 3 (.tmp 54), _, _, _, _⟩) (v := undef) rfl (by kernel_rfl) (by kernel_rfl) (by kernel_rfl) (by kernel_rfl) (fun _ _ _ h => h) (Or.inr ⟨by rfl, rfl⟩) (by assumption) ?restR7c4x37
    try simp only [Act.put, List.setIfInBounds_toArray, List.set_cons_zero, List.set_cons_succ]
    refine wpAnyT_takeB (i := 38) (oi := ⟨some 56, .move (.tmp 1), _, _, _, _⟩) (v := undef) rfl (by kernel_rfl) (by kernel_rfl) (by kernel_rfl) (by kernel_rfl) (fun _ _ _ h => h) (Or.inr ⟨by rfl, rfl⟩) (by assumption) ?restR7c4x38
    try simp only [Act.put, List.setIfInBounds_toArray, List.set_cons_zero, List.set_cons_succ]
    refine wpAnyT_takeB (i := 39) (oi := ⟨some 57, .move (.tmp 0), _, _, _, _⟩) (v := undef) rfl (by kernel_rfl) (by kernel_rfl) (by kernel_rfl) (by kernel_rfl) (fun _ _ _ h => h) (Or.inr ⟨by rfl, rfl⟩) (by assumption) ?restR7c4x39
    try simp only [Act.put, List.setIfInBounds_toArray, List.set_cons_zero, List.set_cons_succ]
    refine wpAnyT_takeB (i := 40) (oi := ⟨some 58, .move (.tmp 6), _, _, _, _⟩) (v := undef) rfl (by kernel_rfl) (by kernel_rfl) (by kernel_rfl) (by kernel_rfl) (fun _ _ _ h => h) (Or.inr ⟨by rfl, rfl⟩) (by assumption) ?restR7c4x40
    try simp only [Act.put, List.setIfInBounds_toArray, List.set_cons_zero, List.set_cons_succ]
    refine wpAnyT_takeB (i := 41) (oi := ⟨some 59, .indexAddr 28 (.tmp 57) (.tmp 58), _, _, _, _⟩) (v := undef) rfl (by kernel_rfl) (by kernel_rfl) (by kernel_rfl) (by kernel_rfl) (fun _ _ _ h => h) (Or.inr ⟨by rfl, rfl⟩) (by assumption) ?restR7c4x41
    try simp only [Act.put, List.setIfInBounds_toArray, List.set_cons_zero, List.set_cons_succ]
    refine wpAnyT_takeB (i := 42) (oi := ⟨some 60, .load 3 (.tmp 59), _, _, _, _⟩) (v := undef) rfl (by kernel_rfl) (by kernel_rfl) (by kernel_rfl) (by kernel_rfl) (fun _ _ _ h => h) (Or.inr ⟨by rfl, rfl⟩) (by assumption) ?restR7c4x42
    try simp only [Act.put, List.setIfInBounds_toArray, List.set_cons_zero, List.set_cons_succ]
    refine wpAnyT_takeB (i := 43) (oi := ⟨some 61, .indexAddr 28 (.tmp 56) (.tmp 60), _, _, _, _⟩) (v := undef) rfl (by kernel_rfl) (by kernel_rfl) (by kernel_rfl) (by kernel_rfl) (fun _ _ _ h => h) (Or.inr ⟨by rfl, rfl⟩) (by assumption) ?restR7c4x43
    try simp only [Act.put, List.setIfInBounds_toArray, List.set_cons_zero, List.set_cons_succ]
    refine wpAnyT_takeB (i := 44) (oi := ⟨some 62, .load 3 (.tmp 61), _, _, _, _⟩) (v := undef) rfl (by kernel_rfl) (by kernel_rfl) (by kernel_rfl) (by kernel_rfl) (fun _ _ _ h => h) (Or.inr ⟨by rfl, rfl⟩) (by assumption) ?restR7c4x44
    try simp only [Act.put, List.setIfInBounds_toArray, List.set_cons_zero, List.set_cons_succ]
    refine wpAnyT_takeB (i := 45) (oi := ⟨some 63, .binOp .eql 3 (.tmp 55) (.tmp 62) 3, _, _, _, _⟩) (v := undef) rfl (by kernel_rfl) (by kernel_rfl) (by kernel_rfl) (by kernel_rfl) (fun _ _ _ h => h) (Or.inr ⟨by rfl, rfl⟩) (by assumption) ?restR7c4x45
    try simp only [Act.put, List.setIfInBounds_toArray, List.set_cons_zero, List.set_cons_succ]
    refine wpAnyT_takeB (i := 46) (oi := ⟨some 64, .pick (.tmp 48) (.tmp 63) ((.const (.bool false))), _, _, _, _⟩) (v := ?vR7c4x46) rfl (by kernel_rfl) (by kernel_rfl) (by kernel_rfl) (by kernel_rfl) (fun _ _ _ h => h) (Or.inl ⟨by rfl, ?hyR7c4x46⟩) (by assumption) ?restR7c4x46
    case hyR7c4x46 => (intro w hSw; (try dsimp only at hSw); go_simp; try (with_reducible rfl))
    try simp only [Act.put, List.setIfInBounds_toArray, List.set_cons_zero, List.set_cons_succ]
    refine wpAnyT_done (by kernel_rfl) ?_ _
    go_wp2_with fail
    go_roundw
    case rel => exact ⟨k + 1, by go_num, hkn, (below_succ HA2.out (HXY.out HN.out)), HBy.out.trans ((Below.refl _ _).drew.mono HBy.out.size)⟩
    case measure => simp [intOf]; omega
  case pos =>
  obtain ⟨m, rfl⟩ : ∃ m : Nat, x = (m : Int) := ⟨x.toNat, by omega⟩
  obtain ⟨n, rfl⟩ : ∃ n : Nat, y = (n : Int) := ⟨y.toNat, by omega⟩
  have hm : m < vs.length := by omega
  have hn : n < vs.length := by omega
  obtain ⟨vb, vo, rfl, _⟩ := HV.out wy HBy.out m hm
  have HD : Hid (∀ w', Below wy.heap.size wy w' → w'.cell? ⟨vb, vo + m, none⟩ = some (.int .i64 vs[m]) ∧ w'.cell? ⟨vb, vo + n, none⟩ = some (.int .i64 vs[n])) := fun w' hb => by
    obtain ⟨b1, o1, e1, c1⟩ := HV.out w' (bl_next HBy.out hb) m hm
    injection e1 with e1
    injection e1 with e1 e2
    subst e1 e2
    obtain ⟨b1, o1, e1, c2⟩ := HV.out w' (bl_next HBy.out hb) n hn
    injection e1 with e1
    injection e1 with e1 e2
    subst e1 e2
    exact ⟨c1, c2⟩
  have hcl : clash vs (m : Int) (n : Int) = decide (vs[m] = vs[n]) := by
    unfold clash
    rw [Int.toNat_natCast, Int.toNat_natCast, List.getD_eq_getElem?_getD, List.getD_eq_getElem?_getD, List.getElem?_eq_getElem hm, List.getElem?_eq_getElem hn]
    simp [hm, hn]
  obtain ⟨u, hu⟩ : ∃ u, vs[m] = u := ⟨_, rfl⟩
  obtain ⟨v, hv⟩ : ∃ v, vs[n] = v := ⟨_, rfl⟩
  rw [hu, hv] at HD hcl
  have HCl : Hid (clash vs (m : Int) (n : Int) = decide (u = v)) := hcl
  have HC3 : Hid (∀ w', Below wy.heap.size wy w' → (w'.cell? ⟨b, off + i, none⟩ = some (.int .i64 (m : Int)) ∧ w'.cell? ⟨b, off + k, none⟩ = some (.int .i64 (n : Int))) ∧ w'.cell? ⟨vb, vo + m, none⟩ = some (.int .i64 u) ∧ w'.cell? ⟨vb, vo + n, none⟩ = some (.int .i64 v)) := fun w' hb => ⟨HC2.out w' hb, HD.out w' hb⟩
  clear hu hv hcl HC2 HD
  by_cases huv : u = v
  case pos =>
    have HN : Hid (clash vs (m : Int) (n : Int) = true) := by show _ = _; rw [HCl.out]; exact decide_eq_true huv
    go_upto_region 7 with fail
    refine wp_region_T (fun w' => (w'.cell? ⟨b, off + i, none⟩ = some (.int .i64 (m : Int)) ∧ w'.cell? ⟨b, off + k, none⟩ = some (.int .i64 (n : Int))) ∧ w'.cell? ⟨vb, vo + m, none⟩ = some (.int .i64 u) ∧ w'.cell? ⟨vb, vo + n, none⟩ = some (.int .i64 v)) (fun _ => True) [] (by kernel_rfl) ⟨HC3.out _ (Below.refl _ _).drew, trivial⟩ (fun hHeld => ?_)
    refine wpAnyT_takeB (i := 0) (oi := ⟨some 18, .move (.tmp 0), _, _, _, _⟩) (v := ?vR7c5x0) rfl (by kernel_rfl) (by kernel_rfl) (by kernel_rfl) (by kernel_rfl) (fun _ _ _ h => h) (Or.inl ⟨by rfl, ?hyR7c5x0⟩) (by assumption) ?restR7c5x0
    case hyR7c5x0 => (intro w hSw; (try dsimp only at hSw); go_simp; try (with_reducible rfl))
    try simp only [Act.put, List.setIfInBounds_toArray, List.set_cons_zero, List.set_cons_succ]
    refine wpAnyT_takeB (i := 1) (oi := ⟨some 19, .move (.tmp 5), _, _, _, _⟩) (v := ?vR7c5x1) rfl (by kernel_rfl) (by kernel_rfl) (by kernel_rfl) (by kernel_rfl) (fun _ _ _ h => h) (Or.inl ⟨by rfl, ?hyR7c5x1⟩) (by assumption) ?restR7c5x1
    case hyR7c5x1 => (intro w hSw; (try dsimp only at hSw); go_simp; try (with_reducible rfl))
    try simp only [Act.put, List.setIfInBounds_toArray, List.set_cons_zero, List.set_cons_succ]
    refine wpAnyT_takeB (i := 2) (oi := ⟨some 20, .indexAddr 28 (.tmp 18) (.tmp 19), _, _, _, _⟩) (v := ?vR7c5x2) rfl (by kernel_rfl) (by kernel_rfl) (by kernel_rfl) (by kernel_rfl) (fun _ _ _ h => h) (Or.inl ⟨by rfl, ?hyR7c5x2⟩) (by assumption) ?restR7c5x2
    case hyR7c5x2 => (intro w hSw; (try dsimp only at hSw); go_simp; try (with_reducible rfl))
    try simp only [Act.put, List.setIfInBounds_toArray, List.set_cons_zero, List.set_cons_succ]
    refine wpAnyT_takeB (i := 3) (oi := ⟨some 21, .load 3 (.tmp 20), _, _, _, _⟩) (v := ?vR7c5x3) rfl (by kernel_rfl) (by kernel_rfl) (by kernel_rfl) (by kernel_rfl) (fun _ _ _ h => h) (Or.inl ⟨by rfl, ?hyR7c5x3⟩) (by assumption) ?restR7c5x3
    case hyR7c5x3 => (intro w hSw; (try dsimp only at hSw); go_simp; try (with_reducible rfl))
    try simp only [Act.put, List.setIfInBounds_toArray, List.set_cons_zero, List.set_cons_succ]
    refine wpAnyT_takeB (i := 4) (oi := ⟨some 22, .binOp .geq 3 (.tmp 21) ((.const (.int .i64 0))) 3, _, _, _, _⟩) (v := ?vR7c5x4) rfl (by kernel_rfl) (by kernel_rfl) (by kernel_rfl) (by kernel_rfl) (fun _ _ _ h => h) (Or.inl ⟨by rfl, ?hyR7c5x4⟩) (by assumption) ?restR7c5x4
    case hyR7c5x4 => (intro w hSw; (try dsimp only at hSw); go_simp; try (with_reducible rfl))
    try simp only [Act.put, List.setIfInBounds_toArray, List.set_cons_zero, List.set_cons_succ]
    refine wpAnyT_takeB (i := 5) (oi := ⟨some 23, .move (.tmp 22), _, _, _, _⟩) (v := ?vR7c5x5) rfl (by kernel_rfl) (by kernel_rfl) (by kernel_rfl) (by kernel_rfl) (fun _ _ _ h => h) (Or.inl ⟨by rfl, ?hyR7c5x5⟩) (by assumption) ?restR7c5x5
    case hyR7c5x5 => (intro w hSw; (try dsimp only at hSw); go_simp; try (with_reducible rfl))
    try simp only [Act.put, List.setIfInBounds_toArray, List.set_cons_zero, List.set_cons_succ]
    refine wpAnyT_takeB (i := 6) (oi := ⟨some 24, .move (.tmp 0), _, _, _, _⟩) (v := ?vR7c5x6) rfl (by kernel_rfl) (by kernel_rfl) (by kernel_rfl) (by kernel_rfl) (fun _ _ _ h => h) (Or.inl ⟨by rfl, ?hyR7c5x6⟩) (by assumption) ?restR7c5x6
    case hyR7c5x6 => (intro w hSw; (try dsimp only at hSw); go_simp; try (with_reducible rfl))
    try simp only [Act.put, List.setIfInBounds_toArray, List.set_cons_zero, List.set_cons_succ]
    refine wpAnyT_takeB (i := 7) (oi := ⟨some 25, .move (.tmp 5), _, _, _, _⟩) (v := ?vR7c5x7) rfl (by kernel_rfl) (by kernel_rfl) (by kernel_rfl) (by kernel_rfl) (fun _ _ _ h => h) (Or.inl ⟨by rfl, ?hyR7c5x7⟩) (by assumption) ?restR7c5x7
    case hyR7c5x7 => (intro w hSw; (try dsimp only at hSw); go_simp; try (with_reducible rfl))
    try simp only [Act.put, List.setIfInBounds_toArray, List.set_cons_zero, List.set_cons_succ]
    refine wpAnyT_takeB (i := 8) (oi := ⟨some 26, .indexAddr 28 (.tmp 24) (.tmp 25), _, _, _, _⟩) (v := ?vR7c5x8) rfl (by kernel_rfl) (by kernel_rfl) (by kernel_rfl) (by kernel_rfl) (fun _ _ _ h => h) (Or.inl ⟨by rfl, ?hyR7c5x8⟩) (by assumption) ?restR7c5x8
    case hyR7c5x8 => (intro w hSw; (try dsimp only at hSw); go_simp; try (with_reducible rfl))
    try simp only [Act.put, List.setIfInBounds_toArray, List.set_cons_zero, List.set_cons_succ]
    refine wpAnyT_takeB (i := 9) (oi := ⟨some 27, .load 3 (.tmp 26), _, _, _, _⟩) (v := ?vR7c5x9) rfl (by kernel_rfl) (by kernel_rfl) (by kernel_rfl) (by kernel_rfl) (fun _ _ _ h => h) (Or.inl ⟨by rfl, ?hyR7c5x9⟩) (by assumption) ?restR7c5x9
    case hyR7c5x9 => (intro w hSw; (try dsimp only at hSw); go_simp; try (with_reducible rfl))
    try simp only [Act.put, List.setIfInBounds_toArray, List.set_cons_zero, List.set_cons_succ]
    refine wpAnyT_takeB (i := 10) (oi := ⟨some 28, .move (.tmp 1), _, _, _, _⟩) (v := ?vR7c5x10) rfl (by kernel_rfl) (by kernel_rfl) (by kernel_rfl) (by kernel_rfl) (fun _ _ _ h => h) (Or.inl ⟨by rfl, ?hyR7c5x10⟩) (by assumption) ?restR7c5x10
    case hyR7c5x10 => (intro w hSw; (try dsimp only at hSw); go_simp; try (with_reducible rfl))
    try simp only [Act.put, List.setIfInBounds_toArray, List.set_cons_zero, List.set_cons_succ]
    refine wpAnyT_takeB (i := 11) (oi := ⟨some 29, .call { callee := .builtin .len, args := #[(.tmp 28)], argTypes := #[28] }, _, _, _, _⟩) (v := ?vR7c5x11) rfl (by kernel_rfl) (by kernel_rfl) (by kernel_rfl) (by kernel_rfl) (fun _ _ _ h => h) (Or.inl ⟨by rfl, ?hyR7c5x11⟩) (by assumption) ?restR7c5x11
    case hyR7c5x11 => (intro w hSw; (try dsimp only at hSw); go_simp; try (with_reducible rfl))
    try simp only [Act.put, List.setIfInBounds_toArray, List.set_cons_zero, List.set_cons_succ]
    refine wpAnyT_takeB (i := 12) (oi := ⟨some 30, .binOp .lss 3 (.tmp 27) (.tmp 29) 3, _, _, _, _⟩) (v := ?vR7c5x12) rfl (by kernel_rfl) (by kernel_rfl) (by kernel_rfl) (by kernel_rfl) (fun _ _ _ h => h) (Or.inl ⟨by rfl, ?hyR7c5x12⟩) (by assumption) ?restR7c5x12
    case hyR7c5x12 => (intro w hSw; (try dsimp only at hSw); go_simp; try (with_reducible rfl))
    try simp only [Act.put, List.setIfInBounds_toArray, List.set_cons_zero, List.set_cons_succ]
    refine wpAnyT_takeB (i := 13) (oi := ⟨some 31, .pick (.tmp 23) (.tmp 30) ((.const (.bool false))), _, _, _, _⟩) (v := ?vR7c5x13) rfl (by kernel_rfl) (by kernel_rfl) (by kernel_rfl) (by kernel_rfl) (fun _ _ _ h => h) (Or.inl ⟨by rfl, ?hyR7c5x13⟩) (by assumption) ?restR7c5x13
    case hyR7c5x13 => (intro w hSw; (try dsimp only at hSw); go_simp; try (with_reducible rfl))
    try simp only [Act.put, List.setIfInBounds_toArray, List.set_cons_zero, List.set_cons_succ]
    refine wpAnyT_takeB (i := 14) (oi := ⟨some 32, .move (.tmp 31), _, _, _, _⟩) (v := ?vR7c5x14) rfl (by kernel_rfl) (by kernel_rfl) (by kernel_rfl) (by kernel_rfl) (fun _ _ _ h => h) (Or.inl ⟨by rfl, ?hyR7c5x14⟩) (by assumption) ?restR7c5x14
    case hyR7c5x14 => (intro w hSw; (try dsimp only at hSw); go_simp; try (with_reducible rfl))
    try simp only [Act.put, List.setIfInBounds_toArray, List.set_cons_zero, List.set_cons_succ]
    refine wpAnyT_takeB (i := 15) (oi := ⟨some 33, .move (.tmp 0), _, _, _, _⟩) (v := ?vR7c5x15) rfl (by kernel_rfl) (by kernel_rfl) (by kernel_rfl) (by kernel_rfl) (fun _ _ _ h => h) (Or.inl ⟨by rfl, ?hyR7c5x15⟩) (by assumption) ?restR7c5x15
    case hyR7c5x15 => (intro w hSw; (try dsimp only at hSw); go_simp; try (with_reducible rfl))
    try simp only [Act.put, List.setIfInBounds_toArray, List.set_cons_zero, List.set_cons_succ]
    refine wpAnyT_takeB (i := 16) (oi := ⟨some 34, .move (.tmp 6), _, _, _, _⟩) (v := ?vR7c5x16) rfl (by kernel_rfl) (by kernel_rfl) (by kernel_rfl) (by kernel_rfl) (fun _ _ _ h => h) (Or.inl ⟨by rfl, ?hyR7c5x16⟩) (by assumption) ?restR7c5x16
    case hyR7c5x16 => (intro w hSw; (try dsimp only at hSw); go_simp; try (with_reducible rfl))
    try simp only [Act.put, List.setIfInBounds_toArray, List.set_cons_zero, List.set_cons_succ]
    refine wpAnyT_takeB (i := 17) (oi := ⟨some 35, .indexAddr 28 (.tmp 33) (.tmp 34), _, _, _, _⟩) (v := ?vR7c5x17) rfl (by kernel_rfl) (by kernel_rfl) (by kernel_rfl) (by kernel_rfl) (fun _ _ _ h => h) (Or.inl ⟨by rfl, ?hyR7c5x17⟩) (by assumption) ?restR7c5x17
    case hyR7c5x17 => (intro w hSw; (try dsimp only at hSw); go_simp; try (with_reducible rfl))
    try simp only [Act.put, List.setIfInBounds_toArray, List.set_cons_zero, List.set_cons_succ]
    refine wpAnyT_takeB (i := 18) (oi := ⟨some 36, .load 3 (.tmp 35), _, _, _, _⟩) (v := ?vR7c5x18) rfl (by kernel_rfl) (by kernel_rfl) (by kernel_rfl) (by kernel_rfl) (fun _ _ _ h => h) (Or.inl ⟨by rfl, ?hyR7c5x18⟩) (by assumption) ?restR7c5x18
    case hyR7c5x18 => (intro w hSw; (try dsimp only at hSw); go_simp; try (with_reducible rfl))
    try simp only [Act.put, List.setIfInBounds_toArray, List.set_cons_zero, List.set_cons_succ]
    refine wpAnyT_takeB (i := 19) (oi := ⟨some 37, .binOp .geq 3 (.tmp 36) ((.const (.int .i64 0))) 3, _, _, _, _⟩) (v := ?vR7c5x19) rfl (by kernel_rfl) (by kernel_rfl) (by kernel_rfl) (by kernel_rfl) (fun _ _ _ h => h) (Or.inl ⟨by rfl, ?hyR7c5x19⟩) (by assumption) ?restR7c5x19
    case hyR7c5x19 => (intro w hSw; (try dsimp only at hSw); go_simp; try (with_reducible rfl))
    try simp only [Act.put, List.setIfInBounds_toArray, List.set_cons_zero, List.set_cons_succ]
    refine wpAnyT_takeB (i := 20) (oi := ⟨some 38, .pick (.tmp 32) (.tmp 37) ((.const (.bool false))), _, _, _, _⟩) (v := ?vR7c5x20) rfl (by kernel_rfl) (by kernel_rfl) (by kernel_rfl) (by kernel_rfl) (fun _ _ _ h => h) (Or.inl ⟨by rfl, ?hyR7c5x20⟩) (by assumption) ?restR7c5x20
    case hyR7c5x20 => (intro w hSw; (try dsimp only at hSw); go_simp; try (with_reducible rfl))
    try simp only [Act.put, List.setIfInBounds_toArray, List.set_cons_zero, List.set_cons_succ]
    refine wpAnyT_takeB (i := 21) (oi := ⟨some 39, .move (.tmp 38), _, _, _, _⟩) (v := ?vR7c5x21) rfl (by kernel_rfl) (by kernel_rfl) (by kernel_rfl) (by kernel_rfl) (fun _ _ _ h => h) (Or.inl ⟨by rfl, ?hyR7c5x21⟩) (by assumption) ?restR7c5x21
    case hyR7c5x21 => (intro w hSw; (try dsimp only at hSw); go_simp; try (with_reducible rfl))
    try simp only [Act.put, List.setIfInBounds_toArray, List.set_cons_zero, List.set_cons_succ]
    refine wpAnyT_takeB (i := 22) (oi := ⟨some 40, .move (.tmp 0), _, _, _, _⟩) (v := ?vR7c5x22) rfl (by kernel_rfl) (by kernel_rfl) (by kernel_rfl) (by kernel_rfl) (fun _ _ _ h => h) (Or.inl ⟨by rfl, ?hyR7c5x22⟩) (by assumption) ?restR7c5x22
    case hyR7c5x22 => (intro w hSw; (try dsimp only at hSw); go_simp; try (with_reducible rfl))
    try simp only [Act.put, List.setIfInBounds_toArray, List.set_cons_zero, List.set_cons_succ]
    refine wpAnyT_takeB (i := 23) (oi := ⟨some 41, .move (.tmp 6), _, _, _, _⟩) (v := ?vR7c5x23) rfl (by kernel_rfl) (by kernel_rfl) (by kernel_rfl) (by kernel_rfl) (fun _ _ _ h => h) (Or.inl ⟨by rfl, ?hyR7c5x23⟩) (by assumption) ?restR7c5x23
    case hyR7c5x23 => (intro w hSw; (try dsimp only at hSw); go_simp; try (with_reducible rfl))
    try simp only [Act.put, List.setIfInBounds_toArray, List.set_cons_zero, List.set_cons_succ]
    refine wpAnyT_takeB (i := 24) (oi := ⟨some 42, .indexAddr 28 (.tmp 40) (.tmp 41), _, _, _, _⟩) (v := ?vR7c5x24) rfl (by kernel_rfl) (by kernel_rfl) (by kernel_rfl) (by kernel_rfl) (fun _ _ _ h => h) (Or.inl ⟨by rfl, ?hyR7c5x24⟩) (by assumption) ?restR7c5x24
    case hyR7c5x24 => (intro w hSw; (try dsimp only at hSw); go_simp; try (with_reducible rfl))
    try simp only [Act.put, List.setIfInBounds_toArray, List.set_cons_zero, List.set_cons_succ]
    refine wpAnyT_takeB (i := 25) (oi := ⟨some 43, .load 3 (.tmp 42), _, _, _, _⟩) (v := ?vR7c5x25) rfl (by kernel_rfl) (by kernel_rfl) (by kernel_rfl) (by kernel_rfl) (fun _ _ _ h => h) (Or.inl ⟨by rfl, ?hyR7c5x25⟩) (by assumption) ?restR7c5x25
    case hyR7c5x25 => (intro w hSw; (try dsimp only at hSw); go_simp; try (with_reducible rfl))
    try simp only [Act.put, List.setIfInBounds_toArray, List.set_cons_zero, List.set_cons_succ]
    refine wpAnyT_takeB (i := 26) (oi := ⟨some 44, .move (.tmp 1), _, _, _, _⟩) (v := ?vR7c5x26) rfl (by kernel_rfl) (by kernel_rfl) (by kernel_rfl) (by kernel_rfl) (fun _ _ _ h => h) (Or.inl ⟨by rfl, ?hyR7c5x26⟩) (by assumption) ?restR7c5x26
    case hyR7c5x26 => (intro w hSw; (try dsimp only at hSw); go_simp; try (with_reducible rfl))
    try simp only [Act.put, List.setIfInBounds_toArray, List.set_cons_zero, List.set_cons_succ]
    refine wpAnyT_takeB (i := 27) (oi := ⟨some 45, .call { callee := .builtin .len, args := #[(.tmp 44)], argTypes := #[28] }, _, _, _, _⟩) (v := ?vR7c5x27) rfl (by kernel_rfl) (by kernel_rfl) (by kernel_rfl) (by kernel_rfl) (fun _ _ _ h => h) (Or.inl ⟨by rfl, ?hyR7c5x27⟩) (by assumption) ?restR7c5x27
    case hyR7c5x27 => (intro w hSw; (try dsimp only at hSw); go_simp; try (with_reducible rfl))
    try simp only [Act.put, List.setIfInBounds_toArray, List.set_cons_zero, List.set_cons_succ]
    refine wpAnyT_takeB (i := 28) (oi := ⟨some 46, .binOp .lss 3 (.tmp 43) (.tmp 45) 3, _, _, _, _⟩) (v := ?vR7c5x28) rfl (by kernel_rfl) (by kernel_rfl) (by kernel_rfl) (by kernel_rfl) (fun _ _ _ h => h) (Or.inl ⟨by rfl, ?hyR7c5x28⟩) (by assumption) ?restR7c5x28
    case hyR7c5x28 => (intro w hSw; (try dsimp only at hSw); go_simp; try (with_reducible rfl))
    try simp only [Act.put, List.setIfInBounds_toArray, List.set_cons_zero, List.set_cons_succ]
    refine wpAnyT_takeB (i := 29) (oi := ⟨some 47, .pick (.tmp 39) (.tmp 46) ((.const (.bool false))), _, _, _, _⟩) (v := ?vR7c5x29) rfl (by kernel_rfl) (by kernel_rfl) (by kernel_rfl) (by kernel_rfl) (fun _ _ _ h => h) (Or.inl ⟨by rfl, ?hyR7c5x29⟩) (by assumption) ?restR7c5x29
    case hyR7c5x29 => (intro w hSw; (try dsimp only at hSw); go_simp; try (with_reducible rfl))
    try simp only [Act.put, List.setIfInBounds_toArray, List.set_cons_zero, List.set_cons_succ]
    refine wpAnyT_takeB (i := 30) (oi := ⟨some 48, .move (.tmp 47), _, _, _, _⟩) (v := ?vR7c5x30) rfl (by kernel_rfl) (by kernel_rfl) (by kernel_rfl) (by kernel_rfl) (fun _ _ _ h => h) (Or.inl ⟨by rfl, ?hyR7c5x30⟩) (by assumption) ?restR7c5x30
    case hyR7c5x30 => (intro w hSw; (try dsimp only at hSw); go_simp; try (with_reducible rfl))
    try simp only [Act.put, List.setIfInBounds_toArray, List.set_cons_zero, List.set_cons_succ]
    refine wpAnyT_takeB (i := 31) (oi := ⟨some 49, .move (.tmp 1), _, _, _, _⟩) (v := ?vR7c5x31) rfl (by kernel_rfl) (by kernel_rfl) (by kernel_rfl) (by kernel_rfl) (fun _ _ _ h => h) (Or.inl ⟨by rfl, ?hyR7c5x31⟩) (by assumption) ?restR7c5x31
    case hyR7c5x31 => (intro w hSw; (try dsimp only at hSw); go_simp; try (with_reducible rfl))
    try simp only [Act.put, List.setIfInBounds_toArray, List.set_cons_zero, List.set_cons_succ]
    refine wpAnyT_takeB (i := 32) (oi := ⟨some 50, .move (.tmp 0), _, _, _, _⟩) (v := ?vR7c5x32) rfl (by kernel_rfl) (by kernel_rfl) (by kernel_rfl) (by kernel_rfl) (fun _ _ _ h => h) (Or.inl ⟨by rfl, ?hyR7c5x32⟩) (by assumption) ?restR7c5x32
    case hyR7c5x32 => (intro w hSw; (try dsimp only at hSw); go_simp; try (with_reducible rfl))
    try simp only [Act.put, List.setIfInBounds_toArray, List.set_cons_zero, List.set_cons_succ]
    refine wpAnyT_takeB (i := 33) (oi := ⟨some 51, .move (.tmp 5), _, _, _, _⟩) (v := ?vR7c5x33) rfl (by kernel_rfl) (by kernel_rfl) (by kernel_rfl) (by kernel_rfl) (fun _ _ _ h => h) (Or.inl ⟨by rfl, ?hyR7c5x33⟩) (by assumption) ?restR7c5x33
    case hyR7c5x33 => (intro w hSw; (try dsimp only at hSw); go_simp; try (with_reducible rfl))
    try simp only [Act.put, List.setIfInBounds_toArray, List.set_cons_zero, List.set_cons_succ]
    refine wpAnyT_takeB (i := 34) (oi := ⟨some 52, .indexAddr 28 (.tmp 50) (.tmp 51), _, _, _, _⟩) (v := ?vR7c5x34) rfl (by kernel_rfl) (by kernel_rfl) (by kernel_rfl) (by kernel_rfl) (fun _ _ _ h => h) (Or.inl ⟨by rfl, ?hyR7c5x34⟩) (by assumption) ?restR7c5x34
    case hyR7c5x34 => (intro w hSw; (try dsimp only at hSw); go_simp; try (with_reducible rfl))
    try simp only [Act.put, List.setIfInBounds_toArray, List.set_cons_zero, List.set_cons_succ]
    refine wpAnyT_takeB (i := 35) (oi := ⟨some 53, .load 3 (.tmp 52), _, _, _, _⟩) (v := ?vR7c5x35) rfl (by kernel_rfl) (by kernel_rfl) (by kernel_rfl) (by kernel_rfl) (fun _ _ _ h => h) (Or.inl ⟨by rfl, ?hyR7c5x35⟩) (by assumption) ?restR7c5x35
    case hyR7c5x35 => (intro w hSw; (try dsimp only at hSw); go_simp; try (with_reducible rfl))
    try simp only [Act.put, List.setIfInBounds_toArray, List.set_cons_zero, List.set_cons_succ]
    refine wpAnyT_takeB (i := 36) (oi := ⟨some 54, .indexAddr 28 (.tmp 49) (.tmp 53), _, _, _, _⟩) (v := ?vR7c5x36) rfl (by kernel_rfl) (by kernel_rfl) (by kernel_rfl) (by kernel_rfl) (fun _ _ _ h => h) (Or.inl ⟨by rfl, ?hyR7c5x36⟩) (by assumption) ?restR7c5x36
    case hyR7c5x36 => (intro w hSw; (try dsimp only at hSw); go_simp; try (with_reducible rfl))
    try simp only [Act.put, List.setIfInBounds_toArray, List.set_cons_zero, List.set_cons_succ]
    refine wpAnyT_takeB (i := 37) (oi := ⟨some 55, .load 3 (.tmp 54), _, _, _, _⟩) (v := ?vR7c5x37) rfl (by kernel_rfl) (by kernel_rfl) (by kernel_rfl) (by kernel_rfl) (fun _ _ _ h => h) (Or.inl ⟨by rfl, ?hyR7c5x37⟩) (by assumption) ?restR7c5x37
    case hyR7c5x37 => (intro w hSw; (try dsimp only at hSw); go_simp; try (with_reducible rfl))
    try simp only [Act.put, List.setIfInBounds_toArray, List.set_cons_zero, List.set_cons_succ]
    refine wpAnyT_takeB (i := 38) (oi := ⟨some 56, .move (.tmp 1), _, _, _, _⟩) (v := ?vR7c5x38) rfl (by kernel_rfl) (by kernel_rfl) (by kernel_rfl) (by kernel_rfl) (fun _ _ _ h => h) (Or.inl ⟨by rfl, ?hyR7c5x38⟩) (by assumption) ?restR7c5x38
    case hyR7c5x38 => (intro w hSw; (try dsimp only at hSw); go_simp; try (with_reducible rfl))
    try simp only [Act.put, List.setIfInBounds_toArray, List.set_cons_zero, List.set_cons_succ]
    refine wpAnyT_takeB (i := 39) (oi := ⟨some 57, .move (.tmp 0), _, _, _, _⟩) (v := ?vR7c5x39) rfl (by kernel_rfl) (by kernel_rfl) (by kernel_rfl) (by kernel_rfl) (fun _ _ _ h => h) (Or.inl ⟨by rfl, ?hyR7c5x39⟩) (by assumption) ?restR7c5x39
    case hyR7c5x39 => (intro w hSw; (try dsimp only at hSw); go_simp; try (with_reducible rfl))
    try simp only [Act.put, List.setIfInBounds_toArray, List.set_cons_zero, List.set_cons_succ]
    refine wpAnyT_takeB (i := 40) (oi := ⟨some 58, .move (.tmp 6), _, _, _, _⟩) (v := ?vR7c5x40) rfl (by kernel_rfl) (by kernel_rfl) (by kernel_rfl) (by kernel_rfl) (fun _ _ _ h => h) (Or.inl ⟨by rfl, ?hyR7c5x40⟩) (by assumption) ?restR7c5x40
    case hyR7c5x40 => (intro w hSw; (try dsimp only at hSw); go_simp; try (with_reducible rfl))
    try simp only [Act.put, List.setIfInBounds_toArray, List.set_cons_zero, List.set_cons_succ]
    refine wpAnyT_takeB (i := 41) (oi := ⟨some 59, .indexAddr 28 (.tmp 57) (.tmp 58), _, _, _, _⟩) (v := ?vR7c5x41) rfl (by kernel_rfl) (by kernel_rfl) (by kernel_rfl) (by kernel_rfl) (fun _ _ _ h => h) (Or.inl ⟨by rfl, ?hyR7c5x41⟩) (by assumption) ?restR7c5x41
    case hyR7c5x41 => (intro w hSw; (try dsimp only at hSw); go_simp; try (with_reducible rfl))
    try simp only [Act.put, List.setIfInBounds_toArray, List.set_cons_zero, List.set_cons_succ]
    refine wpAnyT_takeB (i := 42) (oi := ⟨some 60, .load 3 (.tmp 59), _, _, _, _⟩) (v := ?vR7c5x42) rfl (by kernel_rfl) (by kernel_rfl) (by kernel_rfl) (by kernel_rfl) (fun _ _ _ h => h) (Or.inl ⟨by rfl, ?hyR7c5x42⟩) (by assumption) ?restR7c5x42
    case hyR7c5x42 => (intro w hSw; (try dsimp only at hSw); go_simp; try (with_reducible rfl))
    try simp only [Act.put, List.setIfInBounds_toArray, List.set_cons_zero, List.set_cons_succ]
    refine wpAnyT_takeB (i := 43) (oi := ⟨some 61, .indexAddr 28 (.tmp 56) (.tmp 60), _, _, _, _⟩) (v := ?vR7c5x43) rfl (by kernel_rfl) (by kernel_rfl) (by kernel_rfl) (by kernel_rfl) (fun _ _ _ h => h) (Or.inl ⟨by rfl, ?hyR7c5x43⟩) (by assumption) ?restR7c5x43
    case hyR7c5x43 => (intro w hSw; (try dsimp only at hSw); go_simp; try (with_reducible rfl))
    try simp only [Act.put, List.setIfInBounds_toArray, List.set_cons_zero, List.set_cons_succ]
    refine wpAnyT_takeB (i := 44) (oi := ⟨some 62, .load 3 (.tmp 61), _, _, _, _⟩) (v := ?vR7c5x44) rfl (by kernel_rfl) (by kernel_rfl) (by kernel_rfl) (by kernel_rfl) (fun _ _ _ h => h) (Or.inl ⟨by rfl, ?hyR7c5x44⟩) (by assumption) ?restR7c5x44
    case hyR7c5x44 => (intro w hSw; (try dsimp only at hSw); go_simp; try (with_reducible rfl))
    try simp only [Act.put, List.setIfInBounds_toArray, List.set_cons_zero, List.set_cons_succ]
    refine wpAnyT_takeB (i := 45) (oi := ⟨some 63, .binOp .eql 3 (.tmp 55) (.tmp 62) 3, _, _, _, _⟩) (v := ?vR7c5x45) rfl (by kernel_rfl) (by kernel_rfl) (by kernel_rfl) (by kernel_rfl) (fun _ _ _ h => h) (Or.inl ⟨by rfl, ?hyR7c5x45⟩) (by assumption) ?restR7c5x45
    case hyR7c5x45 => (intro w hSw; (try dsimp only at hSw); go_simp; try (with_reducible rfl))
    try simp only [Act.put, List.setIfInBounds_toArray, List.set_cons_zero, List.set_cons_succ]
    refine wpAnyT_takeB (i := 46) (oi := ⟨some 64, .pick (.tmp 48) (.tmp 63) ((.const (.bool false))), _, _, _, _⟩) (v := ?vR7c5x46) rfl (by kernel_rfl) (by kernel_rfl) (by kernel_rfl) (by kernel_rfl) (fun _ _ _ h => h) (Or.inl ⟨by rfl, ?hyR7c5x46⟩) (by assumption) ?restR7c5x46
    case hyR7c5x46 => (intro w hSw; (try dsimp only at hSw); go_simp; try (with_reducible rfl))
    try simp only [Act.put, List.setIfInBounds_toArray, List.set_cons_zero, List.set_cons_succ]
    refine wpAnyT_done (by kernel_rfl) ?_ _
    go_wp2_with fail
    go_ret
    exact ⟨⟨false, rfl, ⟨(fun h => by cases h), fun h => absurd h (HYX.out HN.out)⟩⟩, HBy.out.trans ((Below.refl _ _).drew.mono HBy.out.size)⟩
  case neg =>
    have HN : Hid (clash vs (m : Int) (n : Int) = false) := by show _ = _; rw [HCl.out]; exact decide_eq_false huv
    go_upto_region 7 with fail
    refine wp_region_T (fun w' => (w'.cell? ⟨b, off + i, none⟩ = some (.int .i64 (m : Int)) ∧ w'.cell? ⟨b, off + k, none⟩ = some (.int .i64 (n : Int))) ∧ w'.cell? ⟨vb, vo + m, none⟩ = some (.int .i64 u) ∧ w'.cell? ⟨vb, vo + n, none⟩ = some (.int .i64 v)) (fun _ => True) [] (by kernel_rfl) ⟨HC3.out _ (Below.refl _ _).drew, trivial⟩ (fun hHeld => ?_)
    refine wpAnyT_takeB (i := 0) (oi := ⟨some 18, .move (.tmp 0), _, _, _, _⟩) (v := ?vR7c6x0) rfl (by kernel_rfl) (by kernel_rfl) (by kernel_rfl) (by kernel_rfl) (fun _ _ _ h => h) (Or.inl ⟨by rfl, ?hyR7c6x0⟩) (by assumption) ?restR7c6x0
    case hyR7c6x0 => (intro w hSw; (try dsimp only at hSw); go_simp; try (with_reducible rfl))
    try simp only [Act.put, List.setIfInBounds_toArray, List.set_cons_zero, List.set_cons_succ]
    refine wpAnyT_takeB (i := 1) (oi := ⟨some 19, .move (.tmp 5), _, _, _, _⟩) (v := ?vR7c6x1) rfl (by kernel_rfl) (by kernel_rfl) (by kernel_rfl) (by kernel_rfl) (fun _ _ _ h => h) (Or.inl ⟨by rfl, ?hyR7c6x1⟩) (by assumption) ?restR7c6x1
    case hyR7c6x1 => (intro w hSw; (try dsimp only at hSw); go_simp; try (with_reducible rfl))
    try simp only [Act.put, List.setIfInBounds_toArray, List.set_cons_zero, List.set_cons_succ]
    refine wpAnyT_takeB (i := 2) (oi := ⟨some 20, .indexAddr 28 (.tmp 18) (.tmp 19), _, _, _, _⟩) (v := ?vR7c6x2) rfl (by kernel_rfl) (by kernel_rfl) (by kernel_rfl) (by kernel_rfl) (fun _ _ _ h => h) (Or.inl ⟨by rfl, ?hyR7c6x2⟩) (by assumption) ?restR7c6x2
    case hyR7c6x2 => (intro w hSw; (try dsimp only at hSw); go_simp; try (with_reducible rfl))
    try simp only [Act.put, List.setIfInBounds_toArray, List.set_cons_zero, List.set_cons_succ]
    refine wpAnyT_takeB (i := 3) (oi := ⟨some 21, .load 3 (.tmp 20), _, _, _, _⟩) (v := ?vR7c6x3) rfl (by kernel_rfl) (by kernel_rfl) (by kernel_rfl) (by kernel_rfl) (fun _ _ _ h => h) (Or.inl ⟨by rfl, ?hyR7c6x3⟩) (by assumption) ?restR7c6x3
    case hyR7c6x3 => (intro w hSw; (try dsimp only at hSw); go_simp; try (with_reducible rfl))
    try simp only [Act.put, List.setIfInBounds_toArray, List.set_cons_zero, List.set_cons_succ]
    refine wpAnyT_takeB (i := 4) (oi := ⟨some 22, .binOp .geq 3 (.tmp 21) ((.const (.int .i64 0))) 3, _, _, _, _⟩) (v := ?vR7c6x4) rfl (by kernel_rfl) (by kernel_rfl) (by kernel_rfl) (by kernel_rfl) (fun _ _ _ h => h) (Or.inl ⟨by rfl, ?hyR7c6x4⟩) (by assumption) ?restR7c6x4
    case hyR7c6x4 => (intro w hSw; (try dsimp only at hSw); go_simp; try (with_reducible rfl))
    try simp only [Act.put, List.setIfInBounds_toArray, List.set_cons_zero, List.set_cons_succ]
    refine wpAnyT_takeB (i := 5) (oi := ⟨some 23, .move (.tmp 22), _, _, _, _⟩) (v := ?vR7c6x5) rfl (by kernel_rfl) (by kernel_rfl) (by kernel_rfl) (by kernel_rfl) (fun _ _ _ h => h) (Or.inl ⟨by rfl, ?hyR7c6x5⟩) (by assumption) ?restR7c6x5
    case hyR7c6x5 => (intro w hSw; (try dsimp only at hSw); go_simp; try (with_reducible rfl))
    try simp only [Act.put, List.setIfInBounds_toArray, List.set_cons_zero, List.set_cons_succ]
    refine wpAnyT_takeB (i := 6) (oi := ⟨some 24, .move (.tmp 0), _, _, _, _⟩) (v := ?vR7c6x6) rfl (by kernel_rfl) (by kernel_rfl) (by kernel_rfl) (by kernel_rfl) (fun _ _ _ h => h) (Or.inl ⟨by rfl, ?hyR7c6x6⟩) (by assumption) ?restR7c6x6
    case hyR7c6x6 => (intro w hSw; (try dsimp only at hSw); go_simp; try (with_reducible rfl))
    try simp only [Act.put, List.setIfInBounds_toArray, List.set_cons_zero, List.set_cons_succ]
    refine wpAnyT_takeB (i := 7) (oi := ⟨some 25, .move (.tmp 5), _, _, _, _⟩) (v := ?vR7c6x7) rfl (by kernel_rfl) (by kernel_rfl) (by kernel_rfl) (by kernel_rfl) (fun _ _ _ h => h) (Or.inl ⟨by rfl, ?hyR7c6x7⟩) (by assumption) ?restR7c6x7
    case hyR7c6x7 => (intro w hSw; (try dsimp only at hSw); go_simp; try (with_reducible rfl))
    try simp only [Act.put, List.setIfInBounds_toArray, List.set_cons_zero, List.set_cons_succ]
    refine wpAnyT_takeB (i := 8) (oi := ⟨some 26, .indexAddr 28 (.tmp 24) (.tmp 25), _, _, _, _⟩) (v := ?vR7c6x8) rfl (by kernel_rfl) (by kernel_rfl) (by kernel_rfl) (by kernel_rfl) (fun _ _ _ h => h) (Or.inl ⟨by rfl, ?hyR7c6x8⟩) (by assumption) ?restR7c6x8
    case hyR7c6x8 => (intro w hSw; (try dsimp only at hSw); go_simp; try (with_reducible rfl))
    try simp only [Act.put, List.setIfInBounds_toArray, List.set_cons_zero, List.set_cons_succ]
    refine wpAnyT_takeB (i := 9) (oi := ⟨some 27, .load 3 (.tmp 26), _, _, _, _⟩) (v := ?vR7c6x9) rfl (by kernel_rfl) (by kernel_rfl) (by kernel_rfl) (by kernel_rfl) (fun _ _ _ h => h) (Or.inl ⟨by rfl, ?hyR7c6x9⟩) (by assumption) ?restR7c6x9
    case hyR7c6x9 => (intro w hSw; (try dsimp only at hSw); go_simp; try (with_reducible rfl))
    try simp only [Act.put, List.setIfInBounds_toArray, List.set_cons_zero, List.set_cons_succ]
    refine wpAnyT_takeB (i := 10) (oi := ⟨some 28, .move (.tmp 1), _, _, _, _⟩) (v := ?vR7c6x10) rfl (by kernel_rfl) (by kernel_rfl) (by kernel_rfl) (by kernel_rfl) (fun _ _ _ h => h) (Or.inl ⟨by rfl, ?hyR7c6x10⟩) (by assumption) ?restR7c6x10
    case hyR7c6x10 => (intro w hSw; (try dsimp only at hSw); go_simp; try (with_reducible rfl))
    try simp only [Act.put, List.setIfInBounds_toArray, List.set_cons_zero, List.set_cons_succ]
    refine wpAnyT_takeB (i := 11) (oi := ⟨some 29, .call { callee := .builtin .len, args := #[(.tmp 28)], argTypes := #[28] }, _, _, _, _⟩) (v := ?vR7c6x11) rfl (by kernel_rfl) (by kernel_rfl) (by kernel_rfl) (by kernel_rfl) (fun _ _ _ h => h) (Or.inl ⟨by rfl, ?hyR7c6x11⟩) (by assumption) ?restR7c6x11
    case hyR7c6x11 => (intro w hSw; (try dsimp only at hSw); go_simp; try (with_reducible rfl))
    try simp only [Act.put, List.setIfInBounds_toArray, List.set_cons_zero, List.set_cons_succ]
    refine wpAnyT_takeB (i := 12) (oi := ⟨some 30, .binOp .lss 3 (.tmp 27) (.tmp 29) 3, _, _, _, _⟩) (v := ?vR7c6x12) rfl (by kernel_rfl) (by kernel_rfl) (by kernel_rfl) (by kernel_rfl) (fun _ _ _ h => h) (Or.inl ⟨by rfl, ?hyR7c6x12⟩) (by assumption) ?restR7c6x12
    case hyR7c6x12 => (intro w hSw; (try dsimp only at hSw); go_simp; try (with_reducible rfl))
    try simp only [Act.put, List.setIfInBounds_toArray, List.set_cons_zero, List.set_cons_succ]
    refine wpAnyT_takeB (i := 13) (oi := ⟨some 31, .pick (.tmp 23) (.tmp 30) ((.const (.bool false))), _, _, _, _⟩) (v := ?vR7c6x13) rfl (by kernel_rfl) (by kernel_rfl) (by kernel_rfl) (by kernel_rfl) (fun _ _ _ h => h) (Or.inl ⟨by rfl, ?hyR7c6x13⟩) (by assumption) ?restR7c6x13
    case hyR7c6x13 => (intro w hSw; (try dsimp only at hSw); go_simp; try (with_reducible rfl))
    try simp only [Act.put, List.setIfInBounds_toArray, List.set_cons_zero, List.set_cons_succ]
    refine wpAnyT_takeB (i := 14) (oi := ⟨some 32, .move (.tmp 31), _, _, _, _⟩) (v := ?vR7c6x14) rfl (by kernel_rfl) (by kernel_rfl) (by kernel_rfl) (by kernel_rfl) (fun _ _ _ h => h) (Or.inl ⟨by rfl, ?hyR7c6x14⟩) (by assumption) ?restR7c6x14
    case hyR7c6x14 => (intro w hSw; (try dsimp only at hSw); go_simp; try (with_reducible rfl))
    try simp only [Act.put, List.setIfInBounds_toArray, List.set_cons_zero, List.set_cons_succ]
    refine wpAnyT_takeB (i := 15) (oi := ⟨some 33, .move (.tmp 0), _, _, _, _⟩) (v := ?vR7c6x15) rfl (by kernel_rfl) (by kernel_rfl) (by kernel_rfl) (by kernel_rfl) (fun _ _ _ h => h) (Or.inl ⟨by rfl, ?hyR7c6x15⟩) (by assumption) ?restR7c6x15
    case hyR7c6x15 => (intro w hSw; (try dsimp only at hSw); go_simp; try (with_reducible rfl))
    try simp only [Act.put, List.setIfInBounds_toArray, List.set_cons_zero, List.set_cons_succ]
    refine wpAnyT_takeB (i := 16) (oi := ⟨some 34, .move (.tmp 6), _, _, _, _⟩) (v := ?vR7c6x16) rfl (by kernel_rfl) (by kernel_rfl) (by kernel_rfl) (by kernel_rfl) (fun _ _ _ h => h) (Or.inl ⟨by rfl, ?hyR7c6x16⟩) (by assumption) ?restR7c6x16
    case hyR7c6x16 => (intro w hSw; (try dsimp only at hSw); go_simp; try (with_reducible rfl))
    try simp only [Act.put, List.setIfInBounds_toArray, List.set_cons_zero, List.set_cons_succ]
    refine wpAnyT_takeB (i := 17) (oi := ⟨some 35, .indexAddr 28 (.tmp 33) (.tmp 34), _, _, _, _⟩) (v := ?vR7c6x17) rfl (by kernel_rfl) (by kernel_rfl) (by kernel_rfl) (by kernel_rfl) (fun _ _ _ h => h) (Or.inl ⟨by rfl, ?hyR7c6x17⟩) (by assumption) ?restR7c6x17
    case hyR7c6x17 => (intro w hSw; (try dsimp only at hSw); go_simp; try (with_reducible rfl))
    try simp only [Act.put, List.setIfInBounds_toArray, List.set_cons_zero, List.set_cons_succ]
    refine wpAnyT_takeB (i := 18) (oi := ⟨some 36, .load 3 (.tmp 35), _, _, _, _⟩) (v := ?vR7c6x18) rfl (by kernel_rfl) (by kernel_rfl) (by kernel_rfl) (by kernel_rfl) (fun _ _ _ h => h) (Or.inl ⟨by rfl, ?hyR7c6x18⟩) (by assumption) ?restR7c6x18
    case hyR7c6x18 => (intro w hSw; (try dsimp only at hSw); go_simp; try (with_reducible rfl))
    try simp only [Act.put, List.setIfInBounds_toArray, List.set_cons_zero, List.set_cons_succ]
    refine wpAnyT_takeB (i := 19) (oi := ⟨some 37, .binOp .geq 3 (.tmp 36) ((.const (.int .i64 0))) 3, _, _, _, _⟩) (v := ?vR7c6x19) rfl (by kernel_rfl) (by kernel_rfl) (by kernel_rfl) (by kernel_rfl) (fun _ _ _ h => h) (Or.inl ⟨by rfl, ?hyR7c6x19⟩) (by assumption) ?restR7c6x19
    case hyR7c6x19 => (intro w hSw; (try dsimp only at hSw); go_simp; try (with_reducible rfl))
    try simp only [Act.put, List.setIfInBounds_toArray, List.set_cons_zero, List.set_cons_succ]
    refine wpAnyT_takeB (i := 20) (oi := ⟨some 38, .pick (.tmp 32) (.tmp 37) ((.const (.bool false))), _, _, _, _⟩) (v := ?vR7c6x20) rfl (by kernel_rfl) (by kernel_rfl) (by kernel_rfl) (by kernel_rfl) (fun _ _ _ h => h) (Or.inl ⟨by rfl, ?hyR7c6x20⟩) (by assumption) ?restR7c6x20
    case hyR7c6x20 => (intro w hSw; (try dsimp only at hSw); go_simp; try (with_reducible rfl))
    try simp only [Act.put, List.setIfInBounds_toArray, List.set_cons_zero, List.set_cons_succ]
    refine wpAnyT_takeB (i := 21) (oi := ⟨some 39, .move (.tmp 38), _, _, _, _⟩) (v := ?vR7c6x21) rfl (by kernel_rfl) (by kernel_rfl) (by kernel_rfl) (by kernel_rfl) (fun _ _ _ h => h) (Or.inl ⟨by rfl, ?hyR7c6x21⟩) (by assumption) ?restR7c6x21
    case hyR7c6x21 => (intro w hSw; (try dsimp only at hSw); go_simp; try (with_reducible rfl))
    try simp only [Act.put, List.setIfInBounds_toArray, List.set_cons_zero, List.set_cons_succ]
    refine wpAnyT_takeB (i := 22) (oi := ⟨some 40, .move (.tmp 0), _, _, _, _⟩) (v := ?vR7c6x22) rfl (by kernel_rfl) (by kernel_rfl) (by kernel_rfl) (by kernel_rfl) (fun _ _ _ h => h) (Or.inl ⟨by rfl, ?hyR7c6x22⟩) (by assumption) ?restR7c6x22
    case hyR7c6x22 => (intro w hSw; (try dsimp only at hSw); go_simp; try (with_reducible rfl))
    try simp only [Act.put, List.setIfInBounds_toArray, List.set_cons_zero, List.set_cons_succ]
    refine wpAnyT_takeB (i := 23) (oi := ⟨some 41, .move (.tmp 6), _, _, _, _⟩) (v := ?vR7c6x23) rfl (by kernel_rfl) (by kernel_rfl) (by kernel_rfl) (by kernel_rfl) (fun _ _ _ h => h) (Or.inl ⟨by rfl, ?hyR7c6x23⟩) (by assumption) ?restR7c6x23
    case hyR7c6x23 => (intro w hSw; (try dsimp only at hSw); go_simp; try (with_reducible rfl))
    try simp only [Act.put, List.setIfInBounds_toArray, List.set_cons_zero, List.set_cons_succ]
    refine wpAnyT_takeB (i := 24) (oi := ⟨some 42, .indexAddr 28 (.tmp 40) (.tmp 41), _, _, _, _⟩) (v := ?vR7c6x24) rfl (by kernel_rfl) (by kernel_rfl) (by kernel_rfl) (by kernel_rfl) (fun _ _ _ h => h) (Or.inl ⟨by rfl, ?hyR7c6x24⟩) (by assumption) ?restR7c6x24
    case hyR7c6x24 => (intro w hSw; (try dsimp only at hSw); go_simp; try (with_reducible rfl))
    try simp only [Act.put, List.setIfInBounds_toArray, List.set_cons_zero, List.set_cons_succ]
    refine wpAnyT_takeB (i := 25) (oi := ⟨some 43, .load 3 (.tmp 42), _, _, _, _⟩) (v := ?vR7c6x25) rfl (by kernel_rfl) (by kernel_rfl) (by kernel_rfl) (by kernel_rfl) (fun _ _ _ h => h) (Or.inl ⟨by rfl, ?hyR7c6x25⟩) (by assumption) ?restR7c6x25
    case hyR7c6x25 => (intro w hSw; (try dsimp only at hSw); go_simp; try (with_reducible rfl))
    try simp only [Act.put, List.setIfInBounds_toArray, List.set_cons_zero, List.set_cons_succ]
    refine wpAnyT_takeB (i := 26) (oi := ⟨some 44, .move (.tmp 1), _, _, _, _⟩) (v := ?vR7c6x26) rfl (by kernel_rfl) (by kernel_rfl) (by kernel_rfl) (by kernel_rfl) (fun _ _ _ h => h) (Or.inl ⟨by rfl, ?hyR7c6x26⟩) (by assumption) ?restR7c6x26
    case hyR7c6x26 => (intro w hSw; (try dsimp only at hSw); go_simp; try (with_reducible rfl))
    try simp only [Act.put, List.setIfInBounds_toArray, List.set_cons_zero, List.set_cons_succ]
    refine wpAnyT_takeB (i := 27) (oi := ⟨some 45, .call { callee := .builtin .len, args := #[(.tmp 44)], argTypes := #[28] }, _, _, _, _⟩) (v := ?vR7c6x27) rfl (by kernel_rfl) (by kernel_rfl) (by kernel_rfl) (by kernel_rfl) (fun _ _ _ h => h) (Or.inl ⟨by rfl, ?hyR7c6x27⟩) (by assumption) ?restR7c6x27
    case hyR7c6x27 => (intro w hSw; (try dsimp only at hSw); go_simp; try (with_reducible rfl))
    try simp only [Act.put, List.setIfInBounds_toArray, List.set_cons_zero, List.set_cons_succ]
    refine wpAnyT_takeB (i := 28) (oi := ⟨some 46, .binOp .lss 3 (.tmp 43) (.tmp 45) 3, _, _, _, _⟩) (v := ?vR7c6x28) rfl (by kernel_rfl) (by kernel_rfl) (by kernel_rfl) (by kernel_rfl) (fun _ _ _ h => h) (Or.inl ⟨by rfl, ?hyR7c6x28⟩) (by assumption) ?restR7c6x28
    case hyR7c6x28 => (intro w hSw; (try dsimp only at hSw); go_simp; try (with_reducible rfl))
    try simp only [Act.put, List.setIfInBounds_toArray, List.set_cons_zero, List.set_cons_succ]
    refine wpAnyT_takeB (i := 29) (oi := ⟨some 47, .pick (.tmp 39) (.tmp 46) ((.const (.bool false))), _, _, _, _⟩) (v := ?vR7c6x29) rfl (by kernel_rfl) (by kernel_rfl) (by kernel_rfl) (by kernel_rfl) (fun _ _ _ h => h) (Or.inl ⟨by rfl, ?hyR7c6x29⟩) (by assumption) ?restR7c6x29
    case hyR7c6x29 => (intro w hSw; (try dsimp only at hSw); go_simp; try (with_reducible rfl))
    try simp only [Act.put, List.setIfInBounds_toArray, List.set_cons_zero, List.set_cons_succ]
    refine wpAnyT_takeB (i := 30) (oi := ⟨some 48, .move (.tmp 47), _, _, _, _⟩) (v := ?vR7c6x30) rfl (by kernel_rfl) (by kernel_rfl) (by kernel_rfl) (by kernel_rfl) (fun _ _ _ h => h) (Or.inl ⟨by rfl, ?hyR7c6x30⟩) (by assumption) ?restR7c6x30
    case hyR7c6x30 => (intro w hSw; (try dsimp only at hSw); go_simp; try (with_reducible rfl))
    try simp only [Act.put, List.setIfInBounds_toArray, List.set_cons_zero, List.set_cons_succ]
    refine wpAnyT_takeB (i := 31) (oi := ⟨some 49, .move (.tmp 1), _, _, _, _⟩) (v := ?vR7c6x31) rfl (by kernel_rfl) (by kernel_rfl) (by kernel_rfl) (by kernel_rfl) (fun _ _ _ h => h) (Or.inl ⟨by rfl, ?hyR7c6x31⟩) (by assumption) ?restR7c6x31
    case hyR7c6x31 => (intro w hSw; (try dsimp only at hSw); go_simp; try (with_reducible rfl))
    try simp only [Act.put, List.setIfInBounds_toArray, List.set_cons_zero, List.set_cons_succ]
    refine wpAnyT_takeB (i := 32) (oi := ⟨some 50, .move (.tmp 0), _, _, _, _⟩) (v := ?vR7c6x32) rfl (by kernel_rfl) (by kernel_rfl) (by kernel_rfl) (by kernel_rfl) (fun _ _ _ h => h) (Or.inl ⟨by rfl, ?hyR7c6x32⟩) (by assumption) ?restR7c6x32
    case hyR7c6x32 => (intro w hSw; (try dsimp only at hSw); go_simp; try (with_reducible rfl))
    try simp only [Act.put, List.setIfInBounds_toArray, List.set_cons_zero, List.set_cons_succ]
    refine wpAnyT_takeB (i := 33) (oi := ⟨some 51, .move (.tmp 5), _, _, _, _⟩) (v := ?vR7c6x33) rfl (by kernel_rfl) (by kernel_rfl) (by kernel_rfl) (by kernel_rfl) (fun _ _ _ h => h) (Or.inl ⟨by rfl, ?hyR7c6x33⟩) (by assumption) ?restR7c6x33
    case hyR7c6x33 => (intro w hSw; (try dsimp only at hSw); go_simp; try (with_reducible rfl))
    try simp only [Act.put, List.setIfInBounds_toArray, List.set_cons_zero, List.set_cons_succ]
    refine wpAnyT_takeB (i := 34) (oi := ⟨some 52, .indexAddr 28 (.tmp 50) (.tmp 51), _, _, _, _⟩) (v := ?vR7c6x34) rfl (by kernel_rfl) (by kernel_rfl) (by kernel_rfl) (by kernel_rfl) (fun _ _ _ h => h) (Or.inl ⟨by rfl, ?hyR7c6x34⟩) (by assumption) ?restR7c6x34
    case hyR7c6x34 => (intro w hSw; (try dsimp only at hSw); go_simp; try (with_reducible rfl))
    try simp only [Act.put, List.setIfInBounds_toArray, List.set_cons_zero, List.set_cons_succ]
    refine wpAnyT_takeB (i := 35) (oi := ⟨some 53, .load 3 (.tmp 52), _, _, _, _⟩) (v := ?vR7c6x35) rfl (by kernel_rfl) (by kernel_rfl) (by kernel_rfl) (by kernel_rfl) (fun _ _ _ h => h) (Or.inl ⟨by rfl, ?hyR7c6x35⟩) (by assumption) ?restR7c6x35
    case hyR7c6x35 => (intro w hSw; (try dsimp only at hSw); go_simp; try (with_reducible rfl))
    try simp only [Act.put, List.setIfInBounds_toArray, List.set_cons_zero, List.set_cons_succ]
    refine wpAnyT_takeB (i := 36) (oi := ⟨some 54, .indexAddr 28 (.tmp 49) (.tmp 53), _, _, _, _⟩) (v := ?vR7c6x36) rfl (by kernel_rfl) (by kernel_rfl) (by kernel_rfl) (by kernel_rfl) (fun _ _ _ h => h) (Or.inl ⟨by rfl, ?hyR7c6x36⟩) (by assumption) ?restR7c6x36
    case hyR7c6x36 => (intro w hSw; (try dsimp only at hSw); go_simp; try (with_reducible rfl))
    try simp only [Act.put, List.setIfInBounds_toArray, List.set_cons_zero, List.set_cons_succ]
    refine wpAnyT_takeB (i := 37) (oi := ⟨some 55, .load 3 (.tmp 54), _, _, _, _⟩) (v := ?vR7c6x37) rfl (by kernel_rfl) (by kernel_rfl) (by kernel_rfl) (by kernel_rfl) (fun _ _ _ h => h) (Or.inl ⟨by rfl, ?hyR7c6x37⟩) (by assumption) ?restR7c6x37
    case hyR7c6x37 => (intro w hSw; (try dsimp only at hSw); go_simp; try (with_reducible rfl))
    try simp only [Act.put, List.setIfInBounds_toArray, List.set_cons_zero, List.set_cons_succ]
    refine wpAnyT_takeB (i := 38) (oi := ⟨some 56, .move (.tmp 1), _, _, _, _⟩) (v := ?vR7c6x38) rfl (by kernel_rfl) (by kernel_rfl) (by kernel_rfl) (by kernel_rfl) (fun _ _ _ h => h) (Or.inl ⟨by rfl, ?hyR7c6x38⟩) (by assumption) ?restR7c6x38
    case hyR7c6x38 => (intro w hSw; (try dsimp only at hSw); go_simp; try (with_reducible rfl))
    try simp only [Act.put, List.setIfInBounds_toArray, List.set_cons_zero, List.set_cons_succ]
    refine wpAnyT_takeB (i := 39) (oi := ⟨some 57, .move (.tmp 0), _, _, _, _⟩) (v := ?vR7c6x39) rfl (by kernel_rfl) (by kernel_rfl) (by kernel_rfl) (by kernel_rfl) (fun _ _ _ h => h) (Or.inl ⟨by rfl, ?hyR7c6x39⟩) (by assumption) ?restR7c6x39
    case hyR7c6x39 => (intro w hSw; (try dsimp only at hSw); go_simp; try (with_reducible rfl))
    try simp only [Act.put, List.setIfInBounds_toArray, List.set_cons_zero, List.set_cons_succ]
    refine wpAnyT_takeB (i := 40) (oi := ⟨some 58, .move (.tmp 6), _, _, _, _⟩) (v := ?vR7c6x40) rfl (by kernel_rfl) (by kernel_rfl) (by kernel_rfl) (by kernel_rfl) (fun _ _ _ h => h) (Or.inl ⟨by rfl, ?hyR7c6x40⟩) (by assumption) ?restR7c6x40
    case hyR7c6x40 => (intro w hSw; (try dsimp only at hSw); go_simp; try (with_reducible rfl))
    try simp only [Act.put, List.setIfInBounds_toArray, List.set_cons_zero, List.set_cons_succ]
    refine wpAnyT_takeB (i := 41) (oi := ⟨some 59, .indexAddr 28 (.tmp 57) (.tmp 58), _, _, _, _⟩) (v := ?vR7c6x41) rfl (by kernel_rfl) (by kernel_rfl) (by kernel_rfl) (by kernel_rfl) (fun _ _ _ h => h) (Or.inl ⟨by rfl, ?hyR7c6x41⟩) (by assumption) ?restR7c6x41
    case hyR7c6x41 => (intro w hSw; (try dsimp only at hSw); go_simp; try (with_reducible rfl))
    try simp only [Act.put, List.setIfInBounds_toArray, List.set_cons_zero, List.set_cons_succ]
    refine wpAnyT_takeB (i := 42) (oi := ⟨some 60, .load 3 (.tmp 59), _, _, _, _⟩) (v := ?vR7c6x42) rfl (by kernel_rfl) (by kernel_rfl) (by kernel_rfl) (by kernel_rfl) (fun _ _ _ h => h) (Or.inl ⟨by rfl, ?hyR7c6x42⟩) (by assumption) ?restR7c6x42
    case hyR7c6x42 => (intro w hSw; (try dsimp only at hSw); go_simp; try (with_reducible rfl))
    try simp only [Act.put, List.setIfInBounds_toArray, List.set_cons_zero, List.set_cons_succ]
    refine wpAnyT_takeB (i := 43) (oi := ⟨some 61, .indexAddr 28 (.tmp 56) (.tmp 60), _, _, _, _⟩) (v := ?vR7c6x43) rfl (by kernel_rfl) (by kernel_rfl) (by kernel_rfl) (by kernel_rfl) (fun _ _ _ h => h) (Or.inl ⟨by rfl, ?hyR7c6x43⟩) (by assumption) ?restR7c6x43
    case hyR7c6x43 => (intro w hSw; (try dsimp only at hSw); go_simp; try (with_reducible rfl))
    try simp only [Act.put, List.setIfInBounds_toArray, List.set_cons_zero, List.set_cons_succ]
    refine wpAnyT_takeB (i := 44) (oi := ⟨some 62, .load 3 (.tmp 61), _, _, _, _⟩) (v := ?vR7c6x44) rfl (by kernel_rfl) (by kernel_rfl) (by kernel_rfl) (by kernel_rfl) (fun _ _ _ h => h) (Or.inl ⟨by rfl, ?hyR7c6x44⟩) (by assumption) ?restR7c6x44
    case hyR7c6x44 => (intro w hSw; (try dsimp only at hSw); go_simp; try (with_reducible rfl))
    try simp only [Act.put, List.setIfInBounds_toArray, List.set_cons_zero, List.set_cons_succ]
    refine wpAnyT_takeB (i := 45) (oi := ⟨some 63, .binOp .eql 3 (.tmp 55) (.tmp 62) 3, _, _, _, _⟩) (v := ?vR7c6x45) rfl (by kernel_rfl) (by kernel_rfl) (by kernel_rfl) (by kernel_rfl) (fun _ _ _ h => h) (Or.inl ⟨by rfl, ?hyR7c6x45⟩) (by assumption) ?restR7c6x45
    case hyR7c6x45 => (intro w hSw; (try dsimp only at hSw); go_simp; try (with_reducible rfl))
    try simp only [Act.put, List.setIfInBounds_toArray, List.set_cons_zero, List.set_cons_succ]
    refine wpAnyT_takeB (i := 46) (oi := ⟨some 64, .pick (.tmp 48) (.tmp 63) ((.const (.bool false))), _, _, _, _⟩) (v := ?vR7c6x46) rfl (by kernel_rfl) (by kernel_rfl) (by kernel_rfl) (by kernel_rfl) (fun _ _ _ h => h) (Or.inl ⟨by rfl, ?hyR7c6x46⟩) (by assumption) ?restR7c6x46
    case hyR7c6x46 => (intro w hSw; (try dsimp only at hSw); go_simp; try (with_reducible rfl))
    try simp only [Act.put, List.setIfInBounds_toArray, List.set_cons_zero, List.set_cons_succ]
    refine wpAnyT_done (by kernel_rfl) ?_ _
    go_wp2_with fail
    go_roundw
    case rel => exact ⟨k + 1, by go_num, hkn, (below_succ HA2.out (HXY.out HN.out)), HBy.out.trans ((Below.refl _ _).drew.mono HBy.out.size)⟩
    case measure => simp [intOf]; omega
end Go.Proofs.YtemnbcilmbojhaaGreatDoor

namespace Go.Proofs.YtemnbcilmbojhaaGreatDoor

theorem pigeon : ∀ (n : Nat) (a : Int) (l : List Int), l.Nodup → (∀ v ∈ l, a ≤ v ∧ v < a + (n : Int)) → l.length ≤ n
  | 0, a, l, _, h => by
    cases l with
    | nil => exact Nat.le_refl _
    | cons v l =>
      have := h v List.mem_cons_self
      omega
  | n + 1, a, l, hd, h => by
    have h1 := pigeon n a (l.filter fun v => decide (v ≠ a + (n : Int))) (hd.filter _) (fun v hv => by
      obtain ⟨hm, hn⟩ := List.mem_filter.1 hv
      have := h v hm
      have := of_decide_eq_true hn
      omega)
    have h2 : l.length ≤ (l.filter fun v => decide (v ≠ a + (n : Int))).length + 1 := by
      clear h1 h
      induction l with
      | nil => simp
      | cons v l ih =>
        obtain ⟨hv, hd2⟩ := List.nodup_cons.1 hd
        have ih := ih hd2
        by_cases e : v = a + (n : Int)
        · have : (l.filter fun v => decide (v ≠ a + (n : Int))) = l := by
            rw [List.filter_eq_self]
            intro u hu
            simp
            intro e2
            exact hv (by rw [e, ← e2]; exact hu)
          rw [List.filter_cons, if_neg (by simp [e]), this, List.length_cons]
          exact Nat.le_refl _
        · rw [List.filter_cons, if_pos (by simp [e]), List.length_cons, List.length_cons]
          omega
    omega
/-- The value at a place. -/
def valAt (vs : List Int) (y : Int) : Int := vs.getD y.toNat 0
theorem dif_pair {xs vs : List Int} (h : Dif xs vs) : (plP vs.length xs).Pairwise fun x y => valAt vs x ≠ valAt vs y := by
  have h1 : xs.Pairwise fun x y => isP vs.length x = true → isP vs.length y = true → valAt vs x ≠ valAt vs y := by
    rw [List.pairwise_iff_getElem]
    intro i j hi hj hij hx hy he
    have hc := h j i hj hij
    have e1 : xs.getD j 0 = xs[j] := by rw [List.getD_eq_getElem?_getD, List.getElem?_eq_getElem hj]; rfl
    have e2 : xs.getD i 0 = xs[i] := by rw [List.getD_eq_getElem?_getD, List.getElem?_eq_getElem hi]; rfl
    rw [e1, e2] at hc
    unfold isP at hx hy
    unfold clash at hc
    unfold valAt at he
    simp at hx hy hc
    exact hc hy.1 hy.2 hx.1 hx.2 he.symm
  have h2 : (plP vs.length xs).Pairwise fun x y => isP vs.length x = true → isP vs.length y = true → valAt vs x ≠ valAt vs y := h1.filter _
  have h3 : ∀ x ∈ plP vs.length xs, isP vs.length x = true := fun x hx => (List.mem_filter.1 hx).2
  exact List.Pairwise.imp_of_mem (fun {x y} hx hy hr => hr (h3 x hx) (h3 y hy)) h2
theorem not_dif {xs vs : List Int} (h : ¬ Dif xs vs) : ∃ v, 2 ≤ (plP vs.length xs).countP fun y => decide (valAt vs y = v) := by
  have : ∃ i k, i < xs.length ∧ k < i ∧ clash vs (xs.getD i 0) (xs.getD k 0) = true := by
    apply Classical.byContradiction
    intro hc
    apply h
    intro i k hi hk
    cases hcl : clash vs (xs.getD i 0) (xs.getD k 0) with
    | false => rfl
    | true => exact absurd ⟨i, k, hi, hk, hcl⟩ hc
  obtain ⟨i, k, hi, hk, hc⟩ := this
  have hk2 : k < xs.length := by omega
  have e1 : xs.getD i 0 = xs[i] := by rw [List.getD_eq_getElem?_getD, List.getElem?_eq_getElem hi]; rfl
  have e2 : xs.getD k 0 = xs[k] := by rw [List.getD_eq_getElem?_getD, List.getElem?_eq_getElem hk2]; rfl
  rw [e1, e2] at hc
  unfold clash at hc
  simp at hc
  obtain ⟨c1, c2, c3, c4, c5⟩ := hc
  refine ⟨valAt vs xs[i], ?_⟩
  unfold plP
  rw [List.countP_filter]
  have hsp : xs = xs.take i ++ xs[i] :: xs.drop (i + 1) := by
    rw [← List.drop_eq_getElem_cons hi, List.take_append_drop]
  have hq : ∀ y, (decide (valAt vs y = valAt vs xs[i]) && isP vs.length y) = true ↔ (valAt vs y = valAt vs xs[i] ∧ 0 ≤ y ∧ y < (vs.length : Int)) := fun y => by
    unfold isP
    simp
  have hq1 : (decide (valAt vs xs[i] = valAt vs xs[i]) && isP vs.length xs[i]) = true := (hq _).2 ⟨rfl, c1, c2⟩
  have hpos : 0 < (xs.take i).countP fun y => decide (valAt vs y = valAt vs xs[i]) && isP vs.length y := by
    rw [List.countP_pos_iff]
    refine ⟨xs[k], ?_, (hq _).2 ⟨c5.symm, c3, c4⟩⟩
    rw [List.mem_take_iff_getElem]
    exact ⟨k, by omega, rfl⟩
  have hge : xs.countP (fun y => decide (valAt vs y = valAt vs xs[i]) && isP vs.length y) = (xs.take i).countP (fun y => decide (valAt vs y = valAt vs xs[i]) && isP vs.length y) + (xs[i] :: xs.drop (i + 1)).countP (fun y => decide (valAt vs y = valAt vs xs[i]) && isP vs.length y) := by
    rw [← List.countP_append, ← hsp]
  rw [hge, List.countP_cons, if_pos hq1]
  omega
/-- Values that are all different at the places: nothing is overfull. -/
theorem no_over {D : List Dm} {xs vs : List Int} (hF : Fines D) (hl : Lies D vs) (hd : Dif xs vs) (a t : Int) : ¬ OF D (plP D.length xs) a t := by
  rintro ⟨h1, h2⟩
  have hlen : vs.length = D.length := hl.len
  have hp := dif_pair hd
  rw [hlen] at hp
  have hn : (((plP D.length xs).filter (inW D a t)).map (valAt vs)).Nodup := by
    unfold List.Nodup
    rw [List.pairwise_map]
    exact hp.filter _
  have hin : ∀ v ∈ ((plP D.length xs).filter (inW D a t)).map (valAt vs), a ≤ v ∧ v ≤ t := fun v hv => by
    obtain ⟨y, hy, rfl⟩ := List.mem_map.1 hv
    obtain ⟨hy1, hy2⟩ := List.mem_filter.1 hy
    have h0 := plP_in hy1
    have hx : y.toNat < D.length := by omega
    obtain ⟨v, hv1, hv2⟩ := hl.get y.toNat _ (dmAt_get hx)
    have e : valAt vs y = v := by
      unfold valAt
      rw [List.getD_eq_getElem?_getD, hv1]
      rfl
    have hf := dmAt_fine hF hx
    have := hf.least v hv2
    have := hf.most v hv2
    have := inW_iff.1 hy2
    rw [e]
    omega
  have hlc : (((plP D.length xs).filter (inW D a t)).map (valAt vs)).length = wc D (plP D.length xs) a t := by
    rw [List.length_map]
    unfold wc
    rw [List.countP_eq_length_filter]
  obtain ⟨y, hy, hyi⟩ := wc_pos h1
  have hat := hin (valAt vs y) (List.mem_map.2 ⟨y, List.mem_filter.2 ⟨hy, hyi⟩, rfl⟩)
  have := pigeon (t - a + 1).toNat a _ hn (fun v hv => by have := hin v hv; omega)
  omega
/-- P13.5, at a store with one value each. -/
theorem ends_two {D : List Dm} {xs vs : List Int} {l : List Cz} {ok : Bool} (hF : Fines D) (hl : Lies D vs) (ho : Ones D) (hD : D.length ≤ 32) (h : CtR D xs l ok) : (ok = true ↔ Dif xs vs) ∧ l = [] := by
  obtain ⟨Gs, hp, hs, h⟩ := h
  have hlen : vs.length = D.length := hl.len
  have hone : ∀ x, x < D.length → (dmAt D x).lo = (dmAt D x).hi ∧ vs.getD x 0 = (dmAt D x).lo := fun x hx => by
    have hf := dmAt_fine hF hx
    have e := hf.one.1 (ho x _ (dmAt_get hx))
    obtain ⟨v, hv1, hv2⟩ := hl.get x _ (dmAt_get hx)
    refine ⟨e, ?_⟩
    rw [List.getD_eq_getElem?_getD, hv1]
    have := hf.least v hv2
    have := hf.most v hv2
    show v = _
    omega
  by_cases hd : Dif xs vs
  · have n0 : (crL Gs (hcG D xs)).any ov = false := by
      rw [Bool.eq_false_iff]
      intro hc
      obtain ⟨a, t, ho⟩ := (over_iff hD hp hs).1 hc
      exact no_over hF hl hd a t ho
    have h1 : l = hcZ D xs (crL Gs (hcG D xs)) ∧ ok = true := by
      refine h.elim (fun h1 => ?_) (fun h1 => h1.2)
      have h2 := h1.1
      rw [n0] at h2
      exact absurd h2 (by decide)
    refine ⟨⟨fun _ => hd, fun _ => h1.2⟩, ?_⟩
    rw [h1.1, List.eq_nil_iff_forall_not_mem]
    intro z hz
    unfold hcZ at hz
    rw [List.mem_flatMap] at hz
    obtain ⟨g, hg, hz⟩ := hz
    unfold czL at hz
    rw [List.mem_flatMap] at hz
    obtain ⟨v, hva, hz⟩ := hz
    obtain ⟨m1, m2, m3, m4, m5, m6⟩ := hcG_mem hg
    have hf := dmAt_fine hF m2
    have hvh := (hf.all v).1 hva
    have l1 := hf.least v hvh
    have l2 := hf.most v hvh
    obtain ⟨_, _, i, hi, hif, hlo, hhi, _⟩ := cz1_mem (by rw [m3]; exact l1) hz
    obtain ⟨a, t, hie, _, _⟩ := crowd_is hD hp hs hi
    rw [hie, ivO_f hD (cntP_pos m6)] at hif
    have hlo2 : a ≤ v := by rw [hie] at hlo; exact hlo
    have hhi2 : v ≤ t := by rw [hie] at hhi; exact hhi
    have e := (hone g.x m2).1
    have : inW D a t (g.x : Int) = true := inW_iff.2 ⟨by rw [Int.toNat_natCast]; omega, by rw [Int.toNat_natCast]; omega⟩
    rw [this] at hif
    exact absurd hif (by decide)
  · obtain ⟨v, hv⟩ := not_dif hd
    rw [hlen] at hv
    have hw : 2 ≤ wc D (plP D.length xs) v v := by
      refine Nat.le_trans hv (List.countP_mono_left fun y hy hh => ?_)
      have h0 := plP_in hy
      have hx : y.toNat < D.length := by omega
      obtain ⟨e1, e2⟩ := hone y.toNat hx
      have e3 : vs.getD y.toNat 0 = v := of_decide_eq_true hh
      exact inW_iff.2 ⟨by omega, by omega⟩
    have ho : OF D (plP D.length xs) v v := ⟨by omega, by omega⟩
    have n1 := (over_iff hD hp hs).2 ⟨v, v, ho⟩
    have h1 : l = [] ∧ ok = false := by
      refine h.elim (fun h1 => h1.2) (fun h1 => ?_)
      have h2 := h1.1
      rw [n1] at h2
      exact absurd h2 (by decide)
    refine ⟨⟨fun hk => ?_, fun hk => absurd hk hd⟩, h1.1⟩
    rw [h1.2] at hk
    exact absurd hk (by decide)
end Go.Proofs.YtemnbcilmbojhaaGreatDoor

namespace Go.Proofs.YtemnbcilmbojhaaGreatDoor
open Go.RowKit

theorem StAt.own_lt {B : Nat} {w : World} {p : Nat} {nv mv : Value} {s : St} (h : StAt B w p nv mv s) : ∀ k, Own p nv mv k → k < w.heap.size := by
  intro k hk
  rcases hk with rfl | hk | hk
  · exact h.lt
  · exact (h.n.lt k hk).2
  · exact (h.m.lt k hk).2
theorem bool_iff {b c : Bool} (h : b = true ↔ c = true) : b = c := by
  cases b <;> cases c <;> simp at h ⊢
/-- P13.5, behind the two answers. -/
theorem ends_fin {m : Md.Mo} {xs vs : List Int} {s t : St} {l : List Cz} {ok b : Bool} (hse : s = newS m) (hl : Lies s.now vs) (hte : t = oneS s vs s.now.length) (hD : s.now.length ≤ 32) (hc : CtR t.now xs l ok) (hb : b = true ↔ Dif xs vs) : ok = b ∧ l = [] := by
  subst hse
  obtain ⟨l1, o1, a1, n1⟩ := one_lies (alls_new m) hl
  rw [← hte] at l1 o1 a1 n1
  obtain ⟨h1, h2⟩ := ends_two (fines_alls a1) l1 o1 (by rw [n1]; exact hD) hc
  exact ⟨bool_iff (h1.trans hb.symm), h2⟩
set_option maxRecDepth 10000 in
set_option maxHeartbeats 8000000 in
theorem hallEnds_walk (m : Md.Mo) (vv vc vg : Value) (xa : Option Addr) (xc : Nat) (xs : List Int) (ia : Option Addr) (ic : Nat) (ins : List Int) (w : World) (hM : MoAt w m vv vc vg) (hX : IntsAt w (.slice xa xs.length xc) xs) (hI : IntsAt w (.slice ia ins.length ic) ins) (hT : Tz w) (hs : 0 < w.heap.size) : Calls Tryz.prog 4 #[moVal m vv vc vg, .slice xa xs.length xc, .slice ia ins.length ic] w fun e w' => e = .returned (.bool true) ∧ Below w.heap.size w w' := by
  obtain ⟨W, hW⟩ : ∃ W, w.alloc (.cells #[vv, vc, .bool m.has, vg] 26) = W := ⟨_, rfl⟩
  have hb0 : Below w.heap.size w W := by rw [← hW]; exact (Below.refl _ _).alloc (Nat.le_refl _) _
  have g0 : W.heap[w.heap.size]? = some (.cells #[vv, vc, .bool m.has, vg] 26 (0, 0)) := by rw [← hW]; exact heap_alloc_new w _
  have HWs : Hid (∀ w', Below W.heap.size W w' → Below w.heap.size w w') := fun w' hb => hb0.trans (hb.mono hb0.size)
  have hsW : 0 < W.heap.size := Nat.lt_of_lt_of_le hs hb0.size
  have HF : Hid (Calls Tryz.prog 6 #[.agg #[vv, vc, .bool m.has, vg], .slice none 0 0, .slice xa xs.length xc] W fun e w' => (∃ b : Bool, e = .returned (.bool b) ∧ (b = true → 0 ≤ 20000 ∧ xs.length ≤ 70)) ∧ Below W.heap.size W w') := few_any m vv vc vg none xa 0 xs.length 0 xc W (hM.below hb0) (by omega)
  have HK : Hid (∀ w', Below W.heap.size W w' → Calls Tryz.prog 7 #[] w' fun e w2 => e = .returned (.bool true) ∧ Below w'.heap.size w' w2) := fun w' hb => known_any w' ((hT.below hb0 hs).below hb hsW) (Nat.lt_of_lt_of_le hsW hb.size)
  have HNw : Hid (∀ w', Below W.heap.size W w' → Calls Tryz.prog 18 #[.agg #[vv, vc, .bool m.has, vg]] w' (NewOut m w')) := fun w' hb => new_any m vv vc vg w' (hM.below (HWs.out w' hb)) (Nat.lt_of_lt_of_le hsW hb.size)
  have HTz : Hid (∀ w', Below W.heap.size W w' → Tz w') := fun w' hb => (hT.below hb0 hs).below hb hsW
  have HWi : Hid (∀ B p nv mv s w', Below W.heap.size W w' → StAt B w' p nv mv s → Calls Tryz.prog 15 #[.pointer (some ⟨p, 0, none⟩), .slice ia ins.length ic] w' (VsOut (wiL s.now ins s.now.length) w')) := fun B p nv mv s w' hb hS => within_any B p nv mv s w' hS (HTz.out w' hb) (Nat.lt_of_lt_of_le hsW hb.size) _ ins (hI.below (HWs.out w' hb))
  have HCu : Hid (∀ B p nv mv s w', xs.length ≤ 70 → Below W.heap.size W w' → Alls s → StAt B w' p nv mv s → Calls Tryz.prog 9 #[.slice xa xs.length xc, .pointer (some ⟨p, 0, none⟩)] w' (HlCtOut s.now xs w')) := fun B p nv mv s w' hx hb hA hS => cuts_out xa xc xs (hX.below (HWs.out w' hb)) (by omega) hS hA (HTz.out w' hb) (Nat.lt_of_lt_of_le hsW hb.size)
  have HDi : Hid (∀ (va : Option Addr) (vc : Nat) (vs : List Int) w', xs.length ≤ 70 → vs.length ≤ 32 → Below W.heap.size W w' → IntsAt w' (.slice va vs.length vc) vs → Calls Tryz.prog 16 #[.slice xa xs.length xc, .slice va vs.length vc] w' (DfOut xs vs w')) := fun va vc vs w' hx hv hb hi => differ_any xa va xc vc xs vs w' (hX.below (HWs.out w' hb)) hi (by omega) (by omega)
  have HGc : Hid (∀ w', Below W.heap.size W w' → w'.cell? ⟨w.heap.size, 0, none⟩ = some vv ∧ w'.cell? ⟨w.heap.size, 1, none⟩ = some vc ∧ w'.cell? ⟨w.heap.size, 2, none⟩ = some (.bool m.has) ∧ w'.cell? ⟨w.heap.size, 3, none⟩ = some vg) := fun w' hb => by
    have e0 := (hb.block _ (Array.getElem?_eq_some_iff.1 g0).1).trans g0
    exact ⟨cell_of e0 0, cell_of e0 1, cell_of e0 2, cell_of e0 3⟩
  have hmv : moVal m vv vc vg = .agg #[vv, vc, .bool m.has, vg] := rfl
  rw [hmv]
  obtain ⟨p0, p1, p2, p3⟩ := HGc.out W (Below.refl _ _)
  clear hM hX hI hT hs hb0 g0 hsW hmv
  go_enter Tryz.func4, Tryz.ntmps4
  go_upto_region 1 with fail
  try rw [hW]
  clear hW
  go_cut [20] from 12 to 20 (fun s20 wx => (∃ b : Bool, s20 = .bool b ∧ Hid (b = false → xs.length ≤ 70)) ∧ Hid (Below W.heap.size W wx))
  case first =>
    go_wp2_with (go_at_call 6; refine calls_at HF.out (by with_reducible rfl) (by with_reducible rfl) ?_; rintro e w1 ⟨⟨b1, rfl, hf1⟩, hb1⟩; (have HB1 : Hid (Below W.heap.size W w1) := hb1); (have HF1 : Hid (b1 = true → 0 ≤ 20000 ∧ xs.length ≤ 70) := hf1); clear hb1 hf1; cases b1)
    all_goals go_meet
    all_goals first | exact ⟨⟨_, rfl, fun _ => (HF1.out (by trivial)).2⟩, HB1⟩ | exact ⟨⟨_, rfl, (fun h => by cases h)⟩, HB1⟩
  case rest =>
  obtain ⟨⟨bf, rfl, HX70⟩, HB1⟩ := hcut
  rename World => w1
  clear HF p0 p1 p2 p3
  cases bf with
  | true =>
    go_wp2_with fail
    go_ret
    exact ⟨rfl, HWs.out _ HB1.out⟩
  | false =>
  have hx70 : xs.length ≤ 70 := HX70.out rfl
  go_upto_region 5 with (go_at_call 7; refine calls_at (HK.out w1 HB1.out) (by with_reducible rfl) (by with_reducible rfl) ?_; rintro e w2 ⟨rfl, hb2⟩)
  have HB2 : Hid (Below W.heap.size W w2) := bl_next HB1.out hb2
  clear hb2 HK HB1
  obtain ⟨p0, p1, p2, p3⟩ := HGc.out w2 HB2.out
  go_upto_region 8 with (go_at_call 18; refine calls_at (HNw.out w2 HB2.out) (by with_reducible rfl) (by with_reducible rfl) ?_; rintro e w3 ⟨p, nv, mv, rfl, hS3, hb3⟩)
  have HB3 : Hid (Below W.heap.size W w3) := bl_next HB2.out hb3
  have hLi := wi_lies (fines_alls (alls_new m)) ins
  have hAn := alls_new m
  obtain ⟨s, hse⟩ : ∃ s, newS m = s := ⟨_, rfl⟩
  rw [hse] at hS3 hLi hAn
  have HSe : Hid (s = newS m) := hse.symm
  have HW3 := HWi.out w2.heap.size p nv mv s w3 HB3.out hS3
  obtain ⟨vs, hvs⟩ : ∃ vs, wiL s.now ins s.now.length = vs := ⟨_, rfl⟩
  rw [hvs] at HW3 hLi
  have HLi : Hid (Lies s.now vs) := hLi
  have HAn : Hid (Alls s) := hAn
  have hlen : vs.length = s.now.length := hLi.len
  have Hln : Hid (vs.length = s.now.length) := hlen
  have HW3' : Hid (Calls Tryz.prog 15 #[.pointer (some ⟨p, 0, none⟩), .slice ia ins.length ic] w3 (VsOut vs w3)) := HW3
  have HS3 : Hid (StAt w2.heap.size w3 p nv mv s) := hS3
  have HOw : Hid (∀ k, Own p nv mv k → k < w3.heap.size) := hS3.own_lt
  have hn32 : vs.length ≤ 32 := by rw [hlen]; exact hS3.n32
  have HB2' : Hid (W.heap.size ≤ w2.heap.size) := HB2.out.size
  clear HW3 hvs hse hS3 hb3 HNw hLi HWi p0 p1 p2 p3 hlen hAn
  go_upto_region 9 with (go_at_call 15; refine calls_at HW3'.out (by with_reducible rfl) (by with_reducible rfl) ?_; rintro e w4 ⟨uv, rfl, ho4, hb4⟩)
  obtain ⟨ua, uc, rfl⟩ := own_slice ho4
  have HB4 : Hid (Below W.heap.size W w4) := bl_next HB3.out hb4
  have HV4 : Hid (w4.ownsRow w3.heap.size 3 1 (.slice ua vs.length uc) vs.length (vs.map (.int .i64))) := ho4
  have HS4 : Hid (StAt w2.heap.size w4 p nv mv (oneS s vs 0)) := HS3.out.below hb4
  have HCt : Hid (∀ Bq t (z : Ct) w', StAt Bq w' p nv mv t → Calls Tryz.prog 19 #[.pointer (some ⟨p, 0, none⟩), .agg #[.int .i64 z.k, .int .i64 z.x, .int .i64 z.v]] w' (CutOut Bq p nv mv t z.k z.x z.v w')) := fun Bq t z w' h => cut_any Bq p nv mv t z.k z.x z.v w' h
  have HIc : Hid (∀ (w' : World) (k : Nat) (hk : k < vs.length), w'.ownsRow w3.heap.size 3 1 (.slice ua vs.length uc) vs.length (vs.map (.int .i64)) → ∃ b off, ua = some ⟨b, off, none⟩ ∧ w'.cell? ⟨b, off + k, none⟩ = some (.int .i64 vs[k])) := fun w' k hk ho => ints_cells (own_ints ho (by unfold maxLen; omega)) k hk
  have HOf : Hid (∀ (w' w'' : World), w'.ownsRow w3.heap.size 3 1 (.slice ua vs.length uc) vs.length (vs.map (.int .i64)) → Stp w2.heap.size p nv mv w' w'' → w''.ownsRow w3.heap.size 3 1 (.slice ua vs.length uc) vs.length (vs.map (.int .i64))) := fun w' w'' ho hst => own_off ho (fun g hg e => by have := (ho.lt g hg).1; have := HOw.out g e; omega) hst.off
  clear ho4 hb4 HW3' HS3 HB3 HB2
  go_wp2_with fail
  go_loopw [9] (fun iv wr => ∃ (k : Nat), iv = .int .i64 (k : Int) ∧ k ≤ vs.length ∧ Hid (StAt w2.heap.size wr p nv mv (oneS s vs k)) ∧ Hid (wr.ownsRow w3.heap.size 3 1 (.slice ua vs.length uc) vs.length (vs.map (.int .i64))) ∧ Hid (Below W.heap.size W wr)) (fun iv _ => vs.length - (intOf iv).toNat)
  case atStart => exact ⟨0, rfl, Nat.zero_le _, HS4, HV4, HB4⟩
  case round =>
  obtain ⟨k, rfl, hk, HS, HV, HBr⟩ := hrel
  by_cases hkn : k < vs.length
  case pos =>
    have hkI : (k : Int) < (vs.length : Int) := by omega
    obtain ⟨b, off, rfl, u0⟩ := HIc.out wr k hkn HV.out
    have eg : vs.getD k 0 = vs[k] := by rw [List.getD_eq_getElem?_getD, List.getElem?_eq_getElem hkn]; rfl
    have HX : Hid (oneS s vs (k + 1) = ((oneS s vs k).cut 1 (k : Int) vs[k]).cut 2 (k : Int) vs[k]) := by show _ = _; rw [← eg]; rfl
    have HIk := fun w' ho => HIc.out w' k hkn ho
    obtain ⟨u, hu⟩ : ∃ u, vs[k] = u := ⟨_, rfl⟩
    rw [hu] at u0 HX HIk
    have HI2 : Hid (∀ w' : World, w'.ownsRow w3.heap.size 3 1 (.slice (some ⟨b, off, none⟩) vs.length uc) vs.length (vs.map (.int .i64)) → w'.cell? ⟨b, off + k, none⟩ = some (.int .i64 u)) := fun w' ho => by
      obtain ⟨b', o', e, hc⟩ := HIk w' ho
      injection e with e
      injection e with e1 e2
      subst e1 e2
      exact hc
    have HK1 : Hid (Calls Tryz.prog 19 #[.pointer (some ⟨p, 0, none⟩), .agg #[.int .i64 1, .int .i64 (k : Int), .int .i64 u]] wr (CutOut w2.heap.size p nv mv (oneS s vs k) 1 (k : Int) u wr)) := HCt.out _ _ ⟨1, (k : Int), u⟩ wr HS.out
    have HK2 : Hid (∀ w', StAt w2.heap.size w' p nv mv ((oneS s vs k).cut 1 (k : Int) u) → Calls Tryz.prog 19 #[.pointer (some ⟨p, 0, none⟩), .agg #[.int .i64 2, .int .i64 (k : Int), .int .i64 u]] w' (CutOut w2.heap.size p nv mv ((oneS s vs k).cut 1 (k : Int) u) 2 (k : Int) u w')) := fun w' h => HCt.out _ _ ⟨2, (k : Int), u⟩ w' h
    clear hu HIk eg
    go_wp2_with (first | (go_at_call 19; refine calls_at HK1.out (by with_reducible rfl) (by with_reducible rfl) ?_; rintro e w5 ⟨rfl, hS5, hT5⟩; (have HV5 : Hid (w5.ownsRow w3.heap.size 3 1 (.slice (some ⟨b, off, none⟩) vs.length uc) vs.length (vs.map (.int .i64))) := HOf.out _ _ HV.out hT5); (have HB5 : Hid (Below W.heap.size W w5) := HBr.out.trans (hT5.below.mono HB2'.out)); (have u1 := HI2.out w5 HV5.out); (have HS5 : Hid (StAt w2.heap.size w5 p nv mv ((oneS s vs k).cut 1 (k : Int) u)) := hS5); clear hS5 hT5) | (go_at_call 19; refine calls_at (HK2.out w5 HS5.out) (by with_reducible rfl) (by with_reducible rfl) ?_; rintro e w6 ⟨rfl, hS6, hT6⟩))
    go_roundw
    case rel => exact ⟨k + 1, by go_num, hkn, (by show StAt _ _ _ _ _ _; rw [HX.out]; exact hS6), HOf.out _ _ HV5.out hT6, HB5.out.trans (hT6.below.mono HB2'.out)⟩
    case measure => simp [intOf]; omega
  case neg =>
  have hke : k = vs.length := by omega
  subst hke
  have hkI : ¬ (vs.length : Int) < (vs.length : Int) := by omega
  obtain ⟨t, hte⟩ : ∃ t, oneS s vs vs.length = t := ⟨_, rfl⟩
  have HS5 : Hid (StAt w2.heap.size wr p nv mv t) := by have := HS.out; rw [hte] at this; exact this
  have HTe : Hid (t = oneS s vs s.now.length) := by show _ = _; rw [← hte, Hln.out]
  have HAt : Hid (Alls t) := by rw [HTe.out]; exact (one_lies HAn.out HLi.out).2.2.1
  have HI5 : Hid (IntsAt wr (.slice ua vs.length uc) vs) := own_ints HV.out (by unfold maxLen; omega)
  have HsN : Hid (s.now.length ≤ 32) := by rw [← Hln.out]; exact hn32
  clear HS HV HS4 HV4 HB4 hte hkn hk HCt HIc HOf HOw HB2'
  have HCs : Hid (Calls Tryz.prog 9 #[.slice xa xs.length xc, .pointer (some ⟨p, 0, none⟩)] wr (HlCtOut t.now xs wr)) := HCu.out _ p nv mv t wr hx70 HBr.out HAt.out HS5.out
  go_upto_region 15 with (go_at_call 9; refine calls_at HCs.out (by with_reducible rfl) (by with_reducible rfl) ?_; intro e w6 hh; (obtain ⟨l, ok, a6, cp6, h1, h2, h3, h4, h5⟩ := hh); subst h3)
  have HB6 : Hid (Below W.heap.size W w6) := bl_next HBr.out h5
  have HR6 : Hid (CtR t.now xs l ok) := h1
  have HD6 : Hid (Calls Tryz.prog 16 #[.slice xa xs.length xc, .slice ua vs.length uc] w6 (DfOut xs vs w6)) := HDi.out ua uc vs w6 hx70 hn32 HB6.out (HI5.out.below h5)
  have HFn : Hid (∀ b : Bool, (b = true ↔ Dif xs vs) → ok = b ∧ l = []) := fun b hb => ends_fin HSe.out HLi.out HTe.out HsN.out HR6.out hb
  clear h1 h2 h4 h5 HCs HCu HDi
  go_wp2_with (go_at_call 16; refine calls_at HD6.out (by with_reducible rfl) (by with_reducible rfl) ?_; intro e w7 hh; (obtain ⟨⟨b7, h1, h2⟩, h3⟩ := hh); subst h1; (obtain ⟨f1, f2⟩ := HFn.out b7 h2); subst f1; subst f2)
  go_ret
  exact ⟨rfl, HWs.out _ (bl_next HB6.out h3)⟩
end Go.Proofs.YtemnbcilmbojhaaGreatDoor

namespace Go.Proofs.YtemnbcilmbojhaaGreatDoor
open Go.RowKit

theorem all_take {D : List Dm} {lo hi : Int} {l : List Int} {k : Nat} (hk : k < l.length) : (l.take (k + 1)).all (inW D lo hi) = ((l.take k).all (inW D lo hi) && inW D lo hi l[k]) := by
  rw [List.take_succ_eq_append_getElem hk, List.all_append]
  simp
set_option maxRecDepth 10000 in
set_option maxHeartbeats 4000000 in
theorem inside_any (B p : Nat) (nv mv : Value) (s : St) (lo hi : Int) (a : Option Addr) (cap : Nat) (l : List Int) (w : World) (hS : StAt B w p nv mv s) (hT : Tz w) (hs : 0 < w.heap.size) (hL : IntsAt w (.slice a l.length cap) l) (hl : ∀ x ∈ l, 0 ≤ x ∧ x < (s.now.length : Int)) (hll : l.length ≤ 1000000) : Calls Tryz.prog 11 #[.agg #[.int .i64 lo, .int .i64 hi, .slice a l.length cap], .pointer (some ⟨p, 0, none⟩)] w fun e w' => e = .returned (.bool (l.all (inW s.now lo hi))) ∧ Below w.heap.size w w' := by
  obtain ⟨W, hW⟩ : ∃ W, w.alloc (.cells #[.int .i64 lo, .int .i64 hi, .slice a l.length cap] 37) = W := ⟨_, rfl⟩
  have hb0 : Below w.heap.size w W := by rw [← hW]; exact (Below.refl _ _).alloc (Nat.le_refl _) _
  have g0 : W.heap[w.heap.size]? = some (.cells #[.int .i64 lo, .int .i64 hi, .slice a l.length cap] 37 (0, 0)) := by rw [← hW]; exact heap_alloc_new w _
  have HWs : Hid (∀ w', Below W.heap.size W w' → Below w.heap.size w w') := fun w' hb => hb0.trans (hb.mono hb0.size)
  have HGc : Hid (∀ w', Below W.heap.size W w' → w'.cell? ⟨w.heap.size, 0, none⟩ = some (.int .i64 lo) ∧ w'.cell? ⟨w.heap.size, 1, none⟩ = some (.int .i64 hi) ∧ w'.cell? ⟨w.heap.size, 2, none⟩ = some (.slice a l.length cap)) := fun w' hb => by
    have e0 := (hb.block _ (Array.getElem?_eq_some_iff.1 g0).1).trans g0
    exact ⟨cell_of e0 0, cell_of e0 1, cell_of e0 2⟩
  have HX : Hid (∀ w', Below W.heap.size W w' → ∀ k (hk : k < l.length), ∃ b off, a = some ⟨b, off, none⟩ ∧ w'.cell? ⟨b, off + k, none⟩ = some (.int .i64 l[k])) := fun w' hb k hk => ints_cells (hL.below (HWs.out w' hb)) k hk
  have HLo : Hid (∀ (x : Nat) w', x < s.now.length → Below W.heap.size W w' → Calls Tryz.prog 12 #[.pointer (some ⟨p, 0, none⟩), .int .i64 (x : Int)] w' fun e w2 => e = .returned (.int .i64 (dmAt s.now x).lo) ∧ Below w'.heap.size w' w2) := fun x w' hx hb => by
    have := lo_in B p nv mv s x hx w' (hS.below (HWs.out w' hb)) (hT.below (HWs.out w' hb) hs)
    unfold dmAt
    rw [List.getD_eq_getElem?_getD, List.getElem?_eq_getElem hx]
    exact this
  have HHi : Hid (∀ (x : Nat) w', x < s.now.length → Below W.heap.size W w' → Calls Tryz.prog 13 #[.pointer (some ⟨p, 0, none⟩), .int .i64 (x : Int)] w' fun e w2 => e = .returned (.int .i64 (dmAt s.now x).hi) ∧ Below w'.heap.size w' w2) := fun x w' hx hb => by
    have := hi_in B p nv mv s x hx w' (hS.below (HWs.out w' hb))
    unfold dmAt
    rw [List.getD_eq_getElem?_getD, List.getElem?_eq_getElem hx]
    exact this
  have Hl : Hid (∀ k (hk : k < l.length), 0 ≤ l[k] ∧ l[k] < (s.now.length : Int)) := fun k hk => hl _ (List.getElem_mem hk)
  obtain ⟨D, hD⟩ : ∃ D, s.now = D := ⟨_, rfl⟩
  rw [hD] at HLo HHi Hl ⊢
  clear hS hT hs hL hl hb0 g0 hD
  go_enter Tryz.func11, Tryz.ntmps11
  go_upto_region 1 with fail
  try rw [hW]
  clear hW
  go_wp2_with fail
  go_loopw [5] (fun iv wr => ∃ (k : Nat), iv = .int .i64 (k : Int) ∧ k ≤ l.length ∧ Hid ((l.take k).all (inW D lo hi) = true) ∧ Hid (Below W.heap.size W wr)) (fun iv _ => l.length - (intOf iv).toNat)
  case atStart => exact ⟨0, rfl, Nat.zero_le _, rfl, Below.refl _ _⟩
  case round =>
  obtain ⟨k, rfl, hk, HA, HBr⟩ := hrel
  obtain ⟨c0, c1, c2⟩ := HGc.out wr HBr.out
  by_cases hkn : k < l.length
  case neg =>
    have hke : k = l.length := by omega
    subst hke
    have hkI : ¬ (l.length : Int) < (l.length : Int) := by omega
    have HA2 : Hid (l.all (inW D lo hi) = true) := by
      have := HA.out
      rw [List.take_length] at this
      exact this
    go_wp2_with fail
    go_ret
    rw [HA2.out]
    exact ⟨rfl, HWs.out _ HBr.out⟩
  case pos =>
  have hkI : (k : Int) < (l.length : Int) := by omega
  obtain ⟨b, off, rfl, _⟩ := HX.out wr HBr.out k hkn
  have hx := Hl.out k hkn
  have HN : Hid ((l.take (k + 1)).all (inW D lo hi) = ((l.take k).all (inW D lo hi) && inW D lo hi l[k])) := all_take hkn
  have HM : Hid (inW D lo hi l[k] = false → l.all (inW D lo hi) = false) := fun h => by
    rw [Bool.eq_false_iff]
    intro hc
    have := List.all_eq_true.1 hc _ (List.getElem_mem hkn)
    rw [h] at this
    cases this
  have HC : Hid (∀ w', Below wr.heap.size wr w' → (w'.cell? ⟨w.heap.size, 0, none⟩ = some (.int .i64 lo) ∧ w'.cell? ⟨w.heap.size, 1, none⟩ = some (.int .i64 hi) ∧ w'.cell? ⟨w.heap.size, 2, none⟩ = some (.slice (some ⟨b, off, none⟩) l.length cap)) ∧ w'.cell? ⟨b, off + k, none⟩ = some (.int .i64 l[k])) := fun w' hb => by
    obtain ⟨b1, o1, e1, c⟩ := HX.out w' (bl_next HBr.out hb) k hkn
    injection e1 with e1
    injection e1 with e1 e2
    subst e1 e2
    exact ⟨HGc.out w' (bl_next HBr.out hb), c⟩
  obtain ⟨y, hy⟩ : ∃ y, l[k] = y := ⟨_, rfl⟩
  rw [hy] at hx HN HM HC
  clear hy
  obtain ⟨x, rfl⟩ : ∃ x : Nat, y = (x : Int) := ⟨y.toNat, by omega⟩
  have hxD : x < D.length := by omega
  have hin : inW D lo hi (x : Int) = (decide (lo ≤ (dmAt D x).lo) && decide ((dmAt D x).hi ≤ hi)) := by
    unfold inW
    rw [Int.toNat_natCast]
  have HL1 := fun w' => HLo.out x w' hxD
  have HH1 := fun w' => HHi.out x w' hxD
  obtain ⟨p1, hp1⟩ : ∃ p1, (dmAt D x).lo = p1 := ⟨_, rfl⟩
  obtain ⟨p2, hp2⟩ : ∃ p2, (dmAt D x).hi = p2 := ⟨_, rfl⟩
  rw [hp1] at HL1 hin
  rw [hp2] at HH1 hin
  have HL2 : Hid (∀ w', Below W.heap.size W w' → Calls Tryz.prog 12 #[.pointer (some ⟨p, 0, none⟩), .int .i64 (x : Int)] w' fun e w2 => e = .returned (.int .i64 p1) ∧ Below w'.heap.size w' w2) := HL1
  have HH2 : Hid (∀ w', Below W.heap.size W w' → Calls Tryz.prog 13 #[.pointer (some ⟨p, 0, none⟩), .int .i64 (x : Int)] w' fun e w2 => e = .returned (.int .i64 p2) ∧ Below w'.heap.size w' w2) := HH1
  have Hin : Hid (inW D lo hi (x : Int) = (decide (lo ≤ p1) && decide (p2 ≤ hi))) := hin
  clear HL1 HH1 hp1 hp2 hin hx hxD
  have HBd : Hid (Below wr.heap.size wr wr.drew) := (Below.refl _ _).drew
  by_cases hlo : p1 < lo
  case pos =>
    have HF : Hid (l.all (inW D lo hi) = false) := HM.out (by rw [Hin.out, decide_eq_false (by omega)]; rfl)
    go_upto_region 4 with fail
    clear c0 c1 c2
    refine wp_region_T (fun w' => (w'.cell? ⟨w.heap.size, 0, none⟩ = some (.int .i64 lo) ∧ w'.cell? ⟨w.heap.size, 1, none⟩ = some (.int .i64 hi) ∧ w'.cell? ⟨w.heap.size, 2, none⟩ = some (.slice (some ⟨b, off, none⟩) l.length cap)) ∧ w'.cell? ⟨b, off + k, none⟩ = some (.int .i64 (x : Int))) (fun _ => True) [] (by kernel_rfl) ⟨HC.out _ HBd.out, trivial⟩ (fun hHeld => ?_)
    generalize wr.drew = U at HBd hHeld ⊢
    refine wpAnyT_takeB (i := 0) (oi := ⟨some 13, .move (.tmp 1), _, _, _, _⟩) (v := ?vR4c1x0) rfl (by kernel_rfl) (by kernel_rfl) (by kernel_rfl) (by kernel_rfl) (fun _ _ _ h => h) (Or.inl ⟨by rfl, ?hyR4c1x0⟩) (by assumption) ?restR4c1x0
    case hyR4c1x0 => (intro w hSw; (try dsimp only at hSw); go_simp; try (with_reducible rfl))
    try simp only [Act.put, List.setIfInBounds_toArray, List.set_cons_zero, List.set_cons_succ]
    refine wpAnyT_takeB (i := 1) (oi := ⟨some 14, .fieldAddr 37 (.tmp 2) 2, _, _, _, _⟩) (v := ?vR4c1x1) rfl (by kernel_rfl) (by kernel_rfl) (by kernel_rfl) (by kernel_rfl) (fun _ _ _ h => h) (Or.inl ⟨by rfl, ?hyR4c1x1⟩) (by assumption) ?restR4c1x1
    case hyR4c1x1 => (intro w hSw; (try dsimp only at hSw); go_simp; try (with_reducible rfl))
    try simp only [Act.put, List.setIfInBounds_toArray, List.set_cons_zero, List.set_cons_succ]
    refine wpAnyT_takeB (i := 2) (oi := ⟨some 15, .load 28 (.tmp 14), _, _, _, _⟩) (v := ?vR4c1x2) rfl (by kernel_rfl) (by kernel_rfl) (by kernel_rfl) (by kernel_rfl) (fun _ _ _ h => h) (Or.inl ⟨by rfl, ?hyR4c1x2⟩) (by assumption) ?restR4c1x2
    case hyR4c1x2 => (intro w hSw; (try dsimp only at hSw); go_simp; try (with_reducible rfl))
    try simp only [Act.put, List.setIfInBounds_toArray, List.set_cons_zero, List.set_cons_succ]
    refine wpAnyT_takeB (i := 3) (oi := ⟨some 16, .move (.tmp 5), _, _, _, _⟩) (v := ?vR4c1x3) rfl (by kernel_rfl) (by kernel_rfl) (by kernel_rfl) (by kernel_rfl) (fun _ _ _ h => h) (Or.inl ⟨by rfl, ?hyR4c1x3⟩) (by assumption) ?restR4c1x3
    case hyR4c1x3 => (intro w hSw; (try dsimp only at hSw); go_simp; try (with_reducible rfl))
    try simp only [Act.put, List.setIfInBounds_toArray, List.set_cons_zero, List.set_cons_succ]
    refine wpAnyT_takeB (i := 4) (oi := ⟨some 17, .indexAddr 28 (.tmp 15) (.tmp 16), _, _, _, _⟩) (v := ?vR4c1x4) rfl (by kernel_rfl) (by kernel_rfl) (by kernel_rfl) (by kernel_rfl) (fun _ _ _ h => h) (Or.inl ⟨by rfl, ?hyR4c1x4⟩) (by assumption) ?restR4c1x4
    case hyR4c1x4 => (intro w hSw; (try dsimp only at hSw); go_simp; try (with_reducible rfl))
    try simp only [Act.put, List.setIfInBounds_toArray, List.set_cons_zero, List.set_cons_succ]
    refine wpAnyT_takeB (i := 5) (oi := ⟨some 18, .load 3 (.tmp 17), _, _, _, _⟩) (v := ?vR4c1x5) rfl (by kernel_rfl) (by kernel_rfl) (by kernel_rfl) (by kernel_rfl) (fun _ _ _ h => h) (Or.inl ⟨by rfl, ?hyR4c1x5⟩) (by assumption) ?restR4c1x5
    case hyR4c1x5 => (intro w hSw; (try dsimp only at hSw); go_simp; try (with_reducible rfl))
    try simp only [Act.put, List.setIfInBounds_toArray, List.set_cons_zero, List.set_cons_succ]
    refine wpAnyT_takeB (i := 7) (oi := ⟨some 20, .fieldAddr 37 (.tmp 2) 0, _, _, _, _⟩) (v := ?vR4c1x7) rfl (by kernel_rfl) (by kernel_rfl) (by kernel_rfl) (by kernel_rfl) (fun _ _ _ h => h) (Or.inl ⟨by rfl, ?hyR4c1x7⟩) (by assumption) ?restR4c1x7
    case hyR4c1x7 => (intro w hSw; (try dsimp only at hSw); go_simp; try (with_reducible rfl))
    try simp only [Act.put, List.setIfInBounds_toArray, List.set_cons_zero, List.set_cons_succ]
    refine wpAnyT_takeB (i := 8) (oi := ⟨some 21, .load 3 (.tmp 20), _, _, _, _⟩) (v := ?vR4c1x8) rfl (by kernel_rfl) (by kernel_rfl) (by kernel_rfl) (by kernel_rfl) (fun _ _ _ h => h) (Or.inl ⟨by rfl, ?hyR4c1x8⟩) (by assumption) ?restR4c1x8
    case hyR4c1x8 => (intro w hSw; (try dsimp only at hSw); go_simp; try (with_reducible rfl))
    try simp only [Act.put, List.setIfInBounds_toArray, List.set_cons_zero, List.set_cons_succ]
    refine wpAnyT_one (i := 6) (o := ⟨some 19, .call { callee := .value (.func 12), args := #[(.tmp 13), (.tmp 18)], argTypes := #[31, 3] }, _, _, _, _⟩) (by kernel_rfl) rfl (fun K hK => ?_)
    go_simp
    refine calls_at (HL2.out _ (bl_next HBr.out HBd.out)) (by with_reducible rfl) (by with_reducible rfl) ?_
    rintro e w2 ⟨rfl, hb2⟩
    go_wp2_with fail
    have HB2 : Hid (Below wr.heap.size wr w2) := bl_next HBd.out hb2
    clear hb2 hHeld
    have hHeld := (⟨HC.out _ HB2.out, trivial⟩ : _ ∧ True)
    refine hK.out _ _ ⟨hHeld.1, fun _ => trivial⟩ ?_
    clear hK K
    refine wpAnyT_takeB (i := 9) (oi := ⟨some 22, .binOp .lss 3 (.tmp 19) (.tmp 21) 3, _, _, _, _⟩) (v := ?vR4c1x9) rfl (by kernel_rfl) (by kernel_rfl) (by kernel_rfl) (by kernel_rfl) (fun _ _ _ h => h) (Or.inl ⟨by rfl, ?hyR4c1x9⟩) (by assumption) ?restR4c1x9
    case hyR4c1x9 => (intro w hSw; (try dsimp only at hSw); go_simp; try (with_reducible rfl))
    try simp only [Act.put, List.setIfInBounds_toArray, List.set_cons_zero, List.set_cons_succ]
    refine wpAnyT_takeB (i := 10) (oi := ⟨some 23, .move (.tmp 22), _, _, _, _⟩) (v := ?vR4c1x10) rfl (by kernel_rfl) (by kernel_rfl) (by kernel_rfl) (by kernel_rfl) (fun _ _ _ h => h) (Or.inl ⟨by rfl, ?hyR4c1x10⟩) (by assumption) ?restR4c1x10
    case hyR4c1x10 => (intro w hSw; (try dsimp only at hSw); go_simp; try (with_reducible rfl))
    try simp only [Act.put, List.setIfInBounds_toArray, List.set_cons_zero, List.set_cons_succ]
    refine wpAnyT_takeB (i := 11) (oi := ⟨some 24, .move (.tmp 1), _, _, _, _⟩) (v := undef) rfl (by kernel_rfl) (by kernel_rfl) (by kernel_rfl) (by kernel_rfl) (fun _ _ _ h => h) (Or.inr ⟨by rfl, rfl⟩) (by assumption) ?restR4c1x11
    try simp only [Act.put, List.setIfInBounds_toArray, List.set_cons_zero, List.set_cons_succ]
    refine wpAnyT_takeB (i := 12) (oi := ⟨some 25, .fieldAddr 37 (.tmp 2) 2, _, _, _, _⟩) (v := undef) rfl (by kernel_rfl) (by kernel_rfl) (by kernel_rfl) (by kernel_rfl) (fun _ _ _ h => h) (Or.inr ⟨by rfl, rfl⟩) (by assumption) ?restR4c1x12
    try simp only [Act.put, List.setIfInBounds_toArray, List.set_cons_zero, List.set_cons_succ]
    refine wpAnyT_takeB (i := 13) (oi := ⟨some 26, .load 28 (.tmp 25), _, _, _, _⟩) (v := undef) rfl (by kernel_rfl) (by kernel_rfl) (by kernel_rfl) (by kernel_rfl) (fun _ _ _ h => h) (Or.inr ⟨by rfl, rfl⟩) (by assumption) ?restR4c1x13
    try simp only [Act.put, List.setIfInBounds_toArray, List.set_cons_zero, List.set_cons_succ]
    refine wpAnyT_takeB (i := 14) (oi := ⟨some 27, .move (.tmp 5), _, _, _, _⟩) (v := undef) rfl (by kernel_rfl) (by kernel_rfl) (by kernel_rfl) (by kernel_rfl) (fun _ _ _ h => h) (Or.inr ⟨by rfl, rfl⟩) (by assumption) ?restR4c1x14
    try simp only [Act.put, List.setIfInBounds_toArray, List.set_cons_zero, List.set_cons_succ]
    refine wpAnyT_takeB (i := 15) (oi := ⟨some 28, .indexAddr 28 (.tmp 26) (.tmp 27), _, _, _, _⟩) (v := undef) rfl (by kernel_rfl) (by kernel_rfl) (by kernel_rfl) (by kernel_rfl) (fun _ _ _ h => h) (Or.inr ⟨by rfl, rfl⟩) (by assumption) ?restR4c1x15
    try simp only [Act.put, List.setIfInBounds_toArray, List.set_cons_zero, List.set_cons_succ]
    refine wpAnyT_takeB (i := 16) (oi := ⟨some 29, .load 3 (.tmp 28), _, _, _, _⟩) (v := undef) rfl (by kernel_rfl) (by kernel_rfl) (by kernel_rfl) (by kernel_rfl) (fun _ _ _ h => h) (Or.inr ⟨by rfl, rfl⟩) (by assumption) ?restR4c1x16
    try simp only [Act.put, List.setIfInBounds_toArray, List.set_cons_zero, List.set_cons_succ]
    refine wpAnyT_takeB (i := 17) (oi := ⟨some 30, .call { callee := .value (.func 13), args := #[(.tmp 24), (.tmp 29)], argTypes := #[31, 3] }, _, _, _, _⟩) (v := undef) rfl (by kernel_rfl) (by kernel_rfl) (by kernel_rfl) (by kernel_rfl) (fun _ _ _ h => h) (Or.inr ⟨by rfl, rfl⟩) (by assumption) ?restR4c1x17
    try simp only [Act.put, List.setIfInBounds_toArray, List.set_cons_zero, List.set_cons_succ]
    refine wpAnyT_takeB (i := 18) (oi := ⟨some 31, .fieldAddr 37 (.tmp 2) 1, _, _, _, _⟩) (v := undef) rfl (by kernel_rfl) (by kernel_rfl) (by kernel_rfl) (by kernel_rfl) (fun _ _ _ h => h) (Or.inr ⟨by rfl, rfl⟩) (by assumption) ?restR4c1x18
    try simp only [Act.put, List.setIfInBounds_toArray, List.set_cons_zero, List.set_cons_succ]
    refine wpAnyT_takeB (i := 19) (oi := ⟨some 32, .load 3 (.tmp 31), _, _, _, _⟩) (v := undef) rfl (by kernel_rfl) (by kernel_rfl) (by kernel_rfl) (by kernel_rfl) (fun _ _ _ h => h) (Or.inr ⟨by rfl, rfl⟩) (by assumption) ?restR4c1x19
    try simp only [Act.put, List.setIfInBounds_toArray, List.set_cons_zero, List.set_cons_succ]
    refine wpAnyT_takeB (i := 20) (oi := ⟨some 33, .binOp .gtr 3 (.tmp 30) (.tmp 32) 3, _, _, _, _⟩) (v := undef) rfl (by kernel_rfl) (by kernel_rfl) (by kernel_rfl) (by kernel_rfl) (fun _ _ _ h => h) (Or.inr ⟨by rfl, rfl⟩) (by assumption) ?restR4c1x20
    try simp only [Act.put, List.setIfInBounds_toArray, List.set_cons_zero, List.set_cons_succ]
    refine wpAnyT_takeB (i := 21) (oi := ⟨some 34, .pick (.tmp 23) ((.const (.bool true))) (.tmp 33), _, _, _, _⟩) (v := ?vR4c1x21) rfl (by kernel_rfl) (by kernel_rfl) (by kernel_rfl) (by kernel_rfl) (fun _ _ _ h => h) (Or.inl ⟨by rfl, ?hyR4c1x21⟩) (by assumption) ?restR4c1x21
    case hyR4c1x21 => (intro w hSw; (try dsimp only at hSw); go_simp; try (with_reducible rfl))
    try simp only [Act.put, List.setIfInBounds_toArray, List.set_cons_zero, List.set_cons_succ]
    refine wpAnyT_done (by kernel_rfl) ?_ _
    go_wp2_with fail
    go_ret
    rw [HF.out]
    exact ⟨rfl, HWs.out _ (bl_next HBr.out HB2.out)⟩
  case neg =>
  have Hlo2 : Hid (lo ≤ p1) := by show _ ≤ _; omega
  have hd : decide (p1 < lo) = false := decide_eq_false hlo
  clear hlo
  by_cases hhi : hi < p2
  case pos =>
    have HF : Hid (l.all (inW D lo hi) = false) := HM.out (by rw [Hin.out, decide_eq_false (show ¬ p2 ≤ hi by omega), Bool.and_false])
    go_upto_region 4 with fail
    clear c0 c1 c2
    refine wp_region_T (fun w' => (w'.cell? ⟨w.heap.size, 0, none⟩ = some (.int .i64 lo) ∧ w'.cell? ⟨w.heap.size, 1, none⟩ = some (.int .i64 hi) ∧ w'.cell? ⟨w.heap.size, 2, none⟩ = some (.slice (some ⟨b, off, none⟩) l.length cap)) ∧ w'.cell? ⟨b, off + k, none⟩ = some (.int .i64 (x : Int))) (fun _ => True) [] (by kernel_rfl) ⟨HC.out _ HBd.out, trivial⟩ (fun hHeld => ?_)
    generalize wr.drew = U at HBd hHeld ⊢
    refine wpAnyT_takeB (i := 0) (oi := ⟨some 13, .move (.tmp 1), _, _, _, _⟩) (v := ?vR4c2x0) rfl (by kernel_rfl) (by kernel_rfl) (by kernel_rfl) (by kernel_rfl) (fun _ _ _ h => h) (Or.inl ⟨by rfl, ?hyR4c2x0⟩) (by assumption) ?restR4c2x0
    case hyR4c2x0 => (intro w hSw; (try dsimp only at hSw); go_simp; try (with_reducible rfl))
    try simp only [Act.put, List.setIfInBounds_toArray, List.set_cons_zero, List.set_cons_succ]
    refine wpAnyT_takeB (i := 1) (oi := ⟨some 14, .fieldAddr 37 (.tmp 2) 2, _, _, _, _⟩) (v := ?vR4c2x1) rfl (by kernel_rfl) (by kernel_rfl) (by kernel_rfl) (by kernel_rfl) (fun _ _ _ h => h) (Or.inl ⟨by rfl, ?hyR4c2x1⟩) (by assumption) ?restR4c2x1
    case hyR4c2x1 => (intro w hSw; (try dsimp only at hSw); go_simp; try (with_reducible rfl))
    try simp only [Act.put, List.setIfInBounds_toArray, List.set_cons_zero, List.set_cons_succ]
    refine wpAnyT_takeB (i := 2) (oi := ⟨some 15, .load 28 (.tmp 14), _, _, _, _⟩) (v := ?vR4c2x2) rfl (by kernel_rfl) (by kernel_rfl) (by kernel_rfl) (by kernel_rfl) (fun _ _ _ h => h) (Or.inl ⟨by rfl, ?hyR4c2x2⟩) (by assumption) ?restR4c2x2
    case hyR4c2x2 => (intro w hSw; (try dsimp only at hSw); go_simp; try (with_reducible rfl))
    try simp only [Act.put, List.setIfInBounds_toArray, List.set_cons_zero, List.set_cons_succ]
    refine wpAnyT_takeB (i := 3) (oi := ⟨some 16, .move (.tmp 5), _, _, _, _⟩) (v := ?vR4c2x3) rfl (by kernel_rfl) (by kernel_rfl) (by kernel_rfl) (by kernel_rfl) (fun _ _ _ h => h) (Or.inl ⟨by rfl, ?hyR4c2x3⟩) (by assumption) ?restR4c2x3
    case hyR4c2x3 => (intro w hSw; (try dsimp only at hSw); go_simp; try (with_reducible rfl))
    try simp only [Act.put, List.setIfInBounds_toArray, List.set_cons_zero, List.set_cons_succ]
    refine wpAnyT_takeB (i := 4) (oi := ⟨some 17, .indexAddr 28 (.tmp 15) (.tmp 16), _, _, _, _⟩) (v := ?vR4c2x4) rfl (by kernel_rfl) (by kernel_rfl) (by kernel_rfl) (by kernel_rfl) (fun _ _ _ h => h) (Or.inl ⟨by rfl, ?hyR4c2x4⟩) (by assumption) ?restR4c2x4
    case hyR4c2x4 => (intro w hSw; (try dsimp only at hSw); go_simp; try (with_reducible rfl))
    try simp only [Act.put, List.setIfInBounds_toArray, List.set_cons_zero, List.set_cons_succ]
    refine wpAnyT_takeB (i := 5) (oi := ⟨some 18, .load 3 (.tmp 17), _, _, _, _⟩) (v := ?vR4c2x5) rfl (by kernel_rfl) (by kernel_rfl) (by kernel_rfl) (by kernel_rfl) (fun _ _ _ h => h) (Or.inl ⟨by rfl, ?hyR4c2x5⟩) (by assumption) ?restR4c2x5
    case hyR4c2x5 => (intro w hSw; (try dsimp only at hSw); go_simp; try (with_reducible rfl))
    try simp only [Act.put, List.setIfInBounds_toArray, List.set_cons_zero, List.set_cons_succ]
    refine wpAnyT_takeB (i := 7) (oi := ⟨some 20, .fieldAddr 37 (.tmp 2) 0, _, _, _, _⟩) (v := ?vR4c2x7) rfl (by kernel_rfl) (by kernel_rfl) (by kernel_rfl) (by kernel_rfl) (fun _ _ _ h => h) (Or.inl ⟨by rfl, ?hyR4c2x7⟩) (by assumption) ?restR4c2x7
    case hyR4c2x7 => (intro w hSw; (try dsimp only at hSw); go_simp; try (with_reducible rfl))
    try simp only [Act.put, List.setIfInBounds_toArray, List.set_cons_zero, List.set_cons_succ]
    refine wpAnyT_takeB (i := 8) (oi := ⟨some 21, .load 3 (.tmp 20), _, _, _, _⟩) (v := ?vR4c2x8) rfl (by kernel_rfl) (by kernel_rfl) (by kernel_rfl) (by kernel_rfl) (fun _ _ _ h => h) (Or.inl ⟨by rfl, ?hyR4c2x8⟩) (by assumption) ?restR4c2x8
    case hyR4c2x8 => (intro w hSw; (try dsimp only at hSw); go_simp; try (with_reducible rfl))
    try simp only [Act.put, List.setIfInBounds_toArray, List.set_cons_zero, List.set_cons_succ]
    refine wpAnyT_one (i := 6) (o := ⟨some 19, .call { callee := .value (.func 12), args := #[(.tmp 13), (.tmp 18)], argTypes := #[31, 3] }, _, _, _, _⟩) (by kernel_rfl) rfl (fun K hK => ?_)
    go_simp
    refine calls_at (HL2.out _ (bl_next HBr.out HBd.out)) (by with_reducible rfl) (by with_reducible rfl) ?_
    rintro e w2 ⟨rfl, hb2⟩
    go_wp2_with fail
    have HB2 : Hid (Below wr.heap.size wr w2) := bl_next HBd.out hb2
    clear hb2 hHeld
    have hHeld := (⟨HC.out _ HB2.out, trivial⟩ : _ ∧ True)
    refine hK.out _ _ ⟨hHeld.1, fun _ => trivial⟩ ?_
    clear hK K
    refine wpAnyT_takeB (i := 9) (oi := ⟨some 22, .binOp .lss 3 (.tmp 19) (.tmp 21) 3, _, _, _, _⟩) (v := ?vR4c2x9) rfl (by kernel_rfl) (by kernel_rfl) (by kernel_rfl) (by kernel_rfl) (fun _ _ _ h => h) (Or.inl ⟨by rfl, ?hyR4c2x9⟩) (by assumption) ?restR4c2x9
    case hyR4c2x9 => (intro w hSw; (try dsimp only at hSw); go_simp; try (with_reducible rfl))
    try simp only [Act.put, List.setIfInBounds_toArray, List.set_cons_zero, List.set_cons_succ]
    refine wpAnyT_takeB (i := 10) (oi := ⟨some 23, .move (.tmp 22), _, _, _, _⟩) (v := ?vR4c2x10) rfl (by kernel_rfl) (by kernel_rfl) (by kernel_rfl) (by kernel_rfl) (fun _ _ _ h => h) (Or.inl ⟨by rfl, ?hyR4c2x10⟩) (by assumption) ?restR4c2x10
    case hyR4c2x10 => (intro w hSw; (try dsimp only at hSw); go_simp; try (with_reducible rfl))
    try simp only [Act.put, List.setIfInBounds_toArray, List.set_cons_zero, List.set_cons_succ]
    refine wpAnyT_takeB (i := 11) (oi := ⟨some 24, .move (.tmp 1), _, _, _, _⟩) (v := ?vR4c2x11) rfl (by kernel_rfl) (by kernel_rfl) (by kernel_rfl) (by kernel_rfl) (fun _ _ _ h => h) (Or.inl ⟨by rfl, ?hyR4c2x11⟩) (by assumption) ?restR4c2x11
    case hyR4c2x11 => (intro w hSw; (try dsimp only at hSw); go_simp; try (with_reducible rfl))
    try simp only [Act.put, List.setIfInBounds_toArray, List.set_cons_zero, List.set_cons_succ]
    refine wpAnyT_takeB (i := 12) (oi := ⟨some 25, .fieldAddr 37 (.tmp 2) 2, _, _, _, _⟩) (v := ?vR4c2x12) rfl (by kernel_rfl) (by kernel_rfl) (by kernel_rfl) (by kernel_rfl) (fun _ _ _ h => h) (Or.inl ⟨by rfl, ?hyR4c2x12⟩) (by assumption) ?restR4c2x12
    case hyR4c2x12 => (intro w hSw; (try dsimp only at hSw); go_simp; try (with_reducible rfl))
    try simp only [Act.put, List.setIfInBounds_toArray, List.set_cons_zero, List.set_cons_succ]
    refine wpAnyT_takeB (i := 13) (oi := ⟨some 26, .load 28 (.tmp 25), _, _, _, _⟩) (v := ?vR4c2x13) rfl (by kernel_rfl) (by kernel_rfl) (by kernel_rfl) (by kernel_rfl) (fun _ _ _ h => h) (Or.inl ⟨by rfl, ?hyR4c2x13⟩) (by assumption) ?restR4c2x13
    case hyR4c2x13 => (intro w hSw; (try dsimp only at hSw); go_simp; try (with_reducible rfl))
    try simp only [Act.put, List.setIfInBounds_toArray, List.set_cons_zero, List.set_cons_succ]
    refine wpAnyT_takeB (i := 14) (oi := ⟨some 27, .move (.tmp 5), _, _, _, _⟩) (v := ?vR4c2x14) rfl (by kernel_rfl) (by kernel_rfl) (by kernel_rfl) (by kernel_rfl) (fun _ _ _ h => h) (Or.inl ⟨by rfl, ?hyR4c2x14⟩) (by assumption) ?restR4c2x14
    case hyR4c2x14 => (intro w hSw; (try dsimp only at hSw); go_simp; try (with_reducible rfl))
    try simp only [Act.put, List.setIfInBounds_toArray, List.set_cons_zero, List.set_cons_succ]
    refine wpAnyT_takeB (i := 15) (oi := ⟨some 28, .indexAddr 28 (.tmp 26) (.tmp 27), _, _, _, _⟩) (v := ?vR4c2x15) rfl (by kernel_rfl) (by kernel_rfl) (by kernel_rfl) (by kernel_rfl) (fun _ _ _ h => h) (Or.inl ⟨by rfl, ?hyR4c2x15⟩) (by assumption) ?restR4c2x15
    case hyR4c2x15 => (intro w hSw; (try dsimp only at hSw); go_simp; try (with_reducible rfl))
    try simp only [Act.put, List.setIfInBounds_toArray, List.set_cons_zero, List.set_cons_succ]
    refine wpAnyT_takeB (i := 16) (oi := ⟨some 29, .load 3 (.tmp 28), _, _, _, _⟩) (v := ?vR4c2x16) rfl (by kernel_rfl) (by kernel_rfl) (by kernel_rfl) (by kernel_rfl) (fun _ _ _ h => h) (Or.inl ⟨by rfl, ?hyR4c2x16⟩) (by assumption) ?restR4c2x16
    case hyR4c2x16 => (intro w hSw; (try dsimp only at hSw); go_simp; try (with_reducible rfl))
    try simp only [Act.put, List.setIfInBounds_toArray, List.set_cons_zero, List.set_cons_succ]
    refine wpAnyT_takeB (i := 18) (oi := ⟨some 31, .fieldAddr 37 (.tmp 2) 1, _, _, _, _⟩) (v := ?vR4c2x18) rfl (by kernel_rfl) (by kernel_rfl) (by kernel_rfl) (by kernel_rfl) (fun _ _ _ h => h) (Or.inl ⟨by rfl, ?hyR4c2x18⟩) (by assumption) ?restR4c2x18
    case hyR4c2x18 => (intro w hSw; (try dsimp only at hSw); go_simp; try (with_reducible rfl))
    try simp only [Act.put, List.setIfInBounds_toArray, List.set_cons_zero, List.set_cons_succ]
    refine wpAnyT_takeB (i := 19) (oi := ⟨some 32, .load 3 (.tmp 31), _, _, _, _⟩) (v := ?vR4c2x19) rfl (by kernel_rfl) (by kernel_rfl) (by kernel_rfl) (by kernel_rfl) (fun _ _ _ h => h) (Or.inl ⟨by rfl, ?hyR4c2x19⟩) (by assumption) ?restR4c2x19
    case hyR4c2x19 => (intro w hSw; (try dsimp only at hSw); go_simp; try (with_reducible rfl))
    try simp only [Act.put, List.setIfInBounds_toArray, List.set_cons_zero, List.set_cons_succ]
    refine wpAnyT_one (i := 17) (o := ⟨some 30, .call { callee := .value (.func 13), args := #[(.tmp 24), (.tmp 29)], argTypes := #[31, 3] }, _, _, _, _⟩) (by kernel_rfl) rfl (fun K hK => ?_)
    go_simp
    refine calls_at (HH2.out _ (bl_next HBr.out HB2.out)) (by with_reducible rfl) (by with_reducible rfl) ?_
    rintro e w3 ⟨rfl, hb3⟩
    go_wp2_with fail
    have HB3 : Hid (Below wr.heap.size wr w3) := bl_next HB2.out hb3
    clear hb3 hHeld
    have hHeld := (⟨HC.out _ HB3.out, trivial⟩ : _ ∧ True)
    refine hK.out _ _ ⟨hHeld.1, fun _ => trivial⟩ ?_
    clear hK K
    refine wpAnyT_takeB (i := 20) (oi := ⟨some 33, .binOp .gtr 3 (.tmp 30) (.tmp 32) 3, _, _, _, _⟩) (v := ?vR4c2x20) rfl (by kernel_rfl) (by kernel_rfl) (by kernel_rfl) (by kernel_rfl) (fun _ _ _ h => h) (Or.inl ⟨by rfl, ?hyR4c2x20⟩) (by assumption) ?restR4c2x20
    case hyR4c2x20 => (intro w hSw; (try dsimp only at hSw); go_simp; try (with_reducible rfl))
    try simp only [Act.put, List.setIfInBounds_toArray, List.set_cons_zero, List.set_cons_succ]
    refine wpAnyT_takeB (i := 21) (oi := ⟨some 34, .pick (.tmp 23) ((.const (.bool true))) (.tmp 33), _, _, _, _⟩) (v := ?vR4c2x21) rfl (by kernel_rfl) (by kernel_rfl) (by kernel_rfl) (by kernel_rfl) (fun _ _ _ h => h) (Or.inl ⟨by rfl, ?hyR4c2x21⟩) (by assumption) ?restR4c2x21
    case hyR4c2x21 => (intro w hSw; (try dsimp only at hSw); go_simp; try (with_reducible rfl))
    try simp only [Act.put, List.setIfInBounds_toArray, List.set_cons_zero, List.set_cons_succ]
    refine wpAnyT_done (by kernel_rfl) ?_ _
    go_wp2_with fail
    go_ret
    rw [HF.out]
    exact ⟨rfl, HWs.out _ (bl_next HBr.out HB3.out)⟩
  case neg =>
    have hd2 : decide (hi < p2) = false := decide_eq_false hhi
    have HF : Hid ((l.take (k + 1)).all (inW D lo hi) = true) := by
      show _ = _
      rw [HN.out, HA.out, Hin.out, decide_eq_true Hlo2.out, decide_eq_true (show p2 ≤ hi by omega)]
      rfl
    go_upto_region 4 with fail
    clear c0 c1 c2
    refine wp_region_T (fun w' => (w'.cell? ⟨w.heap.size, 0, none⟩ = some (.int .i64 lo) ∧ w'.cell? ⟨w.heap.size, 1, none⟩ = some (.int .i64 hi) ∧ w'.cell? ⟨w.heap.size, 2, none⟩ = some (.slice (some ⟨b, off, none⟩) l.length cap)) ∧ w'.cell? ⟨b, off + k, none⟩ = some (.int .i64 (x : Int))) (fun _ => True) [] (by kernel_rfl) ⟨HC.out _ HBd.out, trivial⟩ (fun hHeld => ?_)
    generalize wr.drew = U at HBd hHeld ⊢
    refine wpAnyT_takeB (i := 0) (oi := ⟨some 13, .move (.tmp 1), _, _, _, _⟩) (v := ?vR4c3x0) rfl (by kernel_rfl) (by kernel_rfl) (by kernel_rfl) (by kernel_rfl) (fun _ _ _ h => h) (Or.inl ⟨by rfl, ?hyR4c3x0⟩) (by assumption) ?restR4c3x0
    case hyR4c3x0 => (intro w hSw; (try dsimp only at hSw); go_simp; try (with_reducible rfl))
    try simp only [Act.put, List.setIfInBounds_toArray, List.set_cons_zero, List.set_cons_succ]
    refine wpAnyT_takeB (i := 1) (oi := ⟨some 14, .fieldAddr 37 (.tmp 2) 2, _, _, _, _⟩) (v := ?vR4c3x1) rfl (by kernel_rfl) (by kernel_rfl) (by kernel_rfl) (by kernel_rfl) (fun _ _ _ h => h) (Or.inl ⟨by rfl, ?hyR4c3x1⟩) (by assumption) ?restR4c3x1
    case hyR4c3x1 => (intro w hSw; (try dsimp only at hSw); go_simp; try (with_reducible rfl))
    try simp only [Act.put, List.setIfInBounds_toArray, List.set_cons_zero, List.set_cons_succ]
    refine wpAnyT_takeB (i := 2) (oi := ⟨some 15, .load 28 (.tmp 14), _, _, _, _⟩) (v := ?vR4c3x2) rfl (by kernel_rfl) (by kernel_rfl) (by kernel_rfl) (by kernel_rfl) (fun _ _ _ h => h) (Or.inl ⟨by rfl, ?hyR4c3x2⟩) (by assumption) ?restR4c3x2
    case hyR4c3x2 => (intro w hSw; (try dsimp only at hSw); go_simp; try (with_reducible rfl))
    try simp only [Act.put, List.setIfInBounds_toArray, List.set_cons_zero, List.set_cons_succ]
    refine wpAnyT_takeB (i := 3) (oi := ⟨some 16, .move (.tmp 5), _, _, _, _⟩) (v := ?vR4c3x3) rfl (by kernel_rfl) (by kernel_rfl) (by kernel_rfl) (by kernel_rfl) (fun _ _ _ h => h) (Or.inl ⟨by rfl, ?hyR4c3x3⟩) (by assumption) ?restR4c3x3
    case hyR4c3x3 => (intro w hSw; (try dsimp only at hSw); go_simp; try (with_reducible rfl))
    try simp only [Act.put, List.setIfInBounds_toArray, List.set_cons_zero, List.set_cons_succ]
    refine wpAnyT_takeB (i := 4) (oi := ⟨some 17, .indexAddr 28 (.tmp 15) (.tmp 16), _, _, _, _⟩) (v := ?vR4c3x4) rfl (by kernel_rfl) (by kernel_rfl) (by kernel_rfl) (by kernel_rfl) (fun _ _ _ h => h) (Or.inl ⟨by rfl, ?hyR4c3x4⟩) (by assumption) ?restR4c3x4
    case hyR4c3x4 => (intro w hSw; (try dsimp only at hSw); go_simp; try (with_reducible rfl))
    try simp only [Act.put, List.setIfInBounds_toArray, List.set_cons_zero, List.set_cons_succ]
    refine wpAnyT_takeB (i := 5) (oi := ⟨some 18, .load 3 (.tmp 17), _, _, _, _⟩) (v := ?vR4c3x5) rfl (by kernel_rfl) (by kernel_rfl) (by kernel_rfl) (by kernel_rfl) (fun _ _ _ h => h) (Or.inl ⟨by rfl, ?hyR4c3x5⟩) (by assumption) ?restR4c3x5
    case hyR4c3x5 => (intro w hSw; (try dsimp only at hSw); go_simp; try (with_reducible rfl))
    try simp only [Act.put, List.setIfInBounds_toArray, List.set_cons_zero, List.set_cons_succ]
    refine wpAnyT_takeB (i := 7) (oi := ⟨some 20, .fieldAddr 37 (.tmp 2) 0, _, _, _, _⟩) (v := ?vR4c3x7) rfl (by kernel_rfl) (by kernel_rfl) (by kernel_rfl) (by kernel_rfl) (fun _ _ _ h => h) (Or.inl ⟨by rfl, ?hyR4c3x7⟩) (by assumption) ?restR4c3x7
    case hyR4c3x7 => (intro w hSw; (try dsimp only at hSw); go_simp; try (with_reducible rfl))
    try simp only [Act.put, List.setIfInBounds_toArray, List.set_cons_zero, List.set_cons_succ]
    refine wpAnyT_takeB (i := 8) (oi := ⟨some 21, .load 3 (.tmp 20), _, _, _, _⟩) (v := ?vR4c3x8) rfl (by kernel_rfl) (by kernel_rfl) (by kernel_rfl) (by kernel_rfl) (fun _ _ _ h => h) (Or.inl ⟨by rfl, ?hyR4c3x8⟩) (by assumption) ?restR4c3x8
    case hyR4c3x8 => (intro w hSw; (try dsimp only at hSw); go_simp; try (with_reducible rfl))
    try simp only [Act.put, List.setIfInBounds_toArray, List.set_cons_zero, List.set_cons_succ]
    refine wpAnyT_one (i := 6) (o := ⟨some 19, .call { callee := .value (.func 12), args := #[(.tmp 13), (.tmp 18)], argTypes := #[31, 3] }, _, _, _, _⟩) (by kernel_rfl) rfl (fun K hK => ?_)
    go_simp
    refine calls_at (HL2.out _ (bl_next HBr.out HBd.out)) (by with_reducible rfl) (by with_reducible rfl) ?_
    rintro e w2 ⟨rfl, hb2⟩
    go_wp2_with fail
    have HB2 : Hid (Below wr.heap.size wr w2) := bl_next HBd.out hb2
    clear hb2 hHeld
    have hHeld := (⟨HC.out _ HB2.out, trivial⟩ : _ ∧ True)
    refine hK.out _ _ ⟨hHeld.1, fun _ => trivial⟩ ?_
    clear hK K
    refine wpAnyT_takeB (i := 9) (oi := ⟨some 22, .binOp .lss 3 (.tmp 19) (.tmp 21) 3, _, _, _, _⟩) (v := ?vR4c3x9) rfl (by kernel_rfl) (by kernel_rfl) (by kernel_rfl) (by kernel_rfl) (fun _ _ _ h => h) (Or.inl ⟨by rfl, ?hyR4c3x9⟩) (by assumption) ?restR4c3x9
    case hyR4c3x9 => (intro w hSw; (try dsimp only at hSw); go_simp; try (with_reducible rfl))
    try simp only [Act.put, List.setIfInBounds_toArray, List.set_cons_zero, List.set_cons_succ]
    refine wpAnyT_takeB (i := 10) (oi := ⟨some 23, .move (.tmp 22), _, _, _, _⟩) (v := ?vR4c3x10) rfl (by kernel_rfl) (by kernel_rfl) (by kernel_rfl) (by kernel_rfl) (fun _ _ _ h => h) (Or.inl ⟨by rfl, ?hyR4c3x10⟩) (by assumption) ?restR4c3x10
    case hyR4c3x10 => (intro w hSw; (try dsimp only at hSw); go_simp; try (with_reducible rfl))
    try simp only [Act.put, List.setIfInBounds_toArray, List.set_cons_zero, List.set_cons_succ]
    refine wpAnyT_takeB (i := 11) (oi := ⟨some 24, .move (.tmp 1), _, _, _, _⟩) (v := ?vR4c3x11) rfl (by kernel_rfl) (by kernel_rfl) (by kernel_rfl) (by kernel_rfl) (fun _ _ _ h => h) (Or.inl ⟨by rfl, ?hyR4c3x11⟩) (by assumption) ?restR4c3x11
    case hyR4c3x11 => (intro w hSw; (try dsimp only at hSw); go_simp; try (with_reducible rfl))
    try simp only [Act.put, List.setIfInBounds_toArray, List.set_cons_zero, List.set_cons_succ]
    refine wpAnyT_takeB (i := 12) (oi := ⟨some 25, .fieldAddr 37 (.tmp 2) 2, _, _, _, _⟩) (v := ?vR4c3x12) rfl (by kernel_rfl) (by kernel_rfl) (by kernel_rfl) (by kernel_rfl) (fun _ _ _ h => h) (Or.inl ⟨by rfl, ?hyR4c3x12⟩) (by assumption) ?restR4c3x12
    case hyR4c3x12 => (intro w hSw; (try dsimp only at hSw); go_simp; try (with_reducible rfl))
    try simp only [Act.put, List.setIfInBounds_toArray, List.set_cons_zero, List.set_cons_succ]
    refine wpAnyT_takeB (i := 13) (oi := ⟨some 26, .load 28 (.tmp 25), _, _, _, _⟩) (v := ?vR4c3x13) rfl (by kernel_rfl) (by kernel_rfl) (by kernel_rfl) (by kernel_rfl) (fun _ _ _ h => h) (Or.inl ⟨by rfl, ?hyR4c3x13⟩) (by assumption) ?restR4c3x13
    case hyR4c3x13 => (intro w hSw; (try dsimp only at hSw); go_simp; try (with_reducible rfl))
    try simp only [Act.put, List.setIfInBounds_toArray, List.set_cons_zero, List.set_cons_succ]
    refine wpAnyT_takeB (i := 14) (oi := ⟨some 27, .move (.tmp 5), _, _, _, _⟩) (v := ?vR4c3x14) rfl (by kernel_rfl) (by kernel_rfl) (by kernel_rfl) (by kernel_rfl) (fun _ _ _ h => h) (Or.inl ⟨by rfl, ?hyR4c3x14⟩) (by assumption) ?restR4c3x14
    case hyR4c3x14 => (intro w hSw; (try dsimp only at hSw); go_simp; try (with_reducible rfl))
    try simp only [Act.put, List.setIfInBounds_toArray, List.set_cons_zero, List.set_cons_succ]
    refine wpAnyT_takeB (i := 15) (oi := ⟨some 28, .indexAddr 28 (.tmp 26) (.tmp 27), _, _, _, _⟩) (v := ?vR4c3x15) rfl (by kernel_rfl) (by kernel_rfl) (by kernel_rfl) (by kernel_rfl) (fun _ _ _ h => h) (Or.inl ⟨by rfl, ?hyR4c3x15⟩) (by assumption) ?restR4c3x15
    case hyR4c3x15 => (intro w hSw; (try dsimp only at hSw); go_simp; try (with_reducible rfl))
    try simp only [Act.put, List.setIfInBounds_toArray, List.set_cons_zero, List.set_cons_succ]
    refine wpAnyT_takeB (i := 16) (oi := ⟨some 29, .load 3 (.tmp 28), _, _, _, _⟩) (v := ?vR4c3x16) rfl (by kernel_rfl) (by kernel_rfl) (by kernel_rfl) (by kernel_rfl) (fun _ _ _ h => h) (Or.inl ⟨by rfl, ?hyR4c3x16⟩) (by assumption) ?restR4c3x16
    case hyR4c3x16 => (intro w hSw; (try dsimp only at hSw); go_simp; try (with_reducible rfl))
    try simp only [Act.put, List.setIfInBounds_toArray, List.set_cons_zero, List.set_cons_succ]
    refine wpAnyT_takeB (i := 18) (oi := ⟨some 31, .fieldAddr 37 (.tmp 2) 1, _, _, _, _⟩) (v := ?vR4c3x18) rfl (by kernel_rfl) (by kernel_rfl) (by kernel_rfl) (by kernel_rfl) (fun _ _ _ h => h) (Or.inl ⟨by rfl, ?hyR4c3x18⟩) (by assumption) ?restR4c3x18
    case hyR4c3x18 => (intro w hSw; (try dsimp only at hSw); go_simp; try (with_reducible rfl))
    try simp only [Act.put, List.setIfInBounds_toArray, List.set_cons_zero, List.set_cons_succ]
    refine wpAnyT_takeB (i := 19) (oi := ⟨some 32, .load 3 (.tmp 31), _, _, _, _⟩) (v := ?vR4c3x19) rfl (by kernel_rfl) (by kernel_rfl) (by kernel_rfl) (by kernel_rfl) (fun _ _ _ h => h) (Or.inl ⟨by rfl, ?hyR4c3x19⟩) (by assumption) ?restR4c3x19
    case hyR4c3x19 => (intro w hSw; (try dsimp only at hSw); go_simp; try (with_reducible rfl))
    try simp only [Act.put, List.setIfInBounds_toArray, List.set_cons_zero, List.set_cons_succ]
    refine wpAnyT_one (i := 17) (o := ⟨some 30, .call { callee := .value (.func 13), args := #[(.tmp 24), (.tmp 29)], argTypes := #[31, 3] }, _, _, _, _⟩) (by kernel_rfl) rfl (fun K hK => ?_)
    go_simp
    refine calls_at (HH2.out _ (bl_next HBr.out HB2.out)) (by with_reducible rfl) (by with_reducible rfl) ?_
    rintro e w3 ⟨rfl, hb3⟩
    go_wp2_with fail
    have HB3 : Hid (Below wr.heap.size wr w3) := bl_next HB2.out hb3
    clear hb3 hHeld
    have hHeld := (⟨HC.out _ HB3.out, trivial⟩ : _ ∧ True)
    refine hK.out _ _ ⟨hHeld.1, fun _ => trivial⟩ ?_
    clear hK K
    refine wpAnyT_takeB (i := 20) (oi := ⟨some 33, .binOp .gtr 3 (.tmp 30) (.tmp 32) 3, _, _, _, _⟩) (v := ?vR4c3x20) rfl (by kernel_rfl) (by kernel_rfl) (by kernel_rfl) (by kernel_rfl) (fun _ _ _ h => h) (Or.inl ⟨by rfl, ?hyR4c3x20⟩) (by assumption) ?restR4c3x20
    case hyR4c3x20 => (intro w hSw; (try dsimp only at hSw); go_simp; try (with_reducible rfl))
    try simp only [Act.put, List.setIfInBounds_toArray, List.set_cons_zero, List.set_cons_succ]
    refine wpAnyT_takeB (i := 21) (oi := ⟨some 34, .pick (.tmp 23) ((.const (.bool true))) (.tmp 33), _, _, _, _⟩) (v := ?vR4c3x21) rfl (by kernel_rfl) (by kernel_rfl) (by kernel_rfl) (by kernel_rfl) (fun _ _ _ h => h) (Or.inl ⟨by rfl, ?hyR4c3x21⟩) (by assumption) ?restR4c3x21
    case hyR4c3x21 => (intro w hSw; (try dsimp only at hSw); go_simp; try (with_reducible rfl))
    try simp only [Act.put, List.setIfInBounds_toArray, List.set_cons_zero, List.set_cons_succ]
    refine wpAnyT_done (by kernel_rfl) ?_ _
    go_wp2_with fail
    go_roundw
    case rel => exact ⟨k + 1, by go_num, hkn, HF, bl_next HBr.out HB3.out⟩
    case measure => simp [intOf]; omega
end Go.Proofs.YtemnbcilmbojhaaGreatDoor

namespace Go.Proofs.YtemnbcilmbojhaaGreatDoor

/-- An interval's places: those within. -/
theorem iv_places {D : List Dm} {xs : List Int} (hD : D.length ≤ 32) (a t : Int) : (plP D.length xs).filter (fun x => (ivO a t (hcG D xs)).f x.toNat) = (plP D.length xs).filter (inW D a t) := by
  apply List.filter_congr
  intro y hy
  have h0 := plP_in hy
  obtain ⟨x, rfl⟩ : ∃ x : Nat, y = (x : Int) := ⟨y.toNat, by omega⟩
  rw [Int.toNat_natCast]
  exact ivO_f hD hy
theorem wc_len {D : List Dm} {P : List Int} {a t : Int} : (P.filter (inW D a t)).length = wc D P a t := by
  unfold wc
  rw [List.countP_eq_length_filter]
/-- What a list of places of an interval is. -/
structure InsAt (D : List Dm) (xs : List Int) (lo hi : Int) (l : List Int) : Prop where
  len : (l.length : Int) = (wc D (plP D.length xs) lo hi : Int)
  ins : l.all (inW D lo hi) = true
  var : ∀ y ∈ l, 0 ≤ y ∧ y < (D.length : Int)
  few : l.length ≤ xs.length
theorem ins_of {D : List Dm} {xs : List Int} (hD : D.length ≤ 32) (a t : Int) : InsAt D xs a t ((plP D.length xs).filter fun x => (ivO a t (hcG D xs)).f x.toNat) := by
  rw [iv_places hD]
  refine ⟨by rw [wc_len], ?_, fun y hy => plP_in (List.mem_filter.1 hy).1, Nat.le_trans (List.length_filter_le _ _) (plP_len _ _)⟩
  rw [List.all_eq_true]
  exact fun y hy => (List.mem_filter.1 hy).2
/-- What a cut says, and why it goes. -/
theorem safe_cut {D : List Dm} {xs : List Int} {l : List Cz} {ok : Bool} (hF : Fines D) (hD : D.length ≤ 32) (h : CtR D xs l ok) : ∀ z ∈ l, z.x < D.length ∧ InsAt D xs z.lo z.hi z.xs ∧ (z.xs.length : Int) = z.hi - z.lo + 1 ∧ z.lo ≤ z.v ∧ z.v ≤ z.hi ∧ inW D z.lo z.hi (z.x : Int) = false ∧ (dmAt D z.x).has z.v = true := by
  obtain ⟨Gs, hp, hs, h⟩ := h
  intro z hz
  have h1 : (crL Gs (hcG D xs)).any ov = false ∧ l = hcZ D xs (crL Gs (hcG D xs)) := by
    refine h.elim (fun h1 => ?_) (fun h1 => ⟨h1.1, h1.2.1⟩)
    rw [h1.2.1] at hz
    exact absurd hz (by simp)
  have n0 : ∀ a t, ¬ OF D (plP D.length xs) a t := fun a t h => by
    have := (over_iff hD hp hs).2 ⟨a, t, h⟩
    rw [h1.1] at this
    exact absurd this (by decide)
  rw [h1.2] at hz
  unfold hcZ at hz
  rw [List.mem_flatMap] at hz
  obtain ⟨g, hg, hz⟩ := hz
  unfold czL at hz
  rw [List.mem_flatMap] at hz
  obtain ⟨v, hva, hz⟩ := hz
  obtain ⟨m1, m2, m3, m4, m5, m6⟩ := hcG_mem hg
  have hf := dmAt_fine hF m2
  have hvh := (hf.all v).1 hva
  obtain ⟨e1, e2, i, hi, hif, hlo, hhi, e3, e4, e5⟩ := cz1_mem (by rw [m3]; exact hf.least v hvh) hz
  obtain ⟨a, t, hie, hw0, hw1⟩ := crowd_is hD hp hs hi
  rw [hie, ivO_f hD (cntP_pos m6)] at hif
  have el : z.lo = a := by rw [e3, hie]; rfl
  have eh : z.hi = t := by rw [e4, hie]; rfl
  have hlo2 : a ≤ v := by rw [hie] at hlo; exact hlo
  have hhi2 : v ≤ t := by rw [hie] at hhi; exact hhi
  have hI := ins_of (xs := xs) hD a t
  rw [hie] at e5
  rw [← e5] at hI
  have hfull : ¬ (t - a + 1 < (wc D (plP D.length xs) a t : Int)) := fun h => n0 a t ⟨hw0, h⟩
  rw [el, eh, e1, e2]
  exact ⟨m2, hI, by have := hI.len; omega, hlo2, hhi2, hif, hvh⟩
/-- Values that lie in the domains and are all different at the places stay. -/
theorem safe_left {D : List Dm} {xs vs : List Int} {l : List Cz} {ok : Bool} (hF : Fines D) (hD : D.length ≤ 32) (hl : Lies D vs) (hd : Dif xs vs) (h : CtR D xs l ok) : ok = true ∧ ∀ x, x < D.length → goB l (x : Int) (vs.getD x 0) = false := by
  have hcut := safe_cut hF hD h
  have hlen : vs.length = D.length := hl.len
  have hpl : ∀ z ∈ l, (z.x : Int) ∈ plP D.length xs := fun z hz => by
    obtain ⟨Gs, hp, hs, h⟩ := h
    have h1 : l = hcZ D xs (crL Gs (hcG D xs)) := by
      refine h.elim (fun h1 => ?_) (fun h1 => h1.2.1)
      rw [h1.2.1] at hz
      exact absurd hz (by simp)
    rw [h1] at hz
    unfold hcZ at hz
    rw [List.mem_flatMap] at hz
    obtain ⟨g, hg, hz⟩ := hz
    unfold czL at hz
    rw [List.mem_flatMap] at hz
    obtain ⟨v, hva, hz⟩ := hz
    obtain ⟨m1, m2, m3, m4, m5, m6⟩ := hcG_mem hg
    have hf := dmAt_fine hF m2
    obtain ⟨e1, _⟩ := cz1_mem (by rw [m3]; exact hf.least v ((hf.all v).1 hva)) hz
    rw [e1]
    exact cntP_pos m6
  constructor
  · obtain ⟨Gs, hp, hs, h⟩ := h
    refine h.elim (fun h1 => ?_) (fun h1 => h1.2.2)
    obtain ⟨a, t, ho⟩ := (over_iff hD hp hs).1 h1.1
    exact absurd ho (no_over hF hl hd a t)
  · intro x hx
    rw [Bool.eq_false_iff]
    intro hg
    unfold goB at hg
    obtain ⟨z, hz, hzz⟩ := List.any_eq_true.1 hg
    simp at hzz
    obtain ⟨ex, ev⟩ := hzz
    obtain ⟨z1, z2, z3, z4, z5, z6, z7⟩ := hcut z hz
    have hzp := hpl z hz
    have hp := dif_pair hd
    rw [hlen] at hp
    have hval : ∀ y ∈ plP D.length xs, (dmAt D y.toNat).has (valAt vs y) = true := fun y hy => by
      have h0 := plP_in hy
      obtain ⟨v, hv1, hv2⟩ := hl.get y.toNat _ (dmAt_get (by omega))
      unfold valAt
      rw [List.getD_eq_getElem?_getD, hv1]
      exact hv2
    have hvz : valAt vs (z.x : Int) = z.v := by
      unfold valAt
      rw [Int.toNat_natCast]
      have : z.x = x := by omega
      rw [this, ev, List.getD_eq_getElem?_getD]
    -- the places within and one of z's: all different, all in the interval
    have hn : (((plP D.length xs).filter fun y => inW D z.lo z.hi y || decide (y = (z.x : Int))).map (valAt vs)).Nodup := by
      unfold List.Nodup
      rw [List.pairwise_map]
      exact hp.filter _
    have hin : ∀ v ∈ ((plP D.length xs).filter fun y => inW D z.lo z.hi y || decide (y = (z.x : Int))).map (valAt vs), z.lo ≤ v ∧ v ≤ z.hi := fun v hv => by
      obtain ⟨y, hy, rfl⟩ := List.mem_map.1 hv
      obtain ⟨hy1, hy2⟩ := List.mem_filter.1 hy
      rcases (Bool.or_eq_true _ _).mp hy2 with h1 | h1
      · have h0 := plP_in hy1
        have hf := dmAt_fine hF (x := y.toNat) (by omega)
        have := hf.least _ (hval y hy1)
        have := hf.most _ (hval y hy1)
        have := inW_iff.1 h1
        omega
      · rw [of_decide_eq_true h1, hvz]
        exact ⟨z4, z5⟩
    have hlt : wc D (plP D.length xs) z.lo z.hi < (((plP D.length xs).filter fun y => inW D z.lo z.hi y || decide (y = (z.x : Int))).map (valAt vs)).length := by
      rw [List.length_map, ← List.countP_eq_length_filter]
      unfold wc
      have : ∀ P : List Int, (z.x : Int) ∈ P → P.countP (inW D z.lo z.hi) < P.countP (fun y => inW D z.lo z.hi y || decide (y = (z.x : Int))) := by
        intro P
        induction P with
        | nil => intro h; exact absurd h (by simp)
        | cons y P ih =>
          intro hm
          rw [List.countP_cons, List.countP_cons]
          have hle : P.countP (inW D z.lo z.hi) ≤ P.countP (fun y => inW D z.lo z.hi y || decide (y = (z.x : Int))) := List.countP_mono_left fun u _ hu => by rw [hu]; rfl
          by_cases hy : y = (z.x : Int)
          · rw [hy, z6]
            simp
            omega
          · have hm2 : (z.x : Int) ∈ P := by
              rcases List.mem_cons.1 hm with h1 | h1
              · exact absurd h1.symm hy
              · exact h1
            have := ih hm2
            rw [decide_eq_false hy, Bool.or_false]
            omega
      exact this _ hzp
    have hpg := pigeon (z.hi - z.lo + 1).toNat z.lo _ hn (fun v hv => by have := hin v hv; omega)
    have := z2.len
    omega
end Go.Proofs.YtemnbcilmbojhaaGreatDoor

namespace Go.Proofs.YtemnbcilmbojhaaGreatDoor
open Go.RowKit

/-- What Fails answers, in one form. -/
def FlOut (D : List Dm) (xs : List Int) (ok : Bool) (w : World) (e : Ending) (w' : World) : Prop := ∃ lo hi a cap l, e = .returned (.tuple #[.agg #[.int .i64 lo, .int .i64 hi, .slice a l.length cap], .bool (!ok)]) ∧ IntsAt w' (.slice a l.length cap) l ∧ (ok = false → l.all (inW D lo hi) = true ∧ hi - lo + 1 < (l.length : Int) ∧ -2000000000 ≤ lo ∧ lo ≤ 2000000000 ∧ -2000000000 ≤ hi ∧ hi ≤ 2000000000) ∧ (∀ y ∈ l, 0 ≤ y ∧ y < (D.length : Int)) ∧ l.length ≤ xs.length ∧ Below w.heap.size w w'
theorem fails_out {B p : Nat} {nv mv : Value} {s : St} {w : World} (xa : Option Addr) (xc : Nat) (xs : List Int) (hX : IntsAt w (.slice xa xs.length xc) xs) (hxl : xs.length ≤ 1000000) (hS : StAt B w p nv mv s) (hT : Tz w) (hs : 0 < w.heap.size) {l : List Cz} {ok : Bool} (hc : CtR s.now xs l ok) : Calls Tryz.prog 10 #[.slice xa xs.length xc, .pointer (some ⟨p, 0, none⟩)] w (FlOut s.now xs ok w) := by
  have hD := hS.n32
  refine (fails_any xa xc xs B p nv mv s w hX hxl hS hT hs).mono ?_
  rintro e w' ⟨Gs, hp, hs, hb, h⟩
  obtain ⟨Gs', hp', hs', hc⟩ := hc
  refine h.elim (fun h1 => ?_) (fun h1 => ?_)
  · have hno : ok = true := by
      refine hc.elim (fun h2 => ?_) (fun h2 => h2.2.2)
      obtain ⟨a, t, ho⟩ := (over_iff hD hp' hs').1 h2.1
      have h3 := (over_iff hD hp hs).2 ⟨a, t, ho⟩
      rw [h1.1] at h3
      exact absurd h3 (by decide)
    refine ⟨0, 0, none, 0, [], ?_, ⟨none, 0, rfl, Nat.zero_le _, fun h => absurd h (by decide)⟩, ?_, (fun y hy => absurd hy (by simp)), Nat.zero_le _, hb⟩
    · rw [hno]
      exact h1.2
    · rw [hno]
      exact fun h => absurd h (by decide)
  · obtain ⟨i, hi, hov, v, he, hI⟩ := h1
    have hno : ok = false := by
      refine hc.elim (fun h2 => h2.2.2) (fun h2 => ?_)
      obtain ⟨a, t, ho⟩ := (over_iff hD hp hs).1 (List.any_eq_true.2 ⟨i, hi, hov⟩)
      have h3 := (over_iff hD hp' hs').2 ⟨a, t, ho⟩
      rw [h2.1] at h3
      exact absurd h3 (by decide)
    have hGo := hcG_ok hS.good hxl
    have hok := crL_ok hGo (fun g hg => hGo g (hp.mem_iff.1 hg)) (by rw [hp.length_eq]; exact hcG_len _ _) i hi
    obtain ⟨a, t, hie, hw0, hw1⟩ := crowd_is hD hp hs hi
    have hins := ins_of (xs := xs) hD a t
    rw [hie] at hI
    obtain ⟨va, vcp, rfl, _⟩ := id hI
    have el : i.lo = a := by rw [hie]; rfl
    have eh : i.hi = t := by rw [hie]; rfl
    have hov2 : t - a + 1 < (wc s.now (plP s.now.length xs) a t : Int) := by
      unfold ov at hov
      rw [decide_eq_true_eq, hie, ivO_n hD] at hov
      exact hov
    refine ⟨a, t, va, vcp, _, ?_, hI, fun _ => ⟨hins.ins, by have := hins.len; omega, ?_, ?_, ?_, ?_⟩, hins.var, hins.few, hb⟩
    · rw [hno, he, el, eh]
      rfl
    · rw [← el]; exact hok.l1
    · rw [← el]; exact hok.l2
    · rw [← eh]; exact hok.h1
    · rw [← eh]; exact hok.h2
end Go.Proofs.YtemnbcilmbojhaaGreatDoor

namespace Go.Proofs.YtemnbcilmbojhaaGreatDoor
open Go.RowKit

set_option maxRecDepth 10000 in
set_option maxHeartbeats 8000000 in
theorem hallSafe_walk (m : Md.Mo) (vv vc vg : Value) (a : Option Addr) (cap : Nat) (L : List Ct) (xa : Option Addr) (xc : Nat) (xs : List Int) (ia : Option Addr) (ic : Nat) (ins : List Int) (w : World) (hM : MoAt w m vv vc vg) (hL : ∀ w', Below w.heap.size w w' → CtsAt w' a L) (hX : IntsAt w (.slice xa xs.length xc) xs) (hI : IntsAt w (.slice ia ins.length ic) ins) (hn : L.length ≤ 9223372036854775000) (hT : Tz w) (hs : 0 < w.heap.size) : Calls Tryz.prog 3 #[moVal m vv vc vg, .slice a L.length cap, .slice xa xs.length xc, .slice ia ins.length ic] w fun e w' => e = .returned (.bool true) ∧ Below w.heap.size w w' := by
  obtain ⟨W, hW⟩ : ∃ W, w.alloc (.cells #[vv, vc, .bool m.has, vg] 26) = W := ⟨_, rfl⟩
  have hb0 : Below w.heap.size w W := by rw [← hW]; exact (Below.refl _ _).alloc (Nat.le_refl _) _
  have g0 : W.heap[w.heap.size]? = some (.cells #[vv, vc, .bool m.has, vg] 26 (0, 0)) := by rw [← hW]; exact heap_alloc_new w _
  have HWs : Hid (∀ w', Below W.heap.size W w' → Below w.heap.size w w') := fun w' hb => hb0.trans (hb.mono hb0.size)
  have hsW : 0 < W.heap.size := Nat.lt_of_lt_of_le hs hb0.size
  have HF : Hid (Calls Tryz.prog 6 #[.agg #[vv, vc, .bool m.has, vg], .slice a L.length cap, .slice xa xs.length xc] W fun e w' => (∃ b : Bool, e = .returned (.bool b) ∧ (b = true → L.length ≤ 20000 ∧ xs.length ≤ 70)) ∧ Below W.heap.size W w') := few_any m vv vc vg a xa L.length xs.length cap xc W (hM.below hb0) (by omega)
  have HK : Hid (∀ w', Below W.heap.size W w' → Calls Tryz.prog 7 #[] w' fun e w2 => e = .returned (.bool true) ∧ Below w'.heap.size w' w2) := fun w' hb => known_any w' ((hT.below hb0 hs).below hb hsW) (Nat.lt_of_lt_of_le hsW hb.size)
  have HBh : Hid (∀ w', Below W.heap.size W w' → Calls Tryz.prog 8 #[.agg #[vv, vc, .bool m.has, vg], .slice a L.length cap] w' (BhOut m L w')) := fun w' hb => behind_any m vv vc vg a cap L w' (hM.below (HWs.out w' hb)) (Nat.lt_of_lt_of_le hsW hb.size) (hL w' (HWs.out w' hb)) (by omega)
  have HTz : Hid (∀ w', Below W.heap.size W w' → Tz w' ∧ 0 < w'.heap.size) := fun w' hb => ⟨(hT.below hb0 hs).below hb hsW, Nat.lt_of_lt_of_le hsW hb.size⟩
  have HWi : Hid (∀ B p nv mv s w', Below W.heap.size W w' → StAt B w' p nv mv s → Calls Tryz.prog 15 #[.pointer (some ⟨p, 0, none⟩), .slice ia ins.length ic] w' (VsOut (wiL s.now ins s.now.length) w')) := fun B p nv mv s w' hb hS => within_any B p nv mv s w' hS (HTz.out w' hb).1 (HTz.out w' hb).2 _ ins (hI.below (HWs.out w' hb))
  have HXs : Hid (∀ w', Below W.heap.size W w' → IntsAt w' (.slice xa xs.length xc) xs) := fun w' hb => hX.below (HWs.out w' hb)
  have HGc : Hid (∀ w', Below W.heap.size W w' → w'.cell? ⟨w.heap.size, 0, none⟩ = some vv ∧ w'.cell? ⟨w.heap.size, 1, none⟩ = some vc ∧ w'.cell? ⟨w.heap.size, 2, none⟩ = some (.bool m.has) ∧ w'.cell? ⟨w.heap.size, 3, none⟩ = some vg) := fun w' hb => by
    have e0 := (hb.block _ (Array.getElem?_eq_some_iff.1 g0).1).trans g0
    exact ⟨cell_of e0 0, cell_of e0 1, cell_of e0 2, cell_of e0 3⟩
  have hmv : moVal m vv vc vg = .agg #[vv, vc, .bool m.has, vg] := rfl
  rw [hmv]
  obtain ⟨p0, p1, p2, p3⟩ := HGc.out W (Below.refl _ _)
  clear hM hL hX hI hT hs hb0 g0 hsW hmv
  go_enter Tryz.func3, Tryz.ntmps3
  go_upto_region 1 with fail
  try rw [hW]
  clear hW
  go_cut [28] from 19 to 28 (fun s28 wx => (∃ b : Bool, s28 = .bool b ∧ Hid (b = false → xs.length ≤ 70)) ∧ Hid (Below W.heap.size W wx))
  case first =>
    go_wp2_with (go_at_call 6; refine calls_at HF.out (by with_reducible rfl) (by with_reducible rfl) ?_; rintro e w1 ⟨⟨b1, rfl, hf1⟩, hb1⟩; (have HB1 : Hid (Below W.heap.size W w1) := hb1); (have HF1 : Hid (b1 = true → L.length ≤ 20000 ∧ xs.length ≤ 70) := hf1); clear hb1 hf1; cases b1)
    all_goals go_meet
    all_goals first | exact ⟨⟨_, rfl, fun _ => (HF1.out (by trivial)).2⟩, HB1⟩ | exact ⟨⟨_, rfl, (fun h => by cases h)⟩, HB1⟩
  case rest =>
  obtain ⟨⟨bf, rfl, HX70⟩, HB1⟩ := hcut
  rename World => w1
  clear HF p0 p1 p2 p3
  cases bf with
  | true =>
    go_wp2_with fail
    go_ret
    exact ⟨rfl, HWs.out _ HB1.out⟩
  | false =>
  have hx70 : xs.length ≤ 70 := HX70.out rfl
  go_upto_region 5 with (go_at_call 7; refine calls_at (HK.out w1 HB1.out) (by with_reducible rfl) (by with_reducible rfl) ?_; rintro e w2 ⟨rfl, hb2⟩)
  have HB2 : Hid (Below W.heap.size W w2) := bl_next HB1.out hb2
  clear hb2 HK HB1
  obtain ⟨p0, p1, p2, p3⟩ := HGc.out w2 HB2.out
  go_upto_region 8 with (go_at_call 8; refine calls_at (HBh.out w2 HB2.out) (by with_reducible rfl) (by with_reducible rfl) ?_; rintro e w3 ⟨B, p, nv, mv, hB, rfl, hS3, hb3⟩)
  have HB3 : Hid (Below W.heap.size W w3) := bl_next HB2.out hb3
  have hAs := (fold_less L (alls_new m)).1
  obtain ⟨s, hse⟩ : ∃ s, foldC (newS m) L = s := ⟨_, rfl⟩
  rw [hse] at hS3 hAs
  have HAs : Hid (Alls s) := hAs
  have HS : Hid (StAt B w3 p nv mv s) := hS3
  have HD : Hid (s.now.length ≤ 32) := hS3.n32
  have HCs : Hid (Calls Tryz.prog 9 #[.slice xa xs.length xc, .pointer (some ⟨p, 0, none⟩)] w3 (HlCtOut s.now xs w3)) := cuts_out xa xc xs (HXs.out w3 HB3.out) (by omega) hS3 hAs (HTz.out w3 HB3.out).1 (HTz.out w3 HB3.out).2
  clear hse hS3 hb3 hB HBh p0 p1 p2 p3 hAs HGc
  go_upto_region 9 with (go_at_call 9; refine calls_at HCs.out (by with_reducible rfl) (by with_reducible rfl) ?_; intro e w6 hh; (obtain ⟨l, ok, a6, cp6, h1, h2, h3, h4, h5⟩ := hh); subst h3)
  have HB6 : Hid (Below W.heap.size W w6) := bl_next HB3.out h5
  have HR6 : Hid (CtR s.now xs l ok) := h1
  have HL6 : Hid (ZsAt w6 a6 l) := h4
  have hl6 : l.length ≤ 3072 := h2
  have HS6 : Hid (StAt B w6 p nv mv s) := HS.out.below h5
  have HFa : Hid (Calls Tryz.prog 10 #[.slice xa xs.length xc, .pointer (some ⟨p, 0, none⟩)] w6 (FlOut s.now xs ok w6)) := fails_out xa xc xs (HXs.out w6 HB6.out) (by omega) HS6.out (HTz.out w6 HB6.out).1 (HTz.out w6 HB6.out).2 h1
  clear h1 h2 h4 h5 HCs HS HB3
  go_upto_region 10 with (go_at_call 10; refine calls_at HFa.out (by with_reducible rfl) (by with_reducible rfl) ?_; intro e w8 hh; (obtain ⟨flo, fhi, fa, fc, fl, h1, h2, h3, h4, h5, h6⟩ := hh); subst h1)
  obtain ⟨Y, hY⟩ : ∃ Y, w8.alloc (.cells #[.int .i64 flo, .int .i64 fhi, .slice fa fl.length fc] 37) = Y := ⟨_, rfl⟩
  have hbY : Below w8.heap.size w8 Y := by rw [← hY]; exact (Below.refl _ _).alloc (Nat.le_refl _) _
  have gY : Y.heap[w8.heap.size]? = some (.cells #[.int .i64 flo, .int .i64 fhi, .slice fa fl.length fc] 37 (0, 0)) := by rw [← hY]; exact heap_alloc_new w8 _
  have hb6Y : Below w6.heap.size w6 Y := bl_next h6 hbY
  have HBY : Hid (Below W.heap.size W Y) := bl_next HB6.out hb6Y
  have HLY : Hid (ZsAt Y a6 l) := HL6.out.below hb6Y
  have HSY : Hid (StAt B Y p nv mv s) := HS6.out.below hb6Y
  have HIY : Hid (Calls Tryz.prog 11 #[.agg #[.int .i64 flo, .int .i64 fhi, .slice fa fl.length fc], .pointer (some ⟨p, 0, none⟩)] Y fun e w' => e = .returned (.bool (fl.all (inW s.now flo fhi))) ∧ Below Y.heap.size Y w') := inside_any B p nv mv s flo fhi fa fc fl Y HSY.out (HTz.out Y HBY.out).1 (HTz.out Y HBY.out).2 (h2.below hbY) h4 (by omega)
  have HFk : Hid (ok = false → fl.all (inW s.now flo fhi) = true ∧ fhi - flo + 1 < (fl.length : Int) ∧ -2000000000 ≤ flo ∧ flo ≤ 2000000000 ∧ -2000000000 ≤ fhi ∧ fhi ≤ 2000000000) := h3
  have y0 := cell_of gY 0
  have y1 := cell_of gY 1
  have y2 := cell_of gY 2
  try rw [hY]
  clear hY hbY gY hb6Y h2 h3 h4 h6 HL6 HS6 HB6 HFa
  go_cut [71] from 48 to 71 (fun s71 wx => s71 = .bool false ∧ Hid (Below Y.heap.size Y wx))
  case first =>
    cases ok with
    | true =>
      go_wp2_with fail
      go_meet
      exact ⟨rfl, Below.refl _ _⟩
    | false =>
      obtain ⟨k1, k2, k3, k4, k5, k6⟩ := HFk.out rfl
      rw [k1] at HIY
      have hd : decide ((fl.length : Int) ≤ fhi - flo + 1) = false := decide_eq_false (by omega)
      go_wp2_with (go_at_call 11; refine calls_at HIY.out (by with_reducible rfl) (by with_reducible rfl) ?_; rintro e w9 ⟨rfl, hb9⟩)
      go_meet
      exact ⟨rfl, hb9⟩
  case rest =>
  obtain ⟨rfl, HB9⟩ := hcut
  rename World => w9
  clear y0 y1 y2 HIY HFk
  have HB9w : Hid (Below W.heap.size W w9) := bl_next HBY.out HB9.out
  have HL9 : Hid (ZsAt w9 a6 l) := HLY.out.below HB9.out
  have HS9 : Hid (StAt B w9 p nv mv s) := HSY.out.below HB9.out
  have HFi : Hid (Fines s.now) := fines_alls HAs.out
  have HCt : Hid (∀ i (h : i < l.length), l[i].x < s.now.length ∧ InsAt s.now xs l[i].lo l[i].hi l[i].xs ∧ (l[i].xs.length : Int) = l[i].hi - l[i].lo + 1 ∧ l[i].lo ≤ l[i].v ∧ l[i].v ≤ l[i].hi ∧ inW s.now l[i].lo l[i].hi (l[i].x : Int) = false ∧ (dmAt s.now l[i].x).has l[i].v = true) := fun i hi => safe_cut HFi.out HD.out HR6.out _ (List.getElem_mem hi)
  clear HBY HLY HSY HB9
  go_wp2_with fail
  go_loopw [14] (fun iv wz => ∃ (i : Nat), iv = .int .i64 (i : Int) ∧ i ≤ l.length ∧ Hid (Below w9.heap.size w9 wz)) (fun iv _ => l.length - (intOf iv).toNat)
  case atStart => exact ⟨0, rfl, Nat.zero_le _, Below.refl _ _⟩
  case round =>
  obtain ⟨i, rfl, hi, HBx⟩ := hrel
  rename World => wz
  by_cases hin : i < l.length
  case pos =>
    have hiI : (i : Int) < (l.length : Int) := by omega
    obtain ⟨z1, z2, z3, z4, z5, z6, z7⟩ := HCt.out i hin
    have hbd := (dmAt_fine HFi.out z1).bd z7
    obtain ⟨b, off, u, rfl, hblt, ⟨q1, q2, q3⟩, ⟨q4, q5, q6⟩, hxi⟩ := HL9.out.below HBx.out i hin
    obtain ⟨ua, uc, rfl, _⟩ := id hxi
    have hfw := z2.few
    have HIn0 := fun w' (hb : Below wz.heap.size wz w') => inside_any B p nv mv s l[i].lo l[i].hi ua uc l[i].xs w' (HS9.out.below (bl_next HBx.out hb)) (HTz.out w' (bl_next HB9w.out (bl_next HBx.out hb))).1 (HTz.out w' (bl_next HB9w.out (bl_next HBx.out hb))).2 (hxi.below hb) z2.var (by omega)
    have hins := z2.ins
    have HLo0 := fun w' (hb : Below wz.heap.size wz w') => lo_in B p nv mv s l[i].x z1 w' (HS9.out.below (bl_next HBx.out hb)) (HTz.out w' (bl_next HB9w.out (bl_next HBx.out hb))).1
    have HHi0 := fun w' (hb : Below wz.heap.size wz w') => hi_in B p nv mv s l[i].x z1 w' (HS9.out.below (bl_next HBx.out hb))
    have HHa0 := fun w' (hb : Below wz.heap.size wz w') => has_in B p nv mv s l[i].x z1 l[i].v w' (HS9.out.below (bl_next HBx.out hb))
    have e1 : s.now[l[i].x]'z1 = dmAt s.now l[i].x := by
      unfold dmAt
      rw [List.getD_eq_getElem?_getD, List.getElem?_eq_getElem z1]
      rfl
    rw [e1] at HLo0 HHi0 HHa0
    obtain ⟨⟨x, v, lo, hi, xl⟩, hz⟩ : ∃ z, l[i] = z := ⟨_, rfl⟩
    clear e1
    rw [hz] at z1 z2 z3 z4 z5 z6 z7 hbd q2 q3 q4 q5 hxi hfw HIn0 hins HLo0 HHi0 HHa0 q6
    dsimp only at z1 z2 z3 z4 z5 z6 z7 hbd q2 q3 q4 q5 hxi hfw HIn0 hins HLo0 HHi0 HHa0 q6
    rw [hins] at HIn0
    have ht : dHas (dmAt s.now x).f (dmAt s.now x).a (dmAt s.now x).b v = true := z7
    rw [ht] at HHa0
    have hw6 : ¬ (lo ≤ (dmAt s.now x).lo ∧ (dmAt s.now x).hi ≤ hi) := fun hh => by
      have := inW_iff.2 (show lo ≤ (dmAt s.now ((x : Int)).toNat).lo ∧ (dmAt s.now ((x : Int)).toNat).hi ≤ hi by rw [Int.toNat_natCast]; exact hh)
      rw [z6] at this
      cases this
    obtain ⟨V, hV⟩ : ∃ V, wz.alloc (.cells #[.int .i64 lo, .int .i64 hi, .slice ua xl.length uc] 37) = V := ⟨_, rfl⟩
    obtain ⟨X, hX⟩ : ∃ X, V.alloc (.cells #[.int .i64 3, .int .i64 (x : Int), .int .i64 v] 42) = X := ⟨_, rfl⟩
    have hbV : Below wz.heap.size wz V := by rw [← hV]; exact (Below.refl _ _).alloc (Nat.le_refl _) _
    have hbX : Below V.heap.size V X := by rw [← hX]; exact (Below.refl _ _).alloc (Nat.le_refl _) _
    have gV : V.heap[wz.heap.size]? = some (.cells #[.int .i64 lo, .int .i64 hi, .slice ua xl.length uc] 37 (0, 0)) := by rw [← hV]; exact heap_alloc_new wz _
    have gX : X.heap[V.heap.size]? = some (.cells #[.int .i64 3, .int .i64 (x : Int), .int .i64 v] 42 (0, 0)) := by rw [← hX]; exact heap_alloc_new V _
    have gV2 := (hbX.block _ (Array.getElem?_eq_some_iff.1 gV).1).trans gV
    have HBX0 : Below wz.heap.size wz X := bl_next hbV hbX
    have HBX : Hid (Below w9.heap.size w9 X) := bl_next HBx.out HBX0
    have r1 := (hbV.cell (p := ⟨b, _, none⟩) hblt).trans q1
    have r2 : V.cell? ⟨b, off + i * 7 + 1 + 1, none⟩ = some (.int .i64 (x : Int)) := (hbV.cell (p := ⟨b, _, none⟩) hblt).trans q2
    have r3 : V.cell? ⟨b, off + i * 7 + 1 + 2, none⟩ = some (.int .i64 v) := (hbV.cell (p := ⟨b, _, none⟩) hblt).trans q3
    have t5 : wz.cell? ⟨b, off + i * 7 + 4 + 1, none⟩ = some (.int .i64 hi) := q5
    have t6 : wz.cell? ⟨b, off + i * 7 + 4 + 2, none⟩ = some (.slice ua xl.length uc) := q6
    have HIn : Hid (∀ w', Below X.heap.size X w' → Calls Tryz.prog 11 #[.agg #[.int .i64 lo, .int .i64 hi, .slice ua xl.length uc], .pointer (some ⟨p, 0, none⟩)] w' fun e w2 => e = .returned (.bool true) ∧ Below w'.heap.size w' w2) := fun w' hb => HIn0 w' (bl_next HBX0 hb)
    have HLo1 := fun w' (hb : Below X.heap.size X w') => HLo0 w' (bl_next HBX0 hb)
    have HHi1 := fun w' (hb : Below X.heap.size X w') => HHi0 w' (bl_next HBX0 hb)
    have HHa : Hid (∀ w', Below X.heap.size X w' → Calls Tryz.prog 14 #[.pointer (some ⟨p, 0, none⟩), .int .i64 (x : Int), .int .i64 v] w' fun e w2 => e = .returned (.bool true) ∧ Below w'.heap.size w' w2) := fun w' hb => HHa0 w' (bl_next HBX0 hb)
    obtain ⟨p1, hp1⟩ : ∃ p1, (dmAt s.now x).lo = p1 := ⟨_, rfl⟩
    obtain ⟨p2, hp2⟩ : ∃ p2, (dmAt s.now x).hi = p2 := ⟨_, rfl⟩
    have HLo : Hid (∀ w', Below X.heap.size X w' → Calls Tryz.prog 12 #[.pointer (some ⟨p, 0, none⟩), .int .i64 (x : Int)] w' fun e w2 => e = .returned (.int .i64 p1) ∧ Below w'.heap.size w' w2) := by rw [← hp1]; exact HLo1
    have HHi : Hid (∀ w', Below X.heap.size X w' → Calls Tryz.prog 13 #[.pointer (some ⟨p, 0, none⟩), .int .i64 (x : Int)] w' fun e w2 => e = .returned (.int .i64 p2) ∧ Below w'.heap.size w' w2) := by rw [← hp2]; exact HHi1
    rw [hp1, hp2] at hw6
    obtain ⟨N1, hN1⟩ : ∃ N1, wz.heap.size = N1 := ⟨_, rfl⟩
    obtain ⟨N2, hN2⟩ : ∃ N2, V.heap.size = N2 := ⟨_, rfl⟩
    have HHd : Hid (∀ w', Below X.heap.size X w' → (w'.cell? ⟨N1, 0, none⟩ = some (.int .i64 lo) ∧ w'.cell? ⟨N1, 1, none⟩ = some (.int .i64 hi) ∧ w'.cell? ⟨N1, 2, none⟩ = some (.slice ua xl.length uc)) ∧ w'.cell? ⟨N2, 0, none⟩ = some (.int .i64 3) ∧ w'.cell? ⟨N2, 1, none⟩ = some (.int .i64 (x : Int)) ∧ w'.cell? ⟨N2, 2, none⟩ = some (.int .i64 v)) := fun w' hb => by
      rw [← hN1, ← hN2]
      have y1 := (hb.block _ (Array.getElem?_eq_some_iff.1 gV2).1).trans gV2
      have y2 := (hb.block _ (Array.getElem?_eq_some_iff.1 gX).1).trans gX
      exact ⟨⟨cell_of y1 0, cell_of y1 1, cell_of y1 2⟩, cell_of y2 0, cell_of y2 1, cell_of y2 2⟩
    have HNe : Hid (wz.heap.size = N1 ∧ V.heap.size = N2) := ⟨hN1, hN2⟩
    have HVe : Hid (wz.alloc (.cells #[.int .i64 lo, .int .i64 hi, .slice ua xl.length uc] 37) = V ∧ V.alloc (.cells #[.int .i64 3, .int .i64 (x : Int), .int .i64 v] 42) = X) := ⟨hV, hX⟩
    clear z1 z2 z6 z7 hbV hbX gV gX gV2 HBX0 HIn0 HLo0 HHi0 HHa0 HLo1 HHi1 hp1 hp2 hN1 hN2 hV hX hz hxi hins ht q1 q2 q3 q5 q6 hblt
    go_upto_region 16 with fail
    rw [HVe.out.1]
    clear q4 t5 t6
    go_upto_region 17 with fail
    rw [HVe.out.2, HNe.out.1, HNe.out.2]
    clear r1 r2 r3 HVe HNe
    have HBd : Hid (Below X.heap.size X X.drew) := (Below.refl _ _).drew
    have hws1 : IntKind.i64.wrap (hi - lo) = hi - lo := by rw [IntKind.wrap_i64]; omega
    have hws2 : IntKind.i64.wrap (hi - lo + 1) = hi - lo + 1 := by rw [IntKind.wrap_i64]; omega
    have hws3 : IntKind.i64.wrap (xl.length : Int) = (xl.length : Int) := by rw [IntKind.wrap_i64]; omega
    have hlen : hi - lo + 1 = (xl.length : Int) := z3.symm
    have hd1 : decide (v < lo) = false := decide_eq_false (by omega)
    have hd2 : decide (hi < v) = false := decide_eq_false (by omega)
    clear z3 hfw z4 z5 hbd
    by_cases hlo : lo ≤ p1
    case pos =>
      have hd3 : decide (p2 ≤ hi) = false := decide_eq_false (fun hh => hw6 ⟨hlo, hh⟩)
      refine wp_region_T (fun w' => (w'.cell? ⟨N1, 0, none⟩ = some (.int .i64 lo) ∧ w'.cell? ⟨N1, 1, none⟩ = some (.int .i64 hi) ∧ w'.cell? ⟨N1, 2, none⟩ = some (.slice ua xl.length uc)) ∧ w'.cell? ⟨N2, 0, none⟩ = some (.int .i64 3) ∧ w'.cell? ⟨N2, 1, none⟩ = some (.int .i64 (x : Int)) ∧ w'.cell? ⟨N2, 2, none⟩ = some (.int .i64 v)) (fun _ => True) [] (by kernel_rfl) ⟨HHd.out _ HBd.out, trivial⟩ (fun hHeld => ?_)
      generalize X.drew = U at HBd hHeld ⊢
      refine wpAnyT_takeB (i := 0) (oi := ⟨some 88, .fieldAddr 37 (.tmp 15) 2, _, _, _, _⟩) (v := ?vR17c1x0) rfl (by kernel_rfl) (by kernel_rfl) (by kernel_rfl) (by kernel_rfl) (fun _ _ _ h => h) (Or.inl ⟨by rfl, ?hyR17c1x0⟩) (by assumption) ?restR17c1x0
      case hyR17c1x0 => (intro w hSw; (try dsimp only at hSw); go_simp; try (with_reducible rfl))
      try simp only [Act.put, List.setIfInBounds_toArray, List.set_cons_zero, List.set_cons_succ]
      refine wpAnyT_takeB (i := 1) (oi := ⟨some 89, .load 28 (.tmp 88), _, _, _, _⟩) (v := ?vR17c1x1) rfl (by kernel_rfl) (by kernel_rfl) (by kernel_rfl) (by kernel_rfl) (fun _ _ _ h => h) (Or.inl ⟨by rfl, ?hyR17c1x1⟩) (by assumption) ?restR17c1x1
      case hyR17c1x1 => (intro w hSw; (try dsimp only at hSw); go_simp; try (with_reducible rfl))
      try simp only [Act.put, List.setIfInBounds_toArray, List.set_cons_zero, List.set_cons_succ]
      refine wpAnyT_takeB (i := 2) (oi := ⟨some 90, .call { callee := .builtin .len, args := #[(.tmp 89)], argTypes := #[28] }, _, _, _, _⟩) (v := ?vR17c1x2) rfl (by kernel_rfl) (by kernel_rfl) (by kernel_rfl) (by kernel_rfl) (fun _ _ _ h => h) (Or.inl ⟨by rfl, ?hyR17c1x2⟩) (by assumption) ?restR17c1x2
      case hyR17c1x2 => (intro w hSw; (try dsimp only at hSw); go_simp; try (with_reducible rfl))
      try simp only [Act.put, List.setIfInBounds_toArray, List.set_cons_zero, List.set_cons_succ]
      refine wpAnyT_takeB (i := 3) (oi := ⟨some 91, .fieldAddr 37 (.tmp 15) 1, _, _, _, _⟩) (v := ?vR17c1x3) rfl (by kernel_rfl) (by kernel_rfl) (by kernel_rfl) (by kernel_rfl) (fun _ _ _ h => h) (Or.inl ⟨by rfl, ?hyR17c1x3⟩) (by assumption) ?restR17c1x3
      case hyR17c1x3 => (intro w hSw; (try dsimp only at hSw); go_simp; try (with_reducible rfl))
      try simp only [Act.put, List.setIfInBounds_toArray, List.set_cons_zero, List.set_cons_succ]
      refine wpAnyT_takeB (i := 4) (oi := ⟨some 92, .load 3 (.tmp 91), _, _, _, _⟩) (v := ?vR17c1x4) rfl (by kernel_rfl) (by kernel_rfl) (by kernel_rfl) (by kernel_rfl) (fun _ _ _ h => h) (Or.inl ⟨by rfl, ?hyR17c1x4⟩) (by assumption) ?restR17c1x4
      case hyR17c1x4 => (intro w hSw; (try dsimp only at hSw); go_simp; try (with_reducible rfl))
      try simp only [Act.put, List.setIfInBounds_toArray, List.set_cons_zero, List.set_cons_succ]
      refine wpAnyT_takeB (i := 5) (oi := ⟨some 93, .fieldAddr 37 (.tmp 15) 0, _, _, _, _⟩) (v := ?vR17c1x5) rfl (by kernel_rfl) (by kernel_rfl) (by kernel_rfl) (by kernel_rfl) (fun _ _ _ h => h) (Or.inl ⟨by rfl, ?hyR17c1x5⟩) (by assumption) ?restR17c1x5
      case hyR17c1x5 => (intro w hSw; (try dsimp only at hSw); go_simp; try (with_reducible rfl))
      try simp only [Act.put, List.setIfInBounds_toArray, List.set_cons_zero, List.set_cons_succ]
      refine wpAnyT_takeB (i := 6) (oi := ⟨some 94, .load 3 (.tmp 93), _, _, _, _⟩) (v := ?vR17c1x6) rfl (by kernel_rfl) (by kernel_rfl) (by kernel_rfl) (by kernel_rfl) (fun _ _ _ h => h) (Or.inl ⟨by rfl, ?hyR17c1x6⟩) (by assumption) ?restR17c1x6
      case hyR17c1x6 => (intro w hSw; (try dsimp only at hSw); go_simp; try (with_reducible rfl))
      try simp only [Act.put, List.setIfInBounds_toArray, List.set_cons_zero, List.set_cons_succ]
      refine wpAnyT_takeB (i := 7) (oi := ⟨some 95, .binOp .sub 3 (.tmp 92) (.tmp 94) 3, _, _, _, _⟩) (v := ?vR17c1x7) rfl (by kernel_rfl) (by kernel_rfl) (by kernel_rfl) (by kernel_rfl) (fun _ _ _ h => h) (Or.inl ⟨by rfl, ?hyR17c1x7⟩) (by assumption) ?restR17c1x7
      case hyR17c1x7 => (intro w hSw; (try dsimp only at hSw); go_simp; try (with_reducible rfl))
      try simp only [Act.put, List.setIfInBounds_toArray, List.set_cons_zero, List.set_cons_succ]
      refine wpAnyT_takeB (i := 8) (oi := ⟨some 96, .binOp .add 3 (.tmp 95) ((.const (.int .i64 1))) 3, _, _, _, _⟩) (v := ?vR17c1x8) rfl (by kernel_rfl) (by kernel_rfl) (by kernel_rfl) (by kernel_rfl) (fun _ _ _ h => h) (Or.inl ⟨by rfl, ?hyR17c1x8⟩) (by assumption) ?restR17c1x8
      case hyR17c1x8 => (intro w hSw; (try dsimp only at hSw); go_simp; try (with_reducible rfl))
      try simp only [Act.put, List.setIfInBounds_toArray, List.set_cons_zero, List.set_cons_succ]
      refine wpAnyT_takeB (i := 9) (oi := ⟨some 97, .binOp .neq 3 (.tmp 90) (.tmp 96) 3, _, _, _, _⟩) (v := ?vR17c1x9) rfl (by kernel_rfl) (by kernel_rfl) (by kernel_rfl) (by kernel_rfl) (fun _ _ _ h => h) (Or.inl ⟨by rfl, ?hyR17c1x9⟩) (by assumption) ?restR17c1x9
      case hyR17c1x9 => (intro w hSw; (try dsimp only at hSw); go_simp; try (with_reducible rfl))
      try simp only [Act.put, List.setIfInBounds_toArray, List.set_cons_zero, List.set_cons_succ]
      refine wpAnyT_takeB (i := 10) (oi := ⟨some 98, .move (.tmp 97), _, _, _, _⟩) (v := ?vR17c1x10) rfl (by kernel_rfl) (by kernel_rfl) (by kernel_rfl) (by kernel_rfl) (fun _ _ _ h => h) (Or.inl ⟨by rfl, ?hyR17c1x10⟩) (by assumption) ?restR17c1x10
      case hyR17c1x10 => (intro w hSw; (try dsimp only at hSw); go_simp; try (with_reducible rfl))
      try simp only [Act.put, List.setIfInBounds_toArray, List.set_cons_zero, List.set_cons_succ]
      refine wpAnyT_takeB (i := 11) (oi := ⟨some 99, .load 37 (.tmp 15), _, _, _, _⟩) (v := ?vR17c1x11) rfl (by kernel_rfl) (by kernel_rfl) (by kernel_rfl) (by kernel_rfl) (fun _ _ _ h => h) (Or.inl ⟨by rfl, ?hyR17c1x11⟩) (by assumption) ?restR17c1x11
      case hyR17c1x11 => (intro w hSw; (try dsimp only at hSw); go_simp; try (with_reducible rfl))
      try simp only [Act.put, List.setIfInBounds_toArray, List.set_cons_zero, List.set_cons_succ]
      refine wpAnyT_takeB (i := 12) (oi := ⟨some 100, .move (.tmp 9), _, _, _, _⟩) (v := ?vR17c1x12) rfl (by kernel_rfl) (by kernel_rfl) (by kernel_rfl) (by kernel_rfl) (fun _ _ _ h => h) (Or.inl ⟨by rfl, ?hyR17c1x12⟩) (by assumption) ?restR17c1x12
      case hyR17c1x12 => (intro w hSw; (try dsimp only at hSw); go_simp; try (with_reducible rfl))
      try simp only [Act.put, List.setIfInBounds_toArray, List.set_cons_zero, List.set_cons_succ]
      refine wpAnyT_one (i := 13) (o := ⟨some 101, .call { callee := .value (.func 11), args := #[(.tmp 99), (.tmp 100)], argTypes := #[37, 31] }, _, _, _, _⟩) (by kernel_rfl) rfl (fun K hK => ?_)
      go_simp
      refine calls_at (HIn.out _ HBd.out) (by with_reducible rfl) (by with_reducible rfl) ?_
      rintro e w20 ⟨rfl, hbw20⟩
      go_wp2_with fail
      have HB20 : Hid (Below X.heap.size X w20) := bl_next HBd.out hbw20
      clear hbw20 hHeld
      have hHeld := (⟨HHd.out _ HB20.out, trivial⟩ : _ ∧ True)
      refine hK.out _ _ ⟨hHeld.1, fun _ => trivial⟩ ?_
      clear hK K
      refine wpAnyT_takeB (i := 14) (oi := ⟨some 102, .unOp .not 4 (.tmp 101), _, _, _, _⟩) (v := ?vR17c1x14) rfl (by kernel_rfl) (by kernel_rfl) (by kernel_rfl) (by kernel_rfl) (fun _ _ _ h => h) (Or.inl ⟨by rfl, ?hyR17c1x14⟩) (by assumption) ?restR17c1x14
      case hyR17c1x14 => (intro w hSw; (try dsimp only at hSw); go_simp; try (with_reducible rfl))
      try simp only [Act.put, List.setIfInBounds_toArray, List.set_cons_zero, List.set_cons_succ]
      refine wpAnyT_takeB (i := 15) (oi := ⟨some 103, .pick (.tmp 98) ((.const (.bool true))) (.tmp 102), _, _, _, _⟩) (v := ?vR17c1x15) rfl (by kernel_rfl) (by kernel_rfl) (by kernel_rfl) (by kernel_rfl) (fun _ _ _ h => h) (Or.inl ⟨by rfl, ?hyR17c1x15⟩) (by assumption) ?restR17c1x15
      case hyR17c1x15 => (intro w hSw; (try dsimp only at hSw); go_simp; try (with_reducible rfl))
      try simp only [Act.put, List.setIfInBounds_toArray, List.set_cons_zero, List.set_cons_succ]
      refine wpAnyT_takeB (i := 16) (oi := ⟨some 104, .move (.tmp 103), _, _, _, _⟩) (v := ?vR17c1x16) rfl (by kernel_rfl) (by kernel_rfl) (by kernel_rfl) (by kernel_rfl) (fun _ _ _ h => h) (Or.inl ⟨by rfl, ?hyR17c1x16⟩) (by assumption) ?restR17c1x16
      case hyR17c1x16 => (intro w hSw; (try dsimp only at hSw); go_simp; try (with_reducible rfl))
      try simp only [Act.put, List.setIfInBounds_toArray, List.set_cons_zero, List.set_cons_succ]
      refine wpAnyT_takeB (i := 17) (oi := ⟨some 105, .fieldAddr 42 (.tmp 16) 2, _, _, _, _⟩) (v := ?vR17c1x17) rfl (by kernel_rfl) (by kernel_rfl) (by kernel_rfl) (by kernel_rfl) (fun _ _ _ h => h) (Or.inl ⟨by rfl, ?hyR17c1x17⟩) (by assumption) ?restR17c1x17
      case hyR17c1x17 => (intro w hSw; (try dsimp only at hSw); go_simp; try (with_reducible rfl))
      try simp only [Act.put, List.setIfInBounds_toArray, List.set_cons_zero, List.set_cons_succ]
      refine wpAnyT_takeB (i := 18) (oi := ⟨some 106, .load 3 (.tmp 105), _, _, _, _⟩) (v := ?vR17c1x18) rfl (by kernel_rfl) (by kernel_rfl) (by kernel_rfl) (by kernel_rfl) (fun _ _ _ h => h) (Or.inl ⟨by rfl, ?hyR17c1x18⟩) (by assumption) ?restR17c1x18
      case hyR17c1x18 => (intro w hSw; (try dsimp only at hSw); go_simp; try (with_reducible rfl))
      try simp only [Act.put, List.setIfInBounds_toArray, List.set_cons_zero, List.set_cons_succ]
      refine wpAnyT_takeB (i := 19) (oi := ⟨some 107, .fieldAddr 37 (.tmp 15) 0, _, _, _, _⟩) (v := ?vR17c1x19) rfl (by kernel_rfl) (by kernel_rfl) (by kernel_rfl) (by kernel_rfl) (fun _ _ _ h => h) (Or.inl ⟨by rfl, ?hyR17c1x19⟩) (by assumption) ?restR17c1x19
      case hyR17c1x19 => (intro w hSw; (try dsimp only at hSw); go_simp; try (with_reducible rfl))
      try simp only [Act.put, List.setIfInBounds_toArray, List.set_cons_zero, List.set_cons_succ]
      refine wpAnyT_takeB (i := 20) (oi := ⟨some 108, .load 3 (.tmp 107), _, _, _, _⟩) (v := ?vR17c1x20) rfl (by kernel_rfl) (by kernel_rfl) (by kernel_rfl) (by kernel_rfl) (fun _ _ _ h => h) (Or.inl ⟨by rfl, ?hyR17c1x20⟩) (by assumption) ?restR17c1x20
      case hyR17c1x20 => (intro w hSw; (try dsimp only at hSw); go_simp; try (with_reducible rfl))
      try simp only [Act.put, List.setIfInBounds_toArray, List.set_cons_zero, List.set_cons_succ]
      refine wpAnyT_takeB (i := 21) (oi := ⟨some 109, .binOp .lss 3 (.tmp 106) (.tmp 108) 3, _, _, _, _⟩) (v := ?vR17c1x21) rfl (by kernel_rfl) (by kernel_rfl) (by kernel_rfl) (by kernel_rfl) (fun _ _ _ h => h) (Or.inl ⟨by rfl, ?hyR17c1x21⟩) (by assumption) ?restR17c1x21
      case hyR17c1x21 => (intro w hSw; (try dsimp only at hSw); go_simp; try (with_reducible rfl))
      try simp only [Act.put, List.setIfInBounds_toArray, List.set_cons_zero, List.set_cons_succ]
      refine wpAnyT_takeB (i := 22) (oi := ⟨some 110, .pick (.tmp 104) ((.const (.bool true))) (.tmp 109), _, _, _, _⟩) (v := ?vR17c1x22) rfl (by kernel_rfl) (by kernel_rfl) (by kernel_rfl) (by kernel_rfl) (fun _ _ _ h => h) (Or.inl ⟨by rfl, ?hyR17c1x22⟩) (by assumption) ?restR17c1x22
      case hyR17c1x22 => (intro w hSw; (try dsimp only at hSw); go_simp; try (with_reducible rfl))
      try simp only [Act.put, List.setIfInBounds_toArray, List.set_cons_zero, List.set_cons_succ]
      refine wpAnyT_takeB (i := 23) (oi := ⟨some 111, .move (.tmp 110), _, _, _, _⟩) (v := ?vR17c1x23) rfl (by kernel_rfl) (by kernel_rfl) (by kernel_rfl) (by kernel_rfl) (fun _ _ _ h => h) (Or.inl ⟨by rfl, ?hyR17c1x23⟩) (by assumption) ?restR17c1x23
      case hyR17c1x23 => (intro w hSw; (try dsimp only at hSw); go_simp; try (with_reducible rfl))
      try simp only [Act.put, List.setIfInBounds_toArray, List.set_cons_zero, List.set_cons_succ]
      refine wpAnyT_takeB (i := 24) (oi := ⟨some 112, .fieldAddr 42 (.tmp 16) 2, _, _, _, _⟩) (v := ?vR17c1x24) rfl (by kernel_rfl) (by kernel_rfl) (by kernel_rfl) (by kernel_rfl) (fun _ _ _ h => h) (Or.inl ⟨by rfl, ?hyR17c1x24⟩) (by assumption) ?restR17c1x24
      case hyR17c1x24 => (intro w hSw; (try dsimp only at hSw); go_simp; try (with_reducible rfl))
      try simp only [Act.put, List.setIfInBounds_toArray, List.set_cons_zero, List.set_cons_succ]
      refine wpAnyT_takeB (i := 25) (oi := ⟨some 113, .load 3 (.tmp 112), _, _, _, _⟩) (v := ?vR17c1x25) rfl (by kernel_rfl) (by kernel_rfl) (by kernel_rfl) (by kernel_rfl) (fun _ _ _ h => h) (Or.inl ⟨by rfl, ?hyR17c1x25⟩) (by assumption) ?restR17c1x25
      case hyR17c1x25 => (intro w hSw; (try dsimp only at hSw); go_simp; try (with_reducible rfl))
      try simp only [Act.put, List.setIfInBounds_toArray, List.set_cons_zero, List.set_cons_succ]
      refine wpAnyT_takeB (i := 26) (oi := ⟨some 114, .fieldAddr 37 (.tmp 15) 1, _, _, _, _⟩) (v := ?vR17c1x26) rfl (by kernel_rfl) (by kernel_rfl) (by kernel_rfl) (by kernel_rfl) (fun _ _ _ h => h) (Or.inl ⟨by rfl, ?hyR17c1x26⟩) (by assumption) ?restR17c1x26
      case hyR17c1x26 => (intro w hSw; (try dsimp only at hSw); go_simp; try (with_reducible rfl))
      try simp only [Act.put, List.setIfInBounds_toArray, List.set_cons_zero, List.set_cons_succ]
      refine wpAnyT_takeB (i := 27) (oi := ⟨some 115, .load 3 (.tmp 114), _, _, _, _⟩) (v := ?vR17c1x27) rfl (by kernel_rfl) (by kernel_rfl) (by kernel_rfl) (by kernel_rfl) (fun _ _ _ h => h) (Or.inl ⟨by rfl, ?hyR17c1x27⟩) (by assumption) ?restR17c1x27
      case hyR17c1x27 => (intro w hSw; (try dsimp only at hSw); go_simp; try (with_reducible rfl))
      try simp only [Act.put, List.setIfInBounds_toArray, List.set_cons_zero, List.set_cons_succ]
      refine wpAnyT_takeB (i := 28) (oi := ⟨some 116, .binOp .gtr 3 (.tmp 113) (.tmp 115) 3, _, _, _, _⟩) (v := ?vR17c1x28) rfl (by kernel_rfl) (by kernel_rfl) (by kernel_rfl) (by kernel_rfl) (fun _ _ _ h => h) (Or.inl ⟨by rfl, ?hyR17c1x28⟩) (by assumption) ?restR17c1x28
      case hyR17c1x28 => (intro w hSw; (try dsimp only at hSw); go_simp; try (with_reducible rfl))
      try simp only [Act.put, List.setIfInBounds_toArray, List.set_cons_zero, List.set_cons_succ]
      refine wpAnyT_takeB (i := 29) (oi := ⟨some 117, .pick (.tmp 111) ((.const (.bool true))) (.tmp 116), _, _, _, _⟩) (v := ?vR17c1x29) rfl (by kernel_rfl) (by kernel_rfl) (by kernel_rfl) (by kernel_rfl) (fun _ _ _ h => h) (Or.inl ⟨by rfl, ?hyR17c1x29⟩) (by assumption) ?restR17c1x29
      case hyR17c1x29 => (intro w hSw; (try dsimp only at hSw); go_simp; try (with_reducible rfl))
      try simp only [Act.put, List.setIfInBounds_toArray, List.set_cons_zero, List.set_cons_succ]
      refine wpAnyT_takeB (i := 30) (oi := ⟨some 118, .move (.tmp 117), _, _, _, _⟩) (v := ?vR17c1x30) rfl (by kernel_rfl) (by kernel_rfl) (by kernel_rfl) (by kernel_rfl) (fun _ _ _ h => h) (Or.inl ⟨by rfl, ?hyR17c1x30⟩) (by assumption) ?restR17c1x30
      case hyR17c1x30 => (intro w hSw; (try dsimp only at hSw); go_simp; try (with_reducible rfl))
      try simp only [Act.put, List.setIfInBounds_toArray, List.set_cons_zero, List.set_cons_succ]
      refine wpAnyT_takeB (i := 31) (oi := ⟨some 119, .move (.tmp 9), _, _, _, _⟩) (v := ?vR17c1x31) rfl (by kernel_rfl) (by kernel_rfl) (by kernel_rfl) (by kernel_rfl) (fun _ _ _ h => h) (Or.inl ⟨by rfl, ?hyR17c1x31⟩) (by assumption) ?restR17c1x31
      case hyR17c1x31 => (intro w hSw; (try dsimp only at hSw); go_simp; try (with_reducible rfl))
      try simp only [Act.put, List.setIfInBounds_toArray, List.set_cons_zero, List.set_cons_succ]
      refine wpAnyT_takeB (i := 32) (oi := ⟨some 120, .fieldAddr 42 (.tmp 16) 1, _, _, _, _⟩) (v := ?vR17c1x32) rfl (by kernel_rfl) (by kernel_rfl) (by kernel_rfl) (by kernel_rfl) (fun _ _ _ h => h) (Or.inl ⟨by rfl, ?hyR17c1x32⟩) (by assumption) ?restR17c1x32
      case hyR17c1x32 => (intro w hSw; (try dsimp only at hSw); go_simp; try (with_reducible rfl))
      try simp only [Act.put, List.setIfInBounds_toArray, List.set_cons_zero, List.set_cons_succ]
      refine wpAnyT_takeB (i := 33) (oi := ⟨some 121, .load 3 (.tmp 120), _, _, _, _⟩) (v := ?vR17c1x33) rfl (by kernel_rfl) (by kernel_rfl) (by kernel_rfl) (by kernel_rfl) (fun _ _ _ h => h) (Or.inl ⟨by rfl, ?hyR17c1x33⟩) (by assumption) ?restR17c1x33
      case hyR17c1x33 => (intro w hSw; (try dsimp only at hSw); go_simp; try (with_reducible rfl))
      try simp only [Act.put, List.setIfInBounds_toArray, List.set_cons_zero, List.set_cons_succ]
      refine wpAnyT_takeB (i := 35) (oi := ⟨some 123, .fieldAddr 37 (.tmp 15) 0, _, _, _, _⟩) (v := ?vR17c1x35) rfl (by kernel_rfl) (by kernel_rfl) (by kernel_rfl) (by kernel_rfl) (fun _ _ _ h => h) (Or.inl ⟨by rfl, ?hyR17c1x35⟩) (by assumption) ?restR17c1x35
      case hyR17c1x35 => (intro w hSw; (try dsimp only at hSw); go_simp; try (with_reducible rfl))
      try simp only [Act.put, List.setIfInBounds_toArray, List.set_cons_zero, List.set_cons_succ]
      refine wpAnyT_takeB (i := 36) (oi := ⟨some 124, .load 3 (.tmp 123), _, _, _, _⟩) (v := ?vR17c1x36) rfl (by kernel_rfl) (by kernel_rfl) (by kernel_rfl) (by kernel_rfl) (fun _ _ _ h => h) (Or.inl ⟨by rfl, ?hyR17c1x36⟩) (by assumption) ?restR17c1x36
      case hyR17c1x36 => (intro w hSw; (try dsimp only at hSw); go_simp; try (with_reducible rfl))
      try simp only [Act.put, List.setIfInBounds_toArray, List.set_cons_zero, List.set_cons_succ]
      refine wpAnyT_one (i := 34) (o := ⟨some 122, .call { callee := .value (.func 12), args := #[(.tmp 119), (.tmp 121)], argTypes := #[31, 3] }, _, _, _, _⟩) (by kernel_rfl) rfl (fun K hK => ?_)
      go_simp
      refine calls_at (HLo.out _ HB20.out) (by with_reducible rfl) (by with_reducible rfl) ?_
      rintro e w21 ⟨rfl, hbw21⟩
      go_wp2_with fail
      have HB21 : Hid (Below X.heap.size X w21) := bl_next HB20.out hbw21
      clear hbw21 hHeld
      have hHeld := (⟨HHd.out _ HB21.out, trivial⟩ : _ ∧ True)
      refine hK.out _ _ ⟨hHeld.1, fun _ => trivial⟩ ?_
      clear hK K
      refine wpAnyT_takeB (i := 37) (oi := ⟨some 125, .binOp .geq 3 (.tmp 122) (.tmp 124) 3, _, _, _, _⟩) (v := ?vR17c1x37) rfl (by kernel_rfl) (by kernel_rfl) (by kernel_rfl) (by kernel_rfl) (fun _ _ _ h => h) (Or.inl ⟨by rfl, ?hyR17c1x37⟩) (by assumption) ?restR17c1x37
      case hyR17c1x37 => (intro w hSw; (try dsimp only at hSw); go_simp; try (with_reducible rfl))
      try simp only [Act.put, List.setIfInBounds_toArray, List.set_cons_zero, List.set_cons_succ]
      refine wpAnyT_takeB (i := 38) (oi := ⟨some 126, .move (.tmp 125), _, _, _, _⟩) (v := ?vR17c1x38) rfl (by kernel_rfl) (by kernel_rfl) (by kernel_rfl) (by kernel_rfl) (fun _ _ _ h => h) (Or.inl ⟨by rfl, ?hyR17c1x38⟩) (by assumption) ?restR17c1x38
      case hyR17c1x38 => (intro w hSw; (try dsimp only at hSw); go_simp; try (with_reducible rfl))
      try simp only [Act.put, List.setIfInBounds_toArray, List.set_cons_zero, List.set_cons_succ]
      refine wpAnyT_takeB (i := 39) (oi := ⟨some 127, .move (.tmp 9), _, _, _, _⟩) (v := ?vR17c1x39) rfl (by kernel_rfl) (by kernel_rfl) (by kernel_rfl) (by kernel_rfl) (fun _ _ _ h => h) (Or.inl ⟨by rfl, ?hyR17c1x39⟩) (by assumption) ?restR17c1x39
      case hyR17c1x39 => (intro w hSw; (try dsimp only at hSw); go_simp; try (with_reducible rfl))
      try simp only [Act.put, List.setIfInBounds_toArray, List.set_cons_zero, List.set_cons_succ]
      refine wpAnyT_takeB (i := 40) (oi := ⟨some 128, .fieldAddr 42 (.tmp 16) 1, _, _, _, _⟩) (v := ?vR17c1x40) rfl (by kernel_rfl) (by kernel_rfl) (by kernel_rfl) (by kernel_rfl) (fun _ _ _ h => h) (Or.inl ⟨by rfl, ?hyR17c1x40⟩) (by assumption) ?restR17c1x40
      case hyR17c1x40 => (intro w hSw; (try dsimp only at hSw); go_simp; try (with_reducible rfl))
      try simp only [Act.put, List.setIfInBounds_toArray, List.set_cons_zero, List.set_cons_succ]
      refine wpAnyT_takeB (i := 41) (oi := ⟨some 129, .load 3 (.tmp 128), _, _, _, _⟩) (v := ?vR17c1x41) rfl (by kernel_rfl) (by kernel_rfl) (by kernel_rfl) (by kernel_rfl) (fun _ _ _ h => h) (Or.inl ⟨by rfl, ?hyR17c1x41⟩) (by assumption) ?restR17c1x41
      case hyR17c1x41 => (intro w hSw; (try dsimp only at hSw); go_simp; try (with_reducible rfl))
      try simp only [Act.put, List.setIfInBounds_toArray, List.set_cons_zero, List.set_cons_succ]
      refine wpAnyT_takeB (i := 43) (oi := ⟨some 131, .fieldAddr 37 (.tmp 15) 1, _, _, _, _⟩) (v := ?vR17c1x43) rfl (by kernel_rfl) (by kernel_rfl) (by kernel_rfl) (by kernel_rfl) (fun _ _ _ h => h) (Or.inl ⟨by rfl, ?hyR17c1x43⟩) (by assumption) ?restR17c1x43
      case hyR17c1x43 => (intro w hSw; (try dsimp only at hSw); go_simp; try (with_reducible rfl))
      try simp only [Act.put, List.setIfInBounds_toArray, List.set_cons_zero, List.set_cons_succ]
      refine wpAnyT_takeB (i := 44) (oi := ⟨some 132, .load 3 (.tmp 131), _, _, _, _⟩) (v := ?vR17c1x44) rfl (by kernel_rfl) (by kernel_rfl) (by kernel_rfl) (by kernel_rfl) (fun _ _ _ h => h) (Or.inl ⟨by rfl, ?hyR17c1x44⟩) (by assumption) ?restR17c1x44
      case hyR17c1x44 => (intro w hSw; (try dsimp only at hSw); go_simp; try (with_reducible rfl))
      try simp only [Act.put, List.setIfInBounds_toArray, List.set_cons_zero, List.set_cons_succ]
      refine wpAnyT_one (i := 42) (o := ⟨some 130, .call { callee := .value (.func 13), args := #[(.tmp 127), (.tmp 129)], argTypes := #[31, 3] }, _, _, _, _⟩) (by kernel_rfl) rfl (fun K hK => ?_)
      go_simp
      refine calls_at (HHi.out _ HB21.out) (by with_reducible rfl) (by with_reducible rfl) ?_
      rintro e w22 ⟨rfl, hbw22⟩
      go_wp2_with fail
      have HB22 : Hid (Below X.heap.size X w22) := bl_next HB21.out hbw22
      clear hbw22 hHeld
      have hHeld := (⟨HHd.out _ HB22.out, trivial⟩ : _ ∧ True)
      refine hK.out _ _ ⟨hHeld.1, fun _ => trivial⟩ ?_
      clear hK K
      refine wpAnyT_takeB (i := 45) (oi := ⟨some 133, .binOp .leq 3 (.tmp 130) (.tmp 132) 3, _, _, _, _⟩) (v := ?vR17c1x45) rfl (by kernel_rfl) (by kernel_rfl) (by kernel_rfl) (by kernel_rfl) (fun _ _ _ h => h) (Or.inl ⟨by rfl, ?hyR17c1x45⟩) (by assumption) ?restR17c1x45
      case hyR17c1x45 => (intro w hSw; (try dsimp only at hSw); go_simp; try (with_reducible rfl))
      try simp only [Act.put, List.setIfInBounds_toArray, List.set_cons_zero, List.set_cons_succ]
      refine wpAnyT_takeB (i := 46) (oi := ⟨some 134, .pick (.tmp 126) (.tmp 133) ((.const (.bool false))), _, _, _, _⟩) (v := ?vR17c1x46) rfl (by kernel_rfl) (by kernel_rfl) (by kernel_rfl) (by kernel_rfl) (fun _ _ _ h => h) (Or.inl ⟨by rfl, ?hyR17c1x46⟩) (by assumption) ?restR17c1x46
      case hyR17c1x46 => (intro w hSw; (try dsimp only at hSw); go_simp; try (with_reducible rfl))
      try simp only [Act.put, List.setIfInBounds_toArray, List.set_cons_zero, List.set_cons_succ]
      refine wpAnyT_takeB (i := 47) (oi := ⟨some 135, .pick (.tmp 118) ((.const (.bool true))) (.tmp 134), _, _, _, _⟩) (v := ?vR17c1x47) rfl (by kernel_rfl) (by kernel_rfl) (by kernel_rfl) (by kernel_rfl) (fun _ _ _ h => h) (Or.inl ⟨by rfl, ?hyR17c1x47⟩) (by assumption) ?restR17c1x47
      case hyR17c1x47 => (intro w hSw; (try dsimp only at hSw); go_simp; try (with_reducible rfl))
      try simp only [Act.put, List.setIfInBounds_toArray, List.set_cons_zero, List.set_cons_succ]
      refine wpAnyT_takeB (i := 48) (oi := ⟨some 136, .move (.tmp 135), _, _, _, _⟩) (v := ?vR17c1x48) rfl (by kernel_rfl) (by kernel_rfl) (by kernel_rfl) (by kernel_rfl) (fun _ _ _ h => h) (Or.inl ⟨by rfl, ?hyR17c1x48⟩) (by assumption) ?restR17c1x48
      case hyR17c1x48 => (intro w hSw; (try dsimp only at hSw); go_simp; try (with_reducible rfl))
      try simp only [Act.put, List.setIfInBounds_toArray, List.set_cons_zero, List.set_cons_succ]
      refine wpAnyT_takeB (i := 49) (oi := ⟨some 137, .move (.tmp 9), _, _, _, _⟩) (v := ?vR17c1x49) rfl (by kernel_rfl) (by kernel_rfl) (by kernel_rfl) (by kernel_rfl) (fun _ _ _ h => h) (Or.inl ⟨by rfl, ?hyR17c1x49⟩) (by assumption) ?restR17c1x49
      case hyR17c1x49 => (intro w hSw; (try dsimp only at hSw); go_simp; try (with_reducible rfl))
      try simp only [Act.put, List.setIfInBounds_toArray, List.set_cons_zero, List.set_cons_succ]
      refine wpAnyT_takeB (i := 50) (oi := ⟨some 138, .fieldAddr 42 (.tmp 16) 1, _, _, _, _⟩) (v := ?vR17c1x50) rfl (by kernel_rfl) (by kernel_rfl) (by kernel_rfl) (by kernel_rfl) (fun _ _ _ h => h) (Or.inl ⟨by rfl, ?hyR17c1x50⟩) (by assumption) ?restR17c1x50
      case hyR17c1x50 => (intro w hSw; (try dsimp only at hSw); go_simp; try (with_reducible rfl))
      try simp only [Act.put, List.setIfInBounds_toArray, List.set_cons_zero, List.set_cons_succ]
      refine wpAnyT_takeB (i := 51) (oi := ⟨some 139, .load 3 (.tmp 138), _, _, _, _⟩) (v := ?vR17c1x51) rfl (by kernel_rfl) (by kernel_rfl) (by kernel_rfl) (by kernel_rfl) (fun _ _ _ h => h) (Or.inl ⟨by rfl, ?hyR17c1x51⟩) (by assumption) ?restR17c1x51
      case hyR17c1x51 => (intro w hSw; (try dsimp only at hSw); go_simp; try (with_reducible rfl))
      try simp only [Act.put, List.setIfInBounds_toArray, List.set_cons_zero, List.set_cons_succ]
      refine wpAnyT_takeB (i := 52) (oi := ⟨some 140, .fieldAddr 42 (.tmp 16) 2, _, _, _, _⟩) (v := ?vR17c1x52) rfl (by kernel_rfl) (by kernel_rfl) (by kernel_rfl) (by kernel_rfl) (fun _ _ _ h => h) (Or.inl ⟨by rfl, ?hyR17c1x52⟩) (by assumption) ?restR17c1x52
      case hyR17c1x52 => (intro w hSw; (try dsimp only at hSw); go_simp; try (with_reducible rfl))
      try simp only [Act.put, List.setIfInBounds_toArray, List.set_cons_zero, List.set_cons_succ]
      refine wpAnyT_takeB (i := 53) (oi := ⟨some 141, .load 3 (.tmp 140), _, _, _, _⟩) (v := ?vR17c1x53) rfl (by kernel_rfl) (by kernel_rfl) (by kernel_rfl) (by kernel_rfl) (fun _ _ _ h => h) (Or.inl ⟨by rfl, ?hyR17c1x53⟩) (by assumption) ?restR17c1x53
      case hyR17c1x53 => (intro w hSw; (try dsimp only at hSw); go_simp; try (with_reducible rfl))
      try simp only [Act.put, List.setIfInBounds_toArray, List.set_cons_zero, List.set_cons_succ]
      refine wpAnyT_one (i := 54) (o := ⟨some 142, .call { callee := .value (.func 14), args := #[(.tmp 137), (.tmp 139), (.tmp 141)], argTypes := #[31, 3, 3] }, _, _, _, _⟩) (by kernel_rfl) rfl (fun K hK => ?_)
      go_simp
      refine calls_at (HHa.out _ HB22.out) (by with_reducible rfl) (by with_reducible rfl) ?_
      rintro e w23 ⟨rfl, hbw23⟩
      go_wp2_with fail
      have HBz : Hid (Below X.heap.size X w23) := bl_next HB22.out hbw23
      clear hbw23 hHeld
      have hHeld := (⟨HHd.out _ HBz.out, trivial⟩ : _ ∧ True)
      refine hK.out _ _ ⟨hHeld.1, fun _ => trivial⟩ ?_
      clear hK K
      refine wpAnyT_takeB (i := 55) (oi := ⟨some 143, .unOp .not 4 (.tmp 142), _, _, _, _⟩) (v := ?vR17c1x55) rfl (by kernel_rfl) (by kernel_rfl) (by kernel_rfl) (by kernel_rfl) (fun _ _ _ h => h) (Or.inl ⟨by rfl, ?hyR17c1x55⟩) (by assumption) ?restR17c1x55
      case hyR17c1x55 => (intro w hSw; (try dsimp only at hSw); go_simp; try (with_reducible rfl))
      try simp only [Act.put, List.setIfInBounds_toArray, List.set_cons_zero, List.set_cons_succ]
      refine wpAnyT_takeB (i := 56) (oi := ⟨some 144, .pick (.tmp 136) ((.const (.bool true))) (.tmp 143), _, _, _, _⟩) (v := ?vR17c1x56) rfl (by kernel_rfl) (by kernel_rfl) (by kernel_rfl) (by kernel_rfl) (fun _ _ _ h => h) (Or.inl ⟨by rfl, ?hyR17c1x56⟩) (by assumption) ?restR17c1x56
      case hyR17c1x56 => (intro w hSw; (try dsimp only at hSw); go_simp; try (with_reducible rfl))
      try simp only [Act.put, List.setIfInBounds_toArray, List.set_cons_zero, List.set_cons_succ]
      refine wpAnyT_done (by kernel_rfl) ?_ _
      go_wp2_with fail
      go_roundw
      case rel => exact ⟨i + 1, by go_num, hin, bl_next HBX.out HBz.out⟩
      case measure => simp [intOf]; omega
    case neg =>
      have hd3 : decide (lo ≤ p1) = false := decide_eq_false hlo
      refine wp_region_T (fun w' => (w'.cell? ⟨N1, 0, none⟩ = some (.int .i64 lo) ∧ w'.cell? ⟨N1, 1, none⟩ = some (.int .i64 hi) ∧ w'.cell? ⟨N1, 2, none⟩ = some (.slice ua xl.length uc)) ∧ w'.cell? ⟨N2, 0, none⟩ = some (.int .i64 3) ∧ w'.cell? ⟨N2, 1, none⟩ = some (.int .i64 (x : Int)) ∧ w'.cell? ⟨N2, 2, none⟩ = some (.int .i64 v)) (fun _ => True) [] (by kernel_rfl) ⟨HHd.out _ HBd.out, trivial⟩ (fun hHeld => ?_)
      generalize X.drew = U at HBd hHeld ⊢
      refine wpAnyT_takeB (i := 0) (oi := ⟨some 88, .fieldAddr 37 (.tmp 15) 2, _, _, _, _⟩) (v := ?vR17c2x0) rfl (by kernel_rfl) (by kernel_rfl) (by kernel_rfl) (by kernel_rfl) (fun _ _ _ h => h) (Or.inl ⟨by rfl, ?hyR17c2x0⟩) (by assumption) ?restR17c2x0
      case hyR17c2x0 => (intro w hSw; (try dsimp only at hSw); go_simp; try (with_reducible rfl))
      try simp only [Act.put, List.setIfInBounds_toArray, List.set_cons_zero, List.set_cons_succ]
      refine wpAnyT_takeB (i := 1) (oi := ⟨some 89, .load 28 (.tmp 88), _, _, _, _⟩) (v := ?vR17c2x1) rfl (by kernel_rfl) (by kernel_rfl) (by kernel_rfl) (by kernel_rfl) (fun _ _ _ h => h) (Or.inl ⟨by rfl, ?hyR17c2x1⟩) (by assumption) ?restR17c2x1
      case hyR17c2x1 => (intro w hSw; (try dsimp only at hSw); go_simp; try (with_reducible rfl))
      try simp only [Act.put, List.setIfInBounds_toArray, List.set_cons_zero, List.set_cons_succ]
      refine wpAnyT_takeB (i := 2) (oi := ⟨some 90, .call { callee := .builtin .len, args := #[(.tmp 89)], argTypes := #[28] }, _, _, _, _⟩) (v := ?vR17c2x2) rfl (by kernel_rfl) (by kernel_rfl) (by kernel_rfl) (by kernel_rfl) (fun _ _ _ h => h) (Or.inl ⟨by rfl, ?hyR17c2x2⟩) (by assumption) ?restR17c2x2
      case hyR17c2x2 => (intro w hSw; (try dsimp only at hSw); go_simp; try (with_reducible rfl))
      try simp only [Act.put, List.setIfInBounds_toArray, List.set_cons_zero, List.set_cons_succ]
      refine wpAnyT_takeB (i := 3) (oi := ⟨some 91, .fieldAddr 37 (.tmp 15) 1, _, _, _, _⟩) (v := ?vR17c2x3) rfl (by kernel_rfl) (by kernel_rfl) (by kernel_rfl) (by kernel_rfl) (fun _ _ _ h => h) (Or.inl ⟨by rfl, ?hyR17c2x3⟩) (by assumption) ?restR17c2x3
      case hyR17c2x3 => (intro w hSw; (try dsimp only at hSw); go_simp; try (with_reducible rfl))
      try simp only [Act.put, List.setIfInBounds_toArray, List.set_cons_zero, List.set_cons_succ]
      refine wpAnyT_takeB (i := 4) (oi := ⟨some 92, .load 3 (.tmp 91), _, _, _, _⟩) (v := ?vR17c2x4) rfl (by kernel_rfl) (by kernel_rfl) (by kernel_rfl) (by kernel_rfl) (fun _ _ _ h => h) (Or.inl ⟨by rfl, ?hyR17c2x4⟩) (by assumption) ?restR17c2x4
      case hyR17c2x4 => (intro w hSw; (try dsimp only at hSw); go_simp; try (with_reducible rfl))
      try simp only [Act.put, List.setIfInBounds_toArray, List.set_cons_zero, List.set_cons_succ]
      refine wpAnyT_takeB (i := 5) (oi := ⟨some 93, .fieldAddr 37 (.tmp 15) 0, _, _, _, _⟩) (v := ?vR17c2x5) rfl (by kernel_rfl) (by kernel_rfl) (by kernel_rfl) (by kernel_rfl) (fun _ _ _ h => h) (Or.inl ⟨by rfl, ?hyR17c2x5⟩) (by assumption) ?restR17c2x5
      case hyR17c2x5 => (intro w hSw; (try dsimp only at hSw); go_simp; try (with_reducible rfl))
      try simp only [Act.put, List.setIfInBounds_toArray, List.set_cons_zero, List.set_cons_succ]
      refine wpAnyT_takeB (i := 6) (oi := ⟨some 94, .load 3 (.tmp 93), _, _, _, _⟩) (v := ?vR17c2x6) rfl (by kernel_rfl) (by kernel_rfl) (by kernel_rfl) (by kernel_rfl) (fun _ _ _ h => h) (Or.inl ⟨by rfl, ?hyR17c2x6⟩) (by assumption) ?restR17c2x6
      case hyR17c2x6 => (intro w hSw; (try dsimp only at hSw); go_simp; try (with_reducible rfl))
      try simp only [Act.put, List.setIfInBounds_toArray, List.set_cons_zero, List.set_cons_succ]
      refine wpAnyT_takeB (i := 7) (oi := ⟨some 95, .binOp .sub 3 (.tmp 92) (.tmp 94) 3, _, _, _, _⟩) (v := ?vR17c2x7) rfl (by kernel_rfl) (by kernel_rfl) (by kernel_rfl) (by kernel_rfl) (fun _ _ _ h => h) (Or.inl ⟨by rfl, ?hyR17c2x7⟩) (by assumption) ?restR17c2x7
      case hyR17c2x7 => (intro w hSw; (try dsimp only at hSw); go_simp; try (with_reducible rfl))
      try simp only [Act.put, List.setIfInBounds_toArray, List.set_cons_zero, List.set_cons_succ]
      refine wpAnyT_takeB (i := 8) (oi := ⟨some 96, .binOp .add 3 (.tmp 95) ((.const (.int .i64 1))) 3, _, _, _, _⟩) (v := ?vR17c2x8) rfl (by kernel_rfl) (by kernel_rfl) (by kernel_rfl) (by kernel_rfl) (fun _ _ _ h => h) (Or.inl ⟨by rfl, ?hyR17c2x8⟩) (by assumption) ?restR17c2x8
      case hyR17c2x8 => (intro w hSw; (try dsimp only at hSw); go_simp; try (with_reducible rfl))
      try simp only [Act.put, List.setIfInBounds_toArray, List.set_cons_zero, List.set_cons_succ]
      refine wpAnyT_takeB (i := 9) (oi := ⟨some 97, .binOp .neq 3 (.tmp 90) (.tmp 96) 3, _, _, _, _⟩) (v := ?vR17c2x9) rfl (by kernel_rfl) (by kernel_rfl) (by kernel_rfl) (by kernel_rfl) (fun _ _ _ h => h) (Or.inl ⟨by rfl, ?hyR17c2x9⟩) (by assumption) ?restR17c2x9
      case hyR17c2x9 => (intro w hSw; (try dsimp only at hSw); go_simp; try (with_reducible rfl))
      try simp only [Act.put, List.setIfInBounds_toArray, List.set_cons_zero, List.set_cons_succ]
      refine wpAnyT_takeB (i := 10) (oi := ⟨some 98, .move (.tmp 97), _, _, _, _⟩) (v := ?vR17c2x10) rfl (by kernel_rfl) (by kernel_rfl) (by kernel_rfl) (by kernel_rfl) (fun _ _ _ h => h) (Or.inl ⟨by rfl, ?hyR17c2x10⟩) (by assumption) ?restR17c2x10
      case hyR17c2x10 => (intro w hSw; (try dsimp only at hSw); go_simp; try (with_reducible rfl))
      try simp only [Act.put, List.setIfInBounds_toArray, List.set_cons_zero, List.set_cons_succ]
      refine wpAnyT_takeB (i := 11) (oi := ⟨some 99, .load 37 (.tmp 15), _, _, _, _⟩) (v := ?vR17c2x11) rfl (by kernel_rfl) (by kernel_rfl) (by kernel_rfl) (by kernel_rfl) (fun _ _ _ h => h) (Or.inl ⟨by rfl, ?hyR17c2x11⟩) (by assumption) ?restR17c2x11
      case hyR17c2x11 => (intro w hSw; (try dsimp only at hSw); go_simp; try (with_reducible rfl))
      try simp only [Act.put, List.setIfInBounds_toArray, List.set_cons_zero, List.set_cons_succ]
      refine wpAnyT_takeB (i := 12) (oi := ⟨some 100, .move (.tmp 9), _, _, _, _⟩) (v := ?vR17c2x12) rfl (by kernel_rfl) (by kernel_rfl) (by kernel_rfl) (by kernel_rfl) (fun _ _ _ h => h) (Or.inl ⟨by rfl, ?hyR17c2x12⟩) (by assumption) ?restR17c2x12
      case hyR17c2x12 => (intro w hSw; (try dsimp only at hSw); go_simp; try (with_reducible rfl))
      try simp only [Act.put, List.setIfInBounds_toArray, List.set_cons_zero, List.set_cons_succ]
      refine wpAnyT_one (i := 13) (o := ⟨some 101, .call { callee := .value (.func 11), args := #[(.tmp 99), (.tmp 100)], argTypes := #[37, 31] }, _, _, _, _⟩) (by kernel_rfl) rfl (fun K hK => ?_)
      go_simp
      refine calls_at (HIn.out _ HBd.out) (by with_reducible rfl) (by with_reducible rfl) ?_
      rintro e w20 ⟨rfl, hbw20⟩
      go_wp2_with fail
      have HB20 : Hid (Below X.heap.size X w20) := bl_next HBd.out hbw20
      clear hbw20 hHeld
      have hHeld := (⟨HHd.out _ HB20.out, trivial⟩ : _ ∧ True)
      refine hK.out _ _ ⟨hHeld.1, fun _ => trivial⟩ ?_
      clear hK K
      refine wpAnyT_takeB (i := 14) (oi := ⟨some 102, .unOp .not 4 (.tmp 101), _, _, _, _⟩) (v := ?vR17c2x14) rfl (by kernel_rfl) (by kernel_rfl) (by kernel_rfl) (by kernel_rfl) (fun _ _ _ h => h) (Or.inl ⟨by rfl, ?hyR17c2x14⟩) (by assumption) ?restR17c2x14
      case hyR17c2x14 => (intro w hSw; (try dsimp only at hSw); go_simp; try (with_reducible rfl))
      try simp only [Act.put, List.setIfInBounds_toArray, List.set_cons_zero, List.set_cons_succ]
      refine wpAnyT_takeB (i := 15) (oi := ⟨some 103, .pick (.tmp 98) ((.const (.bool true))) (.tmp 102), _, _, _, _⟩) (v := ?vR17c2x15) rfl (by kernel_rfl) (by kernel_rfl) (by kernel_rfl) (by kernel_rfl) (fun _ _ _ h => h) (Or.inl ⟨by rfl, ?hyR17c2x15⟩) (by assumption) ?restR17c2x15
      case hyR17c2x15 => (intro w hSw; (try dsimp only at hSw); go_simp; try (with_reducible rfl))
      try simp only [Act.put, List.setIfInBounds_toArray, List.set_cons_zero, List.set_cons_succ]
      refine wpAnyT_takeB (i := 16) (oi := ⟨some 104, .move (.tmp 103), _, _, _, _⟩) (v := ?vR17c2x16) rfl (by kernel_rfl) (by kernel_rfl) (by kernel_rfl) (by kernel_rfl) (fun _ _ _ h => h) (Or.inl ⟨by rfl, ?hyR17c2x16⟩) (by assumption) ?restR17c2x16
      case hyR17c2x16 => (intro w hSw; (try dsimp only at hSw); go_simp; try (with_reducible rfl))
      try simp only [Act.put, List.setIfInBounds_toArray, List.set_cons_zero, List.set_cons_succ]
      refine wpAnyT_takeB (i := 17) (oi := ⟨some 105, .fieldAddr 42 (.tmp 16) 2, _, _, _, _⟩) (v := ?vR17c2x17) rfl (by kernel_rfl) (by kernel_rfl) (by kernel_rfl) (by kernel_rfl) (fun _ _ _ h => h) (Or.inl ⟨by rfl, ?hyR17c2x17⟩) (by assumption) ?restR17c2x17
      case hyR17c2x17 => (intro w hSw; (try dsimp only at hSw); go_simp; try (with_reducible rfl))
      try simp only [Act.put, List.setIfInBounds_toArray, List.set_cons_zero, List.set_cons_succ]
      refine wpAnyT_takeB (i := 18) (oi := ⟨some 106, .load 3 (.tmp 105), _, _, _, _⟩) (v := ?vR17c2x18) rfl (by kernel_rfl) (by kernel_rfl) (by kernel_rfl) (by kernel_rfl) (fun _ _ _ h => h) (Or.inl ⟨by rfl, ?hyR17c2x18⟩) (by assumption) ?restR17c2x18
      case hyR17c2x18 => (intro w hSw; (try dsimp only at hSw); go_simp; try (with_reducible rfl))
      try simp only [Act.put, List.setIfInBounds_toArray, List.set_cons_zero, List.set_cons_succ]
      refine wpAnyT_takeB (i := 19) (oi := ⟨some 107, .fieldAddr 37 (.tmp 15) 0, _, _, _, _⟩) (v := ?vR17c2x19) rfl (by kernel_rfl) (by kernel_rfl) (by kernel_rfl) (by kernel_rfl) (fun _ _ _ h => h) (Or.inl ⟨by rfl, ?hyR17c2x19⟩) (by assumption) ?restR17c2x19
      case hyR17c2x19 => (intro w hSw; (try dsimp only at hSw); go_simp; try (with_reducible rfl))
      try simp only [Act.put, List.setIfInBounds_toArray, List.set_cons_zero, List.set_cons_succ]
      refine wpAnyT_takeB (i := 20) (oi := ⟨some 108, .load 3 (.tmp 107), _, _, _, _⟩) (v := ?vR17c2x20) rfl (by kernel_rfl) (by kernel_rfl) (by kernel_rfl) (by kernel_rfl) (fun _ _ _ h => h) (Or.inl ⟨by rfl, ?hyR17c2x20⟩) (by assumption) ?restR17c2x20
      case hyR17c2x20 => (intro w hSw; (try dsimp only at hSw); go_simp; try (with_reducible rfl))
      try simp only [Act.put, List.setIfInBounds_toArray, List.set_cons_zero, List.set_cons_succ]
      refine wpAnyT_takeB (i := 21) (oi := ⟨some 109, .binOp .lss 3 (.tmp 106) (.tmp 108) 3, _, _, _, _⟩) (v := ?vR17c2x21) rfl (by kernel_rfl) (by kernel_rfl) (by kernel_rfl) (by kernel_rfl) (fun _ _ _ h => h) (Or.inl ⟨by rfl, ?hyR17c2x21⟩) (by assumption) ?restR17c2x21
      case hyR17c2x21 => (intro w hSw; (try dsimp only at hSw); go_simp; try (with_reducible rfl))
      try simp only [Act.put, List.setIfInBounds_toArray, List.set_cons_zero, List.set_cons_succ]
      refine wpAnyT_takeB (i := 22) (oi := ⟨some 110, .pick (.tmp 104) ((.const (.bool true))) (.tmp 109), _, _, _, _⟩) (v := ?vR17c2x22) rfl (by kernel_rfl) (by kernel_rfl) (by kernel_rfl) (by kernel_rfl) (fun _ _ _ h => h) (Or.inl ⟨by rfl, ?hyR17c2x22⟩) (by assumption) ?restR17c2x22
      case hyR17c2x22 => (intro w hSw; (try dsimp only at hSw); go_simp; try (with_reducible rfl))
      try simp only [Act.put, List.setIfInBounds_toArray, List.set_cons_zero, List.set_cons_succ]
      refine wpAnyT_takeB (i := 23) (oi := ⟨some 111, .move (.tmp 110), _, _, _, _⟩) (v := ?vR17c2x23) rfl (by kernel_rfl) (by kernel_rfl) (by kernel_rfl) (by kernel_rfl) (fun _ _ _ h => h) (Or.inl ⟨by rfl, ?hyR17c2x23⟩) (by assumption) ?restR17c2x23
      case hyR17c2x23 => (intro w hSw; (try dsimp only at hSw); go_simp; try (with_reducible rfl))
      try simp only [Act.put, List.setIfInBounds_toArray, List.set_cons_zero, List.set_cons_succ]
      refine wpAnyT_takeB (i := 24) (oi := ⟨some 112, .fieldAddr 42 (.tmp 16) 2, _, _, _, _⟩) (v := ?vR17c2x24) rfl (by kernel_rfl) (by kernel_rfl) (by kernel_rfl) (by kernel_rfl) (fun _ _ _ h => h) (Or.inl ⟨by rfl, ?hyR17c2x24⟩) (by assumption) ?restR17c2x24
      case hyR17c2x24 => (intro w hSw; (try dsimp only at hSw); go_simp; try (with_reducible rfl))
      try simp only [Act.put, List.setIfInBounds_toArray, List.set_cons_zero, List.set_cons_succ]
      refine wpAnyT_takeB (i := 25) (oi := ⟨some 113, .load 3 (.tmp 112), _, _, _, _⟩) (v := ?vR17c2x25) rfl (by kernel_rfl) (by kernel_rfl) (by kernel_rfl) (by kernel_rfl) (fun _ _ _ h => h) (Or.inl ⟨by rfl, ?hyR17c2x25⟩) (by assumption) ?restR17c2x25
      case hyR17c2x25 => (intro w hSw; (try dsimp only at hSw); go_simp; try (with_reducible rfl))
      try simp only [Act.put, List.setIfInBounds_toArray, List.set_cons_zero, List.set_cons_succ]
      refine wpAnyT_takeB (i := 26) (oi := ⟨some 114, .fieldAddr 37 (.tmp 15) 1, _, _, _, _⟩) (v := ?vR17c2x26) rfl (by kernel_rfl) (by kernel_rfl) (by kernel_rfl) (by kernel_rfl) (fun _ _ _ h => h) (Or.inl ⟨by rfl, ?hyR17c2x26⟩) (by assumption) ?restR17c2x26
      case hyR17c2x26 => (intro w hSw; (try dsimp only at hSw); go_simp; try (with_reducible rfl))
      try simp only [Act.put, List.setIfInBounds_toArray, List.set_cons_zero, List.set_cons_succ]
      refine wpAnyT_takeB (i := 27) (oi := ⟨some 115, .load 3 (.tmp 114), _, _, _, _⟩) (v := ?vR17c2x27) rfl (by kernel_rfl) (by kernel_rfl) (by kernel_rfl) (by kernel_rfl) (fun _ _ _ h => h) (Or.inl ⟨by rfl, ?hyR17c2x27⟩) (by assumption) ?restR17c2x27
      case hyR17c2x27 => (intro w hSw; (try dsimp only at hSw); go_simp; try (with_reducible rfl))
      try simp only [Act.put, List.setIfInBounds_toArray, List.set_cons_zero, List.set_cons_succ]
      refine wpAnyT_takeB (i := 28) (oi := ⟨some 116, .binOp .gtr 3 (.tmp 113) (.tmp 115) 3, _, _, _, _⟩) (v := ?vR17c2x28) rfl (by kernel_rfl) (by kernel_rfl) (by kernel_rfl) (by kernel_rfl) (fun _ _ _ h => h) (Or.inl ⟨by rfl, ?hyR17c2x28⟩) (by assumption) ?restR17c2x28
      case hyR17c2x28 => (intro w hSw; (try dsimp only at hSw); go_simp; try (with_reducible rfl))
      try simp only [Act.put, List.setIfInBounds_toArray, List.set_cons_zero, List.set_cons_succ]
      refine wpAnyT_takeB (i := 29) (oi := ⟨some 117, .pick (.tmp 111) ((.const (.bool true))) (.tmp 116), _, _, _, _⟩) (v := ?vR17c2x29) rfl (by kernel_rfl) (by kernel_rfl) (by kernel_rfl) (by kernel_rfl) (fun _ _ _ h => h) (Or.inl ⟨by rfl, ?hyR17c2x29⟩) (by assumption) ?restR17c2x29
      case hyR17c2x29 => (intro w hSw; (try dsimp only at hSw); go_simp; try (with_reducible rfl))
      try simp only [Act.put, List.setIfInBounds_toArray, List.set_cons_zero, List.set_cons_succ]
      refine wpAnyT_takeB (i := 30) (oi := ⟨some 118, .move (.tmp 117), _, _, _, _⟩) (v := ?vR17c2x30) rfl (by kernel_rfl) (by kernel_rfl) (by kernel_rfl) (by kernel_rfl) (fun _ _ _ h => h) (Or.inl ⟨by rfl, ?hyR17c2x30⟩) (by assumption) ?restR17c2x30
      case hyR17c2x30 => (intro w hSw; (try dsimp only at hSw); go_simp; try (with_reducible rfl))
      try simp only [Act.put, List.setIfInBounds_toArray, List.set_cons_zero, List.set_cons_succ]
      refine wpAnyT_takeB (i := 31) (oi := ⟨some 119, .move (.tmp 9), _, _, _, _⟩) (v := ?vR17c2x31) rfl (by kernel_rfl) (by kernel_rfl) (by kernel_rfl) (by kernel_rfl) (fun _ _ _ h => h) (Or.inl ⟨by rfl, ?hyR17c2x31⟩) (by assumption) ?restR17c2x31
      case hyR17c2x31 => (intro w hSw; (try dsimp only at hSw); go_simp; try (with_reducible rfl))
      try simp only [Act.put, List.setIfInBounds_toArray, List.set_cons_zero, List.set_cons_succ]
      refine wpAnyT_takeB (i := 32) (oi := ⟨some 120, .fieldAddr 42 (.tmp 16) 1, _, _, _, _⟩) (v := ?vR17c2x32) rfl (by kernel_rfl) (by kernel_rfl) (by kernel_rfl) (by kernel_rfl) (fun _ _ _ h => h) (Or.inl ⟨by rfl, ?hyR17c2x32⟩) (by assumption) ?restR17c2x32
      case hyR17c2x32 => (intro w hSw; (try dsimp only at hSw); go_simp; try (with_reducible rfl))
      try simp only [Act.put, List.setIfInBounds_toArray, List.set_cons_zero, List.set_cons_succ]
      refine wpAnyT_takeB (i := 33) (oi := ⟨some 121, .load 3 (.tmp 120), _, _, _, _⟩) (v := ?vR17c2x33) rfl (by kernel_rfl) (by kernel_rfl) (by kernel_rfl) (by kernel_rfl) (fun _ _ _ h => h) (Or.inl ⟨by rfl, ?hyR17c2x33⟩) (by assumption) ?restR17c2x33
      case hyR17c2x33 => (intro w hSw; (try dsimp only at hSw); go_simp; try (with_reducible rfl))
      try simp only [Act.put, List.setIfInBounds_toArray, List.set_cons_zero, List.set_cons_succ]
      refine wpAnyT_takeB (i := 35) (oi := ⟨some 123, .fieldAddr 37 (.tmp 15) 0, _, _, _, _⟩) (v := ?vR17c2x35) rfl (by kernel_rfl) (by kernel_rfl) (by kernel_rfl) (by kernel_rfl) (fun _ _ _ h => h) (Or.inl ⟨by rfl, ?hyR17c2x35⟩) (by assumption) ?restR17c2x35
      case hyR17c2x35 => (intro w hSw; (try dsimp only at hSw); go_simp; try (with_reducible rfl))
      try simp only [Act.put, List.setIfInBounds_toArray, List.set_cons_zero, List.set_cons_succ]
      refine wpAnyT_takeB (i := 36) (oi := ⟨some 124, .load 3 (.tmp 123), _, _, _, _⟩) (v := ?vR17c2x36) rfl (by kernel_rfl) (by kernel_rfl) (by kernel_rfl) (by kernel_rfl) (fun _ _ _ h => h) (Or.inl ⟨by rfl, ?hyR17c2x36⟩) (by assumption) ?restR17c2x36
      case hyR17c2x36 => (intro w hSw; (try dsimp only at hSw); go_simp; try (with_reducible rfl))
      try simp only [Act.put, List.setIfInBounds_toArray, List.set_cons_zero, List.set_cons_succ]
      refine wpAnyT_one (i := 34) (o := ⟨some 122, .call { callee := .value (.func 12), args := #[(.tmp 119), (.tmp 121)], argTypes := #[31, 3] }, _, _, _, _⟩) (by kernel_rfl) rfl (fun K hK => ?_)
      go_simp
      refine calls_at (HLo.out _ HB20.out) (by with_reducible rfl) (by with_reducible rfl) ?_
      rintro e w21 ⟨rfl, hbw21⟩
      go_wp2_with fail
      have HB21 : Hid (Below X.heap.size X w21) := bl_next HB20.out hbw21
      clear hbw21 hHeld
      have hHeld := (⟨HHd.out _ HB21.out, trivial⟩ : _ ∧ True)
      refine hK.out _ _ ⟨hHeld.1, fun _ => trivial⟩ ?_
      clear hK K
      refine wpAnyT_takeB (i := 37) (oi := ⟨some 125, .binOp .geq 3 (.tmp 122) (.tmp 124) 3, _, _, _, _⟩) (v := ?vR17c2x37) rfl (by kernel_rfl) (by kernel_rfl) (by kernel_rfl) (by kernel_rfl) (fun _ _ _ h => h) (Or.inl ⟨by rfl, ?hyR17c2x37⟩) (by assumption) ?restR17c2x37
      case hyR17c2x37 => (intro w hSw; (try dsimp only at hSw); go_simp; try (with_reducible rfl))
      try simp only [Act.put, List.setIfInBounds_toArray, List.set_cons_zero, List.set_cons_succ]
      refine wpAnyT_takeB (i := 38) (oi := ⟨some 126, .move (.tmp 125), _, _, _, _⟩) (v := ?vR17c2x38) rfl (by kernel_rfl) (by kernel_rfl) (by kernel_rfl) (by kernel_rfl) (fun _ _ _ h => h) (Or.inl ⟨by rfl, ?hyR17c2x38⟩) (by assumption) ?restR17c2x38
      case hyR17c2x38 => (intro w hSw; (try dsimp only at hSw); go_simp; try (with_reducible rfl))
      try simp only [Act.put, List.setIfInBounds_toArray, List.set_cons_zero, List.set_cons_succ]
      refine wpAnyT_takeB (i := 39) (oi := ⟨some 127, .move (.tmp 9), _, _, _, _⟩) (v := undef) rfl (by kernel_rfl) (by kernel_rfl) (by kernel_rfl) (by kernel_rfl) (fun _ _ _ h => h) (Or.inr ⟨by rfl, rfl⟩) (by assumption) ?restR17c2x39
      try simp only [Act.put, List.setIfInBounds_toArray, List.set_cons_zero, List.set_cons_succ]
      refine wpAnyT_takeB (i := 40) (oi := ⟨some 128, .fieldAddr 42 (.tmp 16) 1, _, _, _, _⟩) (v := undef) rfl (by kernel_rfl) (by kernel_rfl) (by kernel_rfl) (by kernel_rfl) (fun _ _ _ h => h) (Or.inr ⟨by rfl, rfl⟩) (by assumption) ?restR17c2x40
      try simp only [Act.put, List.setIfInBounds_toArray, List.set_cons_zero, List.set_cons_succ]
      refine wpAnyT_takeB (i := 41) (oi := ⟨some 129, .load 3 (.tmp 128), _, _, _, _⟩) (v := undef) rfl (by kernel_rfl) (by kernel_rfl) (by kernel_rfl) (by kernel_rfl) (fun _ _ _ h => h) (Or.inr ⟨by rfl, rfl⟩) (by assumption) ?restR17c2x41
      try simp only [Act.put, List.setIfInBounds_toArray, List.set_cons_zero, List.set_cons_succ]
      refine wpAnyT_takeB (i := 42) (oi := ⟨some 130, .call { callee := .value (.func 13), args := #[(.tmp 127), (.tmp 129)], argTypes := #[31, 3] }, _, _, _, _⟩) (v := undef) rfl (by kernel_rfl) (by kernel_rfl) (by kernel_rfl) (by kernel_rfl) (fun _ _ _ h => h) (Or.inr ⟨by rfl, rfl⟩) (by assumption) ?restR17c2x42
      try simp only [Act.put, List.setIfInBounds_toArray, List.set_cons_zero, List.set_cons_succ]
      refine wpAnyT_takeB (i := 43) (oi := ⟨some 131, .fieldAddr 37 (.tmp 15) 1, _, _, _, _⟩) (v := undef) rfl (by kernel_rfl) (by kernel_rfl) (by kernel_rfl) (by kernel_rfl) (fun _ _ _ h => h) (Or.inr ⟨by rfl, rfl⟩) (by assumption) ?restR17c2x43
      try simp only [Act.put, List.setIfInBounds_toArray, List.set_cons_zero, List.set_cons_succ]
      refine wpAnyT_takeB (i := 44) (oi := ⟨some 132, .load 3 (.tmp 131), _, _, _, _⟩) (v := undef) rfl (by kernel_rfl) (by kernel_rfl) (by kernel_rfl) (by kernel_rfl) (fun _ _ _ h => h) (Or.inr ⟨by rfl, rfl⟩) (by assumption) ?restR17c2x44
      try simp only [Act.put, List.setIfInBounds_toArray, List.set_cons_zero, List.set_cons_succ]
      refine wpAnyT_takeB (i := 45) (oi := ⟨some 133, .binOp .leq 3 (.tmp 130) (.tmp 132) 3, _, _, _, _⟩) (v := undef) rfl (by kernel_rfl) (by kernel_rfl) (by kernel_rfl) (by kernel_rfl) (fun _ _ _ h => h) (Or.inr ⟨by rfl, rfl⟩) (by assumption) ?restR17c2x45
      try simp only [Act.put, List.setIfInBounds_toArray, List.set_cons_zero, List.set_cons_succ]
      refine wpAnyT_takeB (i := 46) (oi := ⟨some 134, .pick (.tmp 126) (.tmp 133) ((.const (.bool false))), _, _, _, _⟩) (v := ?vR17c2x46) rfl (by kernel_rfl) (by kernel_rfl) (by kernel_rfl) (by kernel_rfl) (fun _ _ _ h => h) (Or.inl ⟨by rfl, ?hyR17c2x46⟩) (by assumption) ?restR17c2x46
      case hyR17c2x46 => (intro w hSw; (try dsimp only at hSw); go_simp; try (with_reducible rfl))
      try simp only [Act.put, List.setIfInBounds_toArray, List.set_cons_zero, List.set_cons_succ]
      refine wpAnyT_takeB (i := 47) (oi := ⟨some 135, .pick (.tmp 118) ((.const (.bool true))) (.tmp 134), _, _, _, _⟩) (v := ?vR17c2x47) rfl (by kernel_rfl) (by kernel_rfl) (by kernel_rfl) (by kernel_rfl) (fun _ _ _ h => h) (Or.inl ⟨by rfl, ?hyR17c2x47⟩) (by assumption) ?restR17c2x47
      case hyR17c2x47 => (intro w hSw; (try dsimp only at hSw); go_simp; try (with_reducible rfl))
      try simp only [Act.put, List.setIfInBounds_toArray, List.set_cons_zero, List.set_cons_succ]
      refine wpAnyT_takeB (i := 48) (oi := ⟨some 136, .move (.tmp 135), _, _, _, _⟩) (v := ?vR17c2x48) rfl (by kernel_rfl) (by kernel_rfl) (by kernel_rfl) (by kernel_rfl) (fun _ _ _ h => h) (Or.inl ⟨by rfl, ?hyR17c2x48⟩) (by assumption) ?restR17c2x48
      case hyR17c2x48 => (intro w hSw; (try dsimp only at hSw); go_simp; try (with_reducible rfl))
      try simp only [Act.put, List.setIfInBounds_toArray, List.set_cons_zero, List.set_cons_succ]
      refine wpAnyT_takeB (i := 49) (oi := ⟨some 137, .move (.tmp 9), _, _, _, _⟩) (v := ?vR17c2x49) rfl (by kernel_rfl) (by kernel_rfl) (by kernel_rfl) (by kernel_rfl) (fun _ _ _ h => h) (Or.inl ⟨by rfl, ?hyR17c2x49⟩) (by assumption) ?restR17c2x49
      case hyR17c2x49 => (intro w hSw; (try dsimp only at hSw); go_simp; try (with_reducible rfl))
      try simp only [Act.put, List.setIfInBounds_toArray, List.set_cons_zero, List.set_cons_succ]
      refine wpAnyT_takeB (i := 50) (oi := ⟨some 138, .fieldAddr 42 (.tmp 16) 1, _, _, _, _⟩) (v := ?vR17c2x50) rfl (by kernel_rfl) (by kernel_rfl) (by kernel_rfl) (by kernel_rfl) (fun _ _ _ h => h) (Or.inl ⟨by rfl, ?hyR17c2x50⟩) (by assumption) ?restR17c2x50
      case hyR17c2x50 => (intro w hSw; (try dsimp only at hSw); go_simp; try (with_reducible rfl))
      try simp only [Act.put, List.setIfInBounds_toArray, List.set_cons_zero, List.set_cons_succ]
      refine wpAnyT_takeB (i := 51) (oi := ⟨some 139, .load 3 (.tmp 138), _, _, _, _⟩) (v := ?vR17c2x51) rfl (by kernel_rfl) (by kernel_rfl) (by kernel_rfl) (by kernel_rfl) (fun _ _ _ h => h) (Or.inl ⟨by rfl, ?hyR17c2x51⟩) (by assumption) ?restR17c2x51
      case hyR17c2x51 => (intro w hSw; (try dsimp only at hSw); go_simp; try (with_reducible rfl))
      try simp only [Act.put, List.setIfInBounds_toArray, List.set_cons_zero, List.set_cons_succ]
      refine wpAnyT_takeB (i := 52) (oi := ⟨some 140, .fieldAddr 42 (.tmp 16) 2, _, _, _, _⟩) (v := ?vR17c2x52) rfl (by kernel_rfl) (by kernel_rfl) (by kernel_rfl) (by kernel_rfl) (fun _ _ _ h => h) (Or.inl ⟨by rfl, ?hyR17c2x52⟩) (by assumption) ?restR17c2x52
      case hyR17c2x52 => (intro w hSw; (try dsimp only at hSw); go_simp; try (with_reducible rfl))
      try simp only [Act.put, List.setIfInBounds_toArray, List.set_cons_zero, List.set_cons_succ]
      refine wpAnyT_takeB (i := 53) (oi := ⟨some 141, .load 3 (.tmp 140), _, _, _, _⟩) (v := ?vR17c2x53) rfl (by kernel_rfl) (by kernel_rfl) (by kernel_rfl) (by kernel_rfl) (fun _ _ _ h => h) (Or.inl ⟨by rfl, ?hyR17c2x53⟩) (by assumption) ?restR17c2x53
      case hyR17c2x53 => (intro w hSw; (try dsimp only at hSw); go_simp; try (with_reducible rfl))
      try simp only [Act.put, List.setIfInBounds_toArray, List.set_cons_zero, List.set_cons_succ]
      refine wpAnyT_one (i := 54) (o := ⟨some 142, .call { callee := .value (.func 14), args := #[(.tmp 137), (.tmp 139), (.tmp 141)], argTypes := #[31, 3, 3] }, _, _, _, _⟩) (by kernel_rfl) rfl (fun K hK => ?_)
      go_simp
      refine calls_at (HHa.out _ HB21.out) (by with_reducible rfl) (by with_reducible rfl) ?_
      rintro e w23 ⟨rfl, hbw23⟩
      go_wp2_with fail
      have HBz : Hid (Below X.heap.size X w23) := bl_next HB21.out hbw23
      clear hbw23 hHeld
      have hHeld := (⟨HHd.out _ HBz.out, trivial⟩ : _ ∧ True)
      refine hK.out _ _ ⟨hHeld.1, fun _ => trivial⟩ ?_
      clear hK K
      refine wpAnyT_takeB (i := 55) (oi := ⟨some 143, .unOp .not 4 (.tmp 142), _, _, _, _⟩) (v := ?vR17c2x55) rfl (by kernel_rfl) (by kernel_rfl) (by kernel_rfl) (by kernel_rfl) (fun _ _ _ h => h) (Or.inl ⟨by rfl, ?hyR17c2x55⟩) (by assumption) ?restR17c2x55
      case hyR17c2x55 => (intro w hSw; (try dsimp only at hSw); go_simp; try (with_reducible rfl))
      try simp only [Act.put, List.setIfInBounds_toArray, List.set_cons_zero, List.set_cons_succ]
      refine wpAnyT_takeB (i := 56) (oi := ⟨some 144, .pick (.tmp 136) ((.const (.bool true))) (.tmp 143), _, _, _, _⟩) (v := ?vR17c2x56) rfl (by kernel_rfl) (by kernel_rfl) (by kernel_rfl) (by kernel_rfl) (fun _ _ _ h => h) (Or.inl ⟨by rfl, ?hyR17c2x56⟩) (by assumption) ?restR17c2x56
      case hyR17c2x56 => (intro w hSw; (try dsimp only at hSw); go_simp; try (with_reducible rfl))
      try simp only [Act.put, List.setIfInBounds_toArray, List.set_cons_zero, List.set_cons_succ]
      refine wpAnyT_done (by kernel_rfl) ?_ _
      go_wp2_with fail
      go_roundw
      case rel => exact ⟨i + 1, by go_num, hin, bl_next HBX.out HBz.out⟩
      case measure => simp [intOf]; omega
  case neg =>
  have hie : i = l.length := by omega
  subst hie
  have hiI : ¬ (l.length : Int) < (l.length : Int) := by omega
  have HBz : Hid (Below W.heap.size W wz) := bl_next HB9w.out HBx.out
  have HSz : Hid (StAt B wz p nv mv s) := HS9.out.below HBx.out
  have HLz : Hid (ZsAt wz a6 l) := HL9.out.below HBx.out
  have hLi := wi_lies HFi.out ins
  have HW0 := HWi.out B p nv mv s wz HBz.out HSz.out
  obtain ⟨vs, hvs⟩ : ∃ vs, wiL s.now ins s.now.length = vs := ⟨_, rfl⟩
  rw [hvs] at hLi HW0
  have HLi : Hid (Lies s.now vs) := hLi
  have hn32 : vs.length ≤ 32 := by rw [hLi.len]; exact HD.out
  have HW1 : Hid (Calls Tryz.prog 15 #[.pointer (some ⟨p, 0, none⟩), .slice ia ins.length ic] wz (VsOut vs wz)) := HW0
  have HLn : Hid (vs.length = s.now.length) := hLi.len
  clear hvs hLi HW0 HWi HL9 HS9 HCt
  go_upto_region 20 with (go_at_call 15; refine calls_at HW1.out (by with_reducible rfl) (by with_reducible rfl) ?_; rintro e w12 ⟨uv, rfl, ho12, hb12⟩)
  obtain ⟨va, vcp, rfl⟩ := own_slice ho12
  have HI12 : Hid (IntsAt w12 (.slice va vs.length vcp) vs) := own_ints ho12 (by unfold maxLen; omega)
  have HB12 : Hid (Below W.heap.size W w12) := bl_next HBz.out hb12
  have HL12 : Hid (ZsAt w12 a6 l) := HLz.out.below hb12
  have HDf : Hid (Calls Tryz.prog 16 #[.slice xa xs.length xc, .slice va vs.length vcp] w12 (DfOut xs vs w12)) := differ_any xa va xc vcp xs vs w12 (HXs.out w12 HB12.out) HI12.out (by omega) (by omega)
  clear ho12 hb12 HW1 HBz HSz HLz
  have HSl : Hid (Dif xs vs → ok = true ∧ ∀ x, x < s.now.length → goB l (x : Int) (vs.getD x 0) = false) := fun hd => safe_left HFi.out HD.out HLi.out hd HR6.out
  go_wp2_with (go_at_call 16; refine calls_at HDf.out (by with_reducible rfl) (by with_reducible rfl) ?_; intro e w13 hh; (obtain ⟨⟨b7, h1, h2⟩, h3⟩ := hh); subst h1; cases b7)
  · go_ret
    exact ⟨rfl, HWs.out _ (bl_next HB12.out h3)⟩
  · obtain ⟨hok, hgo⟩ := HSl.out (by simpa using h2)
    subst hok
    simp only [Bool.not_true]
    have HGo : Hid (∀ x (hx : x < vs.length), goB l (x : Int) vs[x] = false) := fun x hx => by
      have := hgo x (by rw [← HLn.out]; exact hx)
      rw [List.getD_eq_getElem?_getD, List.getElem?_eq_getElem hx] at this
      exact this
    have HB13 : Hid (Below w12.heap.size w12 w13) := h3
    have HIc : Hid (∀ w', Below w13.heap.size w13 w' → ∀ x (hx : x < vs.length), ∃ b off, va = some ⟨b, off, none⟩ ∧ w'.cell? ⟨b, off + x, none⟩ = some (.int .i64 vs[x])) := fun w' hb x hx => ints_cells ((HI12.out.below HB13.out).below hb) x hx
    have HGs : Hid (∀ (x v : Int) w', Below w13.heap.size w13 w' → Calls Tryz.prog 17 #[.slice a6 l.length cp6, .int .i64 x, .int .i64 v] w' fun e w2 => e = .returned (.bool (goB l x v)) ∧ Below w'.heap.size w' w2) := fun x v w' hb => goes_any a6 cp6 l x v w' ((HL12.out.below HB13.out).below hb) (by omega)
    clear h2 h3 hgo HSl
    go_loopw [18] (fun iv wq => ∃ (x : Nat), iv = .int .i64 (x : Int) ∧ x ≤ vs.length ∧ Hid (Below w13.heap.size w13 wq)) (fun iv _ => vs.length - (intOf iv).toNat)
    case atStart => exact ⟨0, rfl, Nat.zero_le _, Below.refl _ _⟩
    case round =>
    obtain ⟨x, rfl, hx, HBq⟩ := hrel
    rename World => wq
    by_cases hxn : x < vs.length
    case neg =>
      have hxe : x = vs.length := by omega
      subst hxe
      have hxI : ¬ (vs.length : Int) < (vs.length : Int) := by omega
      go_wp2_with fail
      go_ret
      exact ⟨rfl, HWs.out _ (bl_next HB12.out (bl_next HB13.out HBq.out))⟩
    case pos =>
    have hxI : (x : Int) < (vs.length : Int) := by omega
    obtain ⟨b, off, rfl, u0⟩ := HIc.out wq HBq.out x hxn
    have HG1 : Hid (Calls Tryz.prog 17 #[.slice a6 l.length cp6, .int .i64 (x : Int), .int .i64 vs[x]] wq fun e w2 => e = .returned (.bool false) ∧ Below wq.heap.size wq w2) := by
      have := HGs.out (x : Int) vs[x] wq HBq.out
      rw [HGo.out x hxn] at this
      exact this
    go_wp2_with (go_at_call 17; refine calls_at HG1.out (by with_reducible rfl) (by with_reducible rfl) ?_; rintro e w14 ⟨rfl, hb14⟩)
    go_roundw
    case rel => exact ⟨x + 1, by go_num, hxn, bl_next HBq.out hb14⟩
    case measure => simp [intOf]; omega
end Go.Proofs.YtemnbcilmbojhaaGreatDoor
