/-
  Package prop's law: whether values are left behind cuts.
-/
import Derived.Test.YtlcegpnnanhloaaGreatDoorJ37
import Derived.Test.YtlcegpnnanhloaaGreatDoorJ34
import Derived.Test.YtlcegpnnanhloaaGreatDoorJ45
namespace Go.Proofs.YtlcegpnnanhloaaGreatDoor
open Go.RowKit

theorem leftB_next {L : List Ct} {ins : List Int} {k : Nat} (hk : k < L.length) (h : leftB (L.take k) ins = true) : leftB (L.take (k + 1)) ins = lf1 ins L[k] := by
  unfold leftB at h ⊢
  rw [List.take_succ_eq_append_getElem hk, List.all_append, h]
  simp
theorem leftB_not {L : List Ct} {ins : List Int} {k : Nat} (hk : k < L.length) (h : lf1 ins L[k] = false) : leftB L ins = false := by
  unfold leftB
  rw [← Bool.not_eq_true, List.all_eq_true]
  intro hh
  have := hh L[k] (List.getElem_mem hk)
  rw [h] at this
  cases this

set_option maxRecDepth 10000 in
set_option maxHeartbeats 4000000 in
theorem leftL_any (a : Option Addr) (cap : Nat) (L : List Ct) (vi : Value) (ins : List Int) (w : World) (h : CtsAt w a L) (hl : L.length ≤ 1000000) (hi : IntsAt w vi ins) : Calls Tryz.prog 12 #[.slice a L.length cap, vi] w fun e w' => e = .returned (.bool (leftB L ins)) ∧ Below w.heap.size w w' := by
  obtain ⟨ia, ic, rfl, hil, hic⟩ := hi
  have HC : Hid (∀ w', Below w.heap.size w w' → CtsAt w' a L) := fun w' hb => h.below hb
  have HIc : Hid (∀ w' (k : Nat) (hk : k < ins.length), Below w.heap.size w w' → ∃ b off, ia = some ⟨b, off, none⟩ ∧ w'.cell? ⟨b, off + k, none⟩ = some (.int .i64 ins[k])) := fun w' k hk hb => by
    obtain ⟨b, off, e, hlt, hcl⟩ := hic (by omega)
    exact ⟨b, off, e, (hb.cell (p := ⟨b, _, none⟩) hlt).trans (hcl k hk)⟩
  have HS : Hid (∀ (k x v y u : Int) w', Calls Tryz.prog 34 #[.agg #[.int .i64 k, .int .i64 x, .int .i64 v], .int .i64 y, .int .i64 u] w' fun e w2 => e = .returned (.bool (stB ⟨k, x, v⟩ y u)) ∧ Below w'.heap.size w' w2) := fun k x v y u w' => stays_any ⟨k, x, v⟩ y u w'
  clear h hic
  go_enter Tryz.func12, Tryz.ntmps12
  go_wp2_with fail
  go_loopw [5] (fun iv wr => ∃ (k : Nat), iv = .int .i64 (k : Int) ∧ k ≤ L.length ∧ Hid (leftB (L.take k) ins = true) ∧ Hid (Below w.heap.size w wr)) (fun iv _ => L.length - (intOf iv).toNat)
  case atStart => exact ⟨0, rfl, Nat.zero_le _, rfl, Below.refl _ _⟩
  case round =>
  obtain ⟨k, rfl, hk, HT, HBr⟩ := hrel
  by_cases hkn : k < L.length
  · have hkI : (k : Int) < (L.length : Int) := by omega
    obtain ⟨b, off, rfl, c0, c1, c2⟩ := HC.out wr HBr.out k hkn
    have hN := leftB_next hkn HT.out
    have hZ := fun hh => leftB_not (ins := ins) hkn hh
    have HCk := fun w' hb => HC.out w' hb k hkn
    obtain ⟨⟨qk, qx, qv⟩, hq⟩ : ∃ q, L[k] = q := ⟨_, rfl⟩
    rw [hq] at c0 c1 c2 hN hZ HCk
    dsimp only at c0 c1 c2 HCk
    have HCq : Hid (∀ w', Below wr.heap.size wr w' → w'.cell? ⟨b, off + k * 3, none⟩ = some (.int .i64 qk) ∧ w'.cell? ⟨b, off + k * 3 + 1, none⟩ = some (.int .i64 qx) ∧ w'.cell? ⟨b, off + k * 3 + 2, none⟩ = some (.int .i64 qv)) := fun w' hb => by
      obtain ⟨b', o', e, h0, h1, h2⟩ := HCk w' (bl_next HBr.out hb)
      injection e with e
      injection e with e1 e2
      subst e1 e2
      exact ⟨h0, h1, h2⟩
    obtain ⟨r, hr⟩ : ∃ r, lf1 ins ⟨qk, qx, qv⟩ = r := ⟨_, rfl⟩
    have HR : Hid (lf1 ins ⟨qk, qx, qv⟩ = r) := hr
    rw [hr] at hN hZ
    have HN : Hid (leftB (L.take (k + 1)) ins = r) := hN
    have HZ : Hid (r = false → leftB L ins = false) := hZ
    clear hN hZ hr hq HCk
    by_cases hx0 : qx < 0
    case pos =>
      have HZ2 : Hid (leftB L ins = false) := HZ.out (by rw [← HR.out]; unfold lf1; simp; intro h; omega)
      clear c0 c1 c2
      go_wp2_with fail
      refine wp_region_T (fun w' => w'.cell? ⟨b, off + k * 3, none⟩ = some (.int .i64 qk) ∧ w'.cell? ⟨b, off + k * 3 + 1, none⟩ = some (.int .i64 qx) ∧ w'.cell? ⟨b, off + k * 3 + 2, none⟩ = some (.int .i64 qv)) (fun _ => True) [] (by kernel_rfl) ⟨HCq.out _ (Below.refl _ _).drew, trivial⟩ (fun hHeld => ?_)
      refine wpAnyT_takeB (i := 0) (oi := ⟨some 12, .move (.tmp 0), _, _, _, _⟩) (v := ?vR4c1x0) rfl (by kernel_rfl) (by kernel_rfl) (by kernel_rfl) (by kernel_rfl) (fun _ _ _ h => h) (Or.inl ⟨by rfl, ?hyR4c1x0⟩) (by assumption) ?restR4c1x0
      case hyR4c1x0 => (intro w hSw; (try dsimp only at hSw); go_simp; try (with_reducible rfl))
      try simp only [Act.put, List.setIfInBounds_toArray, List.set_cons_zero, List.set_cons_succ]
      refine wpAnyT_takeB (i := 1) (oi := ⟨some 13, .move (.tmp 5), _, _, _, _⟩) (v := ?vR4c1x1) rfl (by kernel_rfl) (by kernel_rfl) (by kernel_rfl) (by kernel_rfl) (fun _ _ _ h => h) (Or.inl ⟨by rfl, ?hyR4c1x1⟩) (by assumption) ?restR4c1x1
      case hyR4c1x1 => (intro w hSw; (try dsimp only at hSw); go_simp; try (with_reducible rfl))
      try simp only [Act.put, List.setIfInBounds_toArray, List.set_cons_zero, List.set_cons_succ]
      refine wpAnyT_takeB (i := 2) (oi := ⟨some 14, .indexAddr 27 (.tmp 12) (.tmp 13), _, _, _, _⟩) (v := ?vR4c1x2) rfl (by kernel_rfl) (by kernel_rfl) (by kernel_rfl) (by kernel_rfl) (fun _ _ _ h => h) (Or.inl ⟨by rfl, ?hyR4c1x2⟩) (by assumption) ?restR4c1x2
      case hyR4c1x2 => (intro w hSw; (try dsimp only at hSw); go_simp; try (with_reducible rfl))
      try simp only [Act.put, List.setIfInBounds_toArray, List.set_cons_zero, List.set_cons_succ]
      refine wpAnyT_takeB (i := 3) (oi := ⟨some 15, .fieldAddr 46 (.tmp 14) 1, _, _, _, _⟩) (v := ?vR4c1x3) rfl (by kernel_rfl) (by kernel_rfl) (by kernel_rfl) (by kernel_rfl) (fun _ _ _ h => h) (Or.inl ⟨by rfl, ?hyR4c1x3⟩) (by assumption) ?restR4c1x3
      case hyR4c1x3 => (intro w hSw; (try dsimp only at hSw); go_simp; try (with_reducible rfl))
      try simp only [Act.put, List.setIfInBounds_toArray, List.set_cons_zero, List.set_cons_succ]
      refine wpAnyT_takeB (i := 4) (oi := ⟨some 16, .load 3 (.tmp 15), _, _, _, _⟩) (v := ?vR4c1x4) rfl (by kernel_rfl) (by kernel_rfl) (by kernel_rfl) (by kernel_rfl) (fun _ _ _ h => h) (Or.inl ⟨by rfl, ?hyR4c1x4⟩) (by assumption) ?restR4c1x4
      case hyR4c1x4 => (intro w hSw; (try dsimp only at hSw); go_simp; try (with_reducible rfl))
      try simp only [Act.put, List.setIfInBounds_toArray, List.set_cons_zero, List.set_cons_succ]
      refine wpAnyT_takeB (i := 5) (oi := ⟨some 17, .binOp .lss 3 (.tmp 16) ((.const (.int .i64 0))) 3, _, _, _, _⟩) (v := ?vR4c1x5) rfl (by kernel_rfl) (by kernel_rfl) (by kernel_rfl) (by kernel_rfl) (fun _ _ _ h => h) (Or.inl ⟨by rfl, ?hyR4c1x5⟩) (by assumption) ?restR4c1x5
      case hyR4c1x5 => (intro w hSw; (try dsimp only at hSw); go_simp; try (with_reducible rfl))
      try simp only [Act.put, List.setIfInBounds_toArray, List.set_cons_zero, List.set_cons_succ]
      refine wpAnyT_takeB (i := 6) (oi := ⟨some 18, .move (.tmp 17), _, _, _, _⟩) (v := ?vR4c1x6) rfl (by kernel_rfl) (by kernel_rfl) (by kernel_rfl) (by kernel_rfl) (fun _ _ _ h => h) (Or.inl ⟨by rfl, ?hyR4c1x6⟩) (by assumption) ?restR4c1x6
      case hyR4c1x6 => (intro w hSw; (try dsimp only at hSw); go_simp; try (with_reducible rfl))
      try simp only [Act.put, List.setIfInBounds_toArray, List.set_cons_zero, List.set_cons_succ]
      refine wpAnyT_takeB (i := 7) (oi := ⟨some 19, .move (.tmp 0), _, _, _, _⟩) (v := undef) rfl (by kernel_rfl) (by kernel_rfl) (by kernel_rfl) (by kernel_rfl) (fun _ _ _ h => h) (Or.inr ⟨by rfl, rfl⟩) (by assumption) ?restR4c1x7
      try simp only [Act.put, List.setIfInBounds_toArray, List.set_cons_zero, List.set_cons_succ]
      refine wpAnyT_takeB (i := 8) (oi := ⟨some 20, .move (.tmp 5), _, _, _, _⟩) (v := undef) rfl (by kernel_rfl) (by kernel_rfl) (by kernel_rfl) (by kernel_rfl) (fun _ _ _ h => h) (Or.inr ⟨by rfl, rfl⟩) (by assumption) ?restR4c1x8
      try simp only [Act.put, List.setIfInBounds_toArray, List.set_cons_zero, List.set_cons_succ]
      refine wpAnyT_takeB (i := 9) (oi := ⟨some 21, .indexAddr 27 (.tmp 19) (.tmp 20), _, _, _, _⟩) (v := undef) rfl (by kernel_rfl) (by kernel_rfl) (by kernel_rfl) (by kernel_rfl) (fun _ _ _ h => h) (Or.inr ⟨by rfl, rfl⟩) (by assumption) ?restR4c1x9
      try simp only [Act.put, List.setIfInBounds_toArray, List.set_cons_zero, List.set_cons_succ]
      refine wpAnyT_takeB (i := 10) (oi := ⟨some 22, .fieldAddr 46 (.tmp 21) 1, _, _, _, _⟩) (v := undef) rfl (by kernel_rfl) (by kernel_rfl) (by kernel_rfl) (by kernel_rfl) (fun _ _ _ h => h) (Or.inr ⟨by rfl, rfl⟩) (by assumption) ?restR4c1x10
      try simp only [Act.put, List.setIfInBounds_toArray, List.set_cons_zero, List.set_cons_succ]
      refine wpAnyT_takeB (i := 11) (oi := ⟨some 23, .load 3 (.tmp 22), _, _, _, _⟩) (v := undef) rfl (by kernel_rfl) (by kernel_rfl) (by kernel_rfl) (by kernel_rfl) (fun _ _ _ h => h) (Or.inr ⟨by rfl, rfl⟩) (by assumption) ?restR4c1x11
      try simp only [Act.put, List.setIfInBounds_toArray, List.set_cons_zero, List.set_cons_succ]
      refine wpAnyT_takeB (i := 12) (oi := ⟨some 24, .move (.tmp 1), _, _, _, _⟩) (v := undef) rfl (by kernel_rfl) (by kernel_rfl) (by kernel_rfl) (by kernel_rfl) (fun _ _ _ h => h) (Or.inr ⟨by rfl, rfl⟩) (by assumption) ?restR4c1x12
      try simp only [Act.put, List.setIfInBounds_toArray, List.set_cons_zero, List.set_cons_succ]
      refine wpAnyT_takeB (i := 13) (oi := ⟨some 25, .call { callee := .builtin .len, args := #[(.tmp 24)], argTypes := #[28] }, _, _, _, _⟩) (v := undef) rfl (by kernel_rfl) (by kernel_rfl) (by kernel_rfl) (by kernel_rfl) (fun _ _ _ h => h) (Or.inr ⟨by rfl, rfl⟩) (by assumption) ?restR4c1x13
      try simp only [Act.put, List.setIfInBounds_toArray, List.set_cons_zero, List.set_cons_succ]
      refine wpAnyT_takeB (i := 14) (oi := ⟨some 26, .binOp .geq 3 (.tmp 23) (.tmp 25) 3, _, _, _, _⟩) (v := undef) rfl (by kernel_rfl) (by kernel_rfl) (by kernel_rfl) (by kernel_rfl) (fun _ _ _ h => h) (Or.inr ⟨by rfl, rfl⟩) (by assumption) ?restR4c1x14
      try simp only [Act.put, List.setIfInBounds_toArray, List.set_cons_zero, List.set_cons_succ]
      refine wpAnyT_takeB (i := 15) (oi := ⟨some 27, .pick (.tmp 18) ((.const (.bool true))) (.tmp 26), _, _, _, _⟩) (v := ?vR4c1x15) rfl (by kernel_rfl) (by kernel_rfl) (by kernel_rfl) (by kernel_rfl) (fun _ _ _ h => h) (Or.inl ⟨by rfl, ?hyR4c1x15⟩) (by assumption) ?restR4c1x15
      case hyR4c1x15 => (intro w hSw; (try dsimp only at hSw); go_simp; try (with_reducible rfl))
      try simp only [Act.put, List.setIfInBounds_toArray, List.set_cons_zero, List.set_cons_succ]
      refine wpAnyT_takeB (i := 16) (oi := ⟨some 28, .move (.tmp 27), _, _, _, _⟩) (v := ?vR4c1x16) rfl (by kernel_rfl) (by kernel_rfl) (by kernel_rfl) (by kernel_rfl) (fun _ _ _ h => h) (Or.inl ⟨by rfl, ?hyR4c1x16⟩) (by assumption) ?restR4c1x16
      case hyR4c1x16 => (intro w hSw; (try dsimp only at hSw); go_simp; try (with_reducible rfl))
      try simp only [Act.put, List.setIfInBounds_toArray, List.set_cons_zero, List.set_cons_succ]
      refine wpAnyT_takeB (i := 17) (oi := ⟨some 29, .move (.tmp 0), _, _, _, _⟩) (v := undef) rfl (by kernel_rfl) (by kernel_rfl) (by kernel_rfl) (by kernel_rfl) (fun _ _ _ h => h) (Or.inr ⟨by rfl, rfl⟩) (by assumption) ?restR4c1x17
      try simp only [Act.put, List.setIfInBounds_toArray, List.set_cons_zero, List.set_cons_succ]
      refine wpAnyT_takeB (i := 18) (oi := ⟨some 30, .move (.tmp 5), _, _, _, _⟩) (v := undef) rfl (by kernel_rfl) (by kernel_rfl) (by kernel_rfl) (by kernel_rfl) (fun _ _ _ h => h) (Or.inr ⟨by rfl, rfl⟩) (by assumption) ?restR4c1x18
      try simp only [Act.put, List.setIfInBounds_toArray, List.set_cons_zero, List.set_cons_succ]
      refine wpAnyT_takeB (i := 19) (oi := ⟨some 31, .indexAddr 27 (.tmp 29) (.tmp 30), _, _, _, _⟩) (v := undef) rfl (by kernel_rfl) (by kernel_rfl) (by kernel_rfl) (by kernel_rfl) (fun _ _ _ h => h) (Or.inr ⟨by rfl, rfl⟩) (by assumption) ?restR4c1x19
      try simp only [Act.put, List.setIfInBounds_toArray, List.set_cons_zero, List.set_cons_succ]
      refine wpAnyT_takeB (i := 20) (oi := ⟨some 32, .load 46 (.tmp 31), _, _, _, _⟩) (v := undef) rfl (by kernel_rfl) (by kernel_rfl) (by kernel_rfl) (by kernel_rfl) (fun _ _ _ h => h) (Or.inr ⟨by rfl, rfl⟩) (by assumption) ?restR4c1x20
      try simp only [Act.put, List.setIfInBounds_toArray, List.set_cons_zero, List.set_cons_succ]
      refine wpAnyT_takeB (i := 21) (oi := ⟨some 33, .move (.tmp 0), _, _, _, _⟩) (v := undef) rfl (by kernel_rfl) (by kernel_rfl) (by kernel_rfl) (by kernel_rfl) (fun _ _ _ h => h) (Or.inr ⟨by rfl, rfl⟩) (by assumption) ?restR4c1x21
      try simp only [Act.put, List.setIfInBounds_toArray, List.set_cons_zero, List.set_cons_succ]
      refine wpAnyT_takeB (i := 22) (oi := ⟨some 34, .move (.tmp 5), _, _, _, _⟩) (v := undef) rfl (by kernel_rfl) (by kernel_rfl) (by kernel_rfl) (by kernel_rfl) (fun _ _ _ h => h) (Or.inr ⟨by rfl, rfl⟩) (by assumption) ?restR4c1x22
      try simp only [Act.put, List.setIfInBounds_toArray, List.set_cons_zero, List.set_cons_succ]
      refine wpAnyT_takeB (i := 23) (oi := ⟨some 35, .indexAddr 27 (.tmp 33) (.tmp 34), _, _, _, _⟩) (v := undef) rfl (by kernel_rfl) (by kernel_rfl) (by kernel_rfl) (by kernel_rfl) (fun _ _ _ h => h) (Or.inr ⟨by rfl, rfl⟩) (by assumption) ?restR4c1x23
      try simp only [Act.put, List.setIfInBounds_toArray, List.set_cons_zero, List.set_cons_succ]
      refine wpAnyT_takeB (i := 24) (oi := ⟨some 36, .fieldAddr 46 (.tmp 35) 1, _, _, _, _⟩) (v := undef) rfl (by kernel_rfl) (by kernel_rfl) (by kernel_rfl) (by kernel_rfl) (fun _ _ _ h => h) (Or.inr ⟨by rfl, rfl⟩) (by assumption) ?restR4c1x24
      try simp only [Act.put, List.setIfInBounds_toArray, List.set_cons_zero, List.set_cons_succ]
      refine wpAnyT_takeB (i := 25) (oi := ⟨some 37, .load 3 (.tmp 36), _, _, _, _⟩) (v := undef) rfl (by kernel_rfl) (by kernel_rfl) (by kernel_rfl) (by kernel_rfl) (fun _ _ _ h => h) (Or.inr ⟨by rfl, rfl⟩) (by assumption) ?restR4c1x25
      try simp only [Act.put, List.setIfInBounds_toArray, List.set_cons_zero, List.set_cons_succ]
      refine wpAnyT_takeB (i := 26) (oi := ⟨some 38, .move (.tmp 1), _, _, _, _⟩) (v := undef) rfl (by kernel_rfl) (by kernel_rfl) (by kernel_rfl) (by kernel_rfl) (fun _ _ _ h => h) (Or.inr ⟨by rfl, rfl⟩) (by assumption) ?restR4c1x26
      try simp only [Act.put, List.setIfInBounds_toArray, List.set_cons_zero, List.set_cons_succ]
      refine wpAnyT_takeB (i := 27) (oi := ⟨some 39, .move (.tmp 0), _, _, _, _⟩) (v := undef) rfl (by kernel_rfl) (by kernel_rfl) (by kernel_rfl) (by kernel_rfl) (fun _ _ _ h => h) (Or.inr ⟨by rfl, rfl⟩) (by assumption) ?restR4c1x27
      try simp only [Act.put, List.setIfInBounds_toArray, List.set_cons_zero, List.set_cons_succ]
      refine wpAnyT_takeB (i := 28) (oi := ⟨some 40, .move (.tmp 5), _, _, _, _⟩) (v := undef) rfl (by kernel_rfl) (by kernel_rfl) (by kernel_rfl) (by kernel_rfl) (fun _ _ _ h => h) (Or.inr ⟨by rfl, rfl⟩) (by assumption) ?restR4c1x28
      try simp only [Act.put, List.setIfInBounds_toArray, List.set_cons_zero, List.set_cons_succ]
      refine wpAnyT_takeB (i := 29) (oi := ⟨some 41, .indexAddr 27 (.tmp 39) (.tmp 40), _, _, _, _⟩) (v := undef) rfl (by kernel_rfl) (by kernel_rfl) (by kernel_rfl) (by kernel_rfl) (fun _ _ _ h => h) (Or.inr ⟨by rfl, rfl⟩) (by assumption) ?restR4c1x29
      try simp only [Act.put, List.setIfInBounds_toArray, List.set_cons_zero, List.set_cons_succ]
      refine wpAnyT_takeB (i := 30) (oi := ⟨some 42, .fieldAddr 46 (.tmp 41) 1, _, _, _, _⟩) (v := undef) rfl (by kernel_rfl) (by kernel_rfl) (by kernel_rfl) (by kernel_rfl) (fun _ _ _ h => h) (Or.inr ⟨by rfl, rfl⟩) (by assumption) ?restR4c1x30
      try simp only [Act.put, List.setIfInBounds_toArray, List.set_cons_zero, List.set_cons_succ]
      refine wpAnyT_takeB (i := 31) (oi := ⟨some 43, .load 3 (.tmp 42), _, _, _, _⟩) (v := undef) rfl (by kernel_rfl) (by kernel_rfl) (by kernel_rfl) (by kernel_rfl) (fun _ _ _ h => h) (Or.inr ⟨by rfl, rfl⟩) (by assumption) ?restR4c1x31
      try simp only [Act.put, List.setIfInBounds_toArray, List.set_cons_zero, List.set_cons_succ]
      refine wpAnyT_takeB (i := 32) (oi := ⟨some 44, .indexAddr 28 (.tmp 38) (.tmp 43), _, _, _, _⟩) (v := undef) rfl (by kernel_rfl) (by kernel_rfl) (by kernel_rfl) (by kernel_rfl) (fun _ _ _ h => h) (Or.inr ⟨by rfl, rfl⟩) (by assumption) ?restR4c1x32
      try simp only [Act.put, List.setIfInBounds_toArray, List.set_cons_zero, List.set_cons_succ]
      refine wpAnyT_takeB (i := 33) (oi := ⟨some 45, .load 3 (.tmp 44), _, _, _, _⟩) (v := undef) rfl (by kernel_rfl) (by kernel_rfl) (by kernel_rfl) (by kernel_rfl) (fun _ _ _ h => h) (Or.inr ⟨by rfl, rfl⟩) (by assumption) ?restR4c1x33
      try simp only [Act.put, List.setIfInBounds_toArray, List.set_cons_zero, List.set_cons_succ]
      refine wpAnyT_takeB (i := 34) (oi := ⟨some 46, .call { callee := .value (.func 34), args := #[(.tmp 32), (.tmp 37), (.tmp 45)], argTypes := #[46, 3, 3] }, _, _, _, _⟩) (v := undef) rfl (by kernel_rfl) (by kernel_rfl) (by kernel_rfl) (by kernel_rfl) (fun _ _ _ h => h) (Or.inr ⟨by rfl, rfl⟩) (by assumption) ?restR4c1x34
      try simp only [Act.put, List.setIfInBounds_toArray, List.set_cons_zero, List.set_cons_succ]
      refine wpAnyT_takeB (i := 35) (oi := ⟨some 47, .unOp .not 4 (.tmp 46), _, _, _, _⟩) (v := undef) rfl (by kernel_rfl) (by kernel_rfl) (by kernel_rfl) (by kernel_rfl) (fun _ _ _ h => h) (Or.inr ⟨by rfl, rfl⟩) (by assumption) ?restR4c1x35
      try simp only [Act.put, List.setIfInBounds_toArray, List.set_cons_zero, List.set_cons_succ]
      refine wpAnyT_takeB (i := 36) (oi := ⟨some 48, .pick (.tmp 28) ((.const (.bool true))) (.tmp 47), _, _, _, _⟩) (v := ?vR4c1x36) rfl (by kernel_rfl) (by kernel_rfl) (by kernel_rfl) (by kernel_rfl) (fun _ _ _ h => h) (Or.inl ⟨by rfl, ?hyR4c1x36⟩) (by assumption) ?restR4c1x36
      case hyR4c1x36 => (intro w hSw; (try dsimp only at hSw); go_simp; try (with_reducible rfl))
      try simp only [Act.put, List.setIfInBounds_toArray, List.set_cons_zero, List.set_cons_succ]
      refine wpAnyT_done (by kernel_rfl) ?_ _
      go_wp2_with fail
      go_ret
      exact ⟨ret_bool (by rw [HZ2.out]), bl_next HBr.out (Below.refl _ _).drew⟩
    case neg =>
    have hd0 : decide (qx < 0) = false := by simp; omega
    by_cases hx1 : (ins.length : Int) ≤ qx
    case pos =>
      have HZ2 : Hid (leftB L ins = false) := HZ.out (by rw [← HR.out]; unfold lf1; simp; intro h h2; omega)
      clear c0 c1 c2
      go_wp2_with fail
      refine wp_region_T (fun w' => w'.cell? ⟨b, off + k * 3, none⟩ = some (.int .i64 qk) ∧ w'.cell? ⟨b, off + k * 3 + 1, none⟩ = some (.int .i64 qx) ∧ w'.cell? ⟨b, off + k * 3 + 2, none⟩ = some (.int .i64 qv)) (fun _ => True) [] (by kernel_rfl) ⟨HCq.out _ (Below.refl _ _).drew, trivial⟩ (fun hHeld => ?_)
      refine wpAnyT_takeB (i := 0) (oi := ⟨some 12, .move (.tmp 0), _, _, _, _⟩) (v := ?vR4c2x0) rfl (by kernel_rfl) (by kernel_rfl) (by kernel_rfl) (by kernel_rfl) (fun _ _ _ h => h) (Or.inl ⟨by rfl, ?hyR4c2x0⟩) (by assumption) ?restR4c2x0
      case hyR4c2x0 => (intro w hSw; (try dsimp only at hSw); go_simp; try (with_reducible rfl))
      try simp only [Act.put, List.setIfInBounds_toArray, List.set_cons_zero, List.set_cons_succ]
      refine wpAnyT_takeB (i := 1) (oi := ⟨some 13, .move (.tmp 5), _, _, _, _⟩) (v := ?vR4c2x1) rfl (by kernel_rfl) (by kernel_rfl) (by kernel_rfl) (by kernel_rfl) (fun _ _ _ h => h) (Or.inl ⟨by rfl, ?hyR4c2x1⟩) (by assumption) ?restR4c2x1
      case hyR4c2x1 => (intro w hSw; (try dsimp only at hSw); go_simp; try (with_reducible rfl))
      try simp only [Act.put, List.setIfInBounds_toArray, List.set_cons_zero, List.set_cons_succ]
      refine wpAnyT_takeB (i := 2) (oi := ⟨some 14, .indexAddr 27 (.tmp 12) (.tmp 13), _, _, _, _⟩) (v := ?vR4c2x2) rfl (by kernel_rfl) (by kernel_rfl) (by kernel_rfl) (by kernel_rfl) (fun _ _ _ h => h) (Or.inl ⟨by rfl, ?hyR4c2x2⟩) (by assumption) ?restR4c2x2
      case hyR4c2x2 => (intro w hSw; (try dsimp only at hSw); go_simp; try (with_reducible rfl))
      try simp only [Act.put, List.setIfInBounds_toArray, List.set_cons_zero, List.set_cons_succ]
      refine wpAnyT_takeB (i := 3) (oi := ⟨some 15, .fieldAddr 46 (.tmp 14) 1, _, _, _, _⟩) (v := ?vR4c2x3) rfl (by kernel_rfl) (by kernel_rfl) (by kernel_rfl) (by kernel_rfl) (fun _ _ _ h => h) (Or.inl ⟨by rfl, ?hyR4c2x3⟩) (by assumption) ?restR4c2x3
      case hyR4c2x3 => (intro w hSw; (try dsimp only at hSw); go_simp; try (with_reducible rfl))
      try simp only [Act.put, List.setIfInBounds_toArray, List.set_cons_zero, List.set_cons_succ]
      refine wpAnyT_takeB (i := 4) (oi := ⟨some 16, .load 3 (.tmp 15), _, _, _, _⟩) (v := ?vR4c2x4) rfl (by kernel_rfl) (by kernel_rfl) (by kernel_rfl) (by kernel_rfl) (fun _ _ _ h => h) (Or.inl ⟨by rfl, ?hyR4c2x4⟩) (by assumption) ?restR4c2x4
      case hyR4c2x4 => (intro w hSw; (try dsimp only at hSw); go_simp; try (with_reducible rfl))
      try simp only [Act.put, List.setIfInBounds_toArray, List.set_cons_zero, List.set_cons_succ]
      refine wpAnyT_takeB (i := 5) (oi := ⟨some 17, .binOp .lss 3 (.tmp 16) ((.const (.int .i64 0))) 3, _, _, _, _⟩) (v := ?vR4c2x5) rfl (by kernel_rfl) (by kernel_rfl) (by kernel_rfl) (by kernel_rfl) (fun _ _ _ h => h) (Or.inl ⟨by rfl, ?hyR4c2x5⟩) (by assumption) ?restR4c2x5
      case hyR4c2x5 => (intro w hSw; (try dsimp only at hSw); go_simp; try (with_reducible rfl))
      try simp only [Act.put, List.setIfInBounds_toArray, List.set_cons_zero, List.set_cons_succ]
      refine wpAnyT_takeB (i := 6) (oi := ⟨some 18, .move (.tmp 17), _, _, _, _⟩) (v := ?vR4c2x6) rfl (by kernel_rfl) (by kernel_rfl) (by kernel_rfl) (by kernel_rfl) (fun _ _ _ h => h) (Or.inl ⟨by rfl, ?hyR4c2x6⟩) (by assumption) ?restR4c2x6
      case hyR4c2x6 => (intro w hSw; (try dsimp only at hSw); go_simp; try (with_reducible rfl))
      try simp only [Act.put, List.setIfInBounds_toArray, List.set_cons_zero, List.set_cons_succ]
      refine wpAnyT_takeB (i := 7) (oi := ⟨some 19, .move (.tmp 0), _, _, _, _⟩) (v := ?vR4c2x7) rfl (by kernel_rfl) (by kernel_rfl) (by kernel_rfl) (by kernel_rfl) (fun _ _ _ h => h) (Or.inl ⟨by rfl, ?hyR4c2x7⟩) (by assumption) ?restR4c2x7
      case hyR4c2x7 => (intro w hSw; (try dsimp only at hSw); go_simp; try (with_reducible rfl))
      try simp only [Act.put, List.setIfInBounds_toArray, List.set_cons_zero, List.set_cons_succ]
      refine wpAnyT_takeB (i := 8) (oi := ⟨some 20, .move (.tmp 5), _, _, _, _⟩) (v := ?vR4c2x8) rfl (by kernel_rfl) (by kernel_rfl) (by kernel_rfl) (by kernel_rfl) (fun _ _ _ h => h) (Or.inl ⟨by rfl, ?hyR4c2x8⟩) (by assumption) ?restR4c2x8
      case hyR4c2x8 => (intro w hSw; (try dsimp only at hSw); go_simp; try (with_reducible rfl))
      try simp only [Act.put, List.setIfInBounds_toArray, List.set_cons_zero, List.set_cons_succ]
      refine wpAnyT_takeB (i := 9) (oi := ⟨some 21, .indexAddr 27 (.tmp 19) (.tmp 20), _, _, _, _⟩) (v := ?vR4c2x9) rfl (by kernel_rfl) (by kernel_rfl) (by kernel_rfl) (by kernel_rfl) (fun _ _ _ h => h) (Or.inl ⟨by rfl, ?hyR4c2x9⟩) (by assumption) ?restR4c2x9
      case hyR4c2x9 => (intro w hSw; (try dsimp only at hSw); go_simp; try (with_reducible rfl))
      try simp only [Act.put, List.setIfInBounds_toArray, List.set_cons_zero, List.set_cons_succ]
      refine wpAnyT_takeB (i := 10) (oi := ⟨some 22, .fieldAddr 46 (.tmp 21) 1, _, _, _, _⟩) (v := ?vR4c2x10) rfl (by kernel_rfl) (by kernel_rfl) (by kernel_rfl) (by kernel_rfl) (fun _ _ _ h => h) (Or.inl ⟨by rfl, ?hyR4c2x10⟩) (by assumption) ?restR4c2x10
      case hyR4c2x10 => (intro w hSw; (try dsimp only at hSw); go_simp; try (with_reducible rfl))
      try simp only [Act.put, List.setIfInBounds_toArray, List.set_cons_zero, List.set_cons_succ]
      refine wpAnyT_takeB (i := 11) (oi := ⟨some 23, .load 3 (.tmp 22), _, _, _, _⟩) (v := ?vR4c2x11) rfl (by kernel_rfl) (by kernel_rfl) (by kernel_rfl) (by kernel_rfl) (fun _ _ _ h => h) (Or.inl ⟨by rfl, ?hyR4c2x11⟩) (by assumption) ?restR4c2x11
      case hyR4c2x11 => (intro w hSw; (try dsimp only at hSw); go_simp; try (with_reducible rfl))
      try simp only [Act.put, List.setIfInBounds_toArray, List.set_cons_zero, List.set_cons_succ]
      refine wpAnyT_takeB (i := 12) (oi := ⟨some 24, .move (.tmp 1), _, _, _, _⟩) (v := ?vR4c2x12) rfl (by kernel_rfl) (by kernel_rfl) (by kernel_rfl) (by kernel_rfl) (fun _ _ _ h => h) (Or.inl ⟨by rfl, ?hyR4c2x12⟩) (by assumption) ?restR4c2x12
      case hyR4c2x12 => (intro w hSw; (try dsimp only at hSw); go_simp; try (with_reducible rfl))
      try simp only [Act.put, List.setIfInBounds_toArray, List.set_cons_zero, List.set_cons_succ]
      refine wpAnyT_takeB (i := 13) (oi := ⟨some 25, .call { callee := .builtin .len, args := #[(.tmp 24)], argTypes := #[28] }, _, _, _, _⟩) (v := ?vR4c2x13) rfl (by kernel_rfl) (by kernel_rfl) (by kernel_rfl) (by kernel_rfl) (fun _ _ _ h => h) (Or.inl ⟨by rfl, ?hyR4c2x13⟩) (by assumption) ?restR4c2x13
      case hyR4c2x13 => (intro w hSw; (try dsimp only at hSw); go_simp; try (with_reducible rfl))
      try simp only [Act.put, List.setIfInBounds_toArray, List.set_cons_zero, List.set_cons_succ]
      refine wpAnyT_takeB (i := 14) (oi := ⟨some 26, .binOp .geq 3 (.tmp 23) (.tmp 25) 3, _, _, _, _⟩) (v := ?vR4c2x14) rfl (by kernel_rfl) (by kernel_rfl) (by kernel_rfl) (by kernel_rfl) (fun _ _ _ h => h) (Or.inl ⟨by rfl, ?hyR4c2x14⟩) (by assumption) ?restR4c2x14
      case hyR4c2x14 => (intro w hSw; (try dsimp only at hSw); go_simp; try (with_reducible rfl))
      try simp only [Act.put, List.setIfInBounds_toArray, List.set_cons_zero, List.set_cons_succ]
      refine wpAnyT_takeB (i := 15) (oi := ⟨some 27, .pick (.tmp 18) ((.const (.bool true))) (.tmp 26), _, _, _, _⟩) (v := ?vR4c2x15) rfl (by kernel_rfl) (by kernel_rfl) (by kernel_rfl) (by kernel_rfl) (fun _ _ _ h => h) (Or.inl ⟨by rfl, ?hyR4c2x15⟩) (by assumption) ?restR4c2x15
      case hyR4c2x15 => (intro w hSw; (try dsimp only at hSw); go_simp; try (with_reducible rfl))
      try simp only [Act.put, List.setIfInBounds_toArray, List.set_cons_zero, List.set_cons_succ]
      refine wpAnyT_takeB (i := 16) (oi := ⟨some 28, .move (.tmp 27), _, _, _, _⟩) (v := ?vR4c2x16) rfl (by kernel_rfl) (by kernel_rfl) (by kernel_rfl) (by kernel_rfl) (fun _ _ _ h => h) (Or.inl ⟨by rfl, ?hyR4c2x16⟩) (by assumption) ?restR4c2x16
      case hyR4c2x16 => (intro w hSw; (try dsimp only at hSw); go_simp; try (with_reducible rfl))
      try simp only [Act.put, List.setIfInBounds_toArray, List.set_cons_zero, List.set_cons_succ]
      refine wpAnyT_takeB (i := 17) (oi := ⟨some 29, .move (.tmp 0), _, _, _, _⟩) (v := undef) rfl (by kernel_rfl) (by kernel_rfl) (by kernel_rfl) (by kernel_rfl) (fun _ _ _ h => h) (Or.inr ⟨by rfl, rfl⟩) (by assumption) ?restR4c2x17
      try simp only [Act.put, List.setIfInBounds_toArray, List.set_cons_zero, List.set_cons_succ]
      refine wpAnyT_takeB (i := 18) (oi := ⟨some 30, .move (.tmp 5), _, _, _, _⟩) (v := undef) rfl (by kernel_rfl) (by kernel_rfl) (by kernel_rfl) (by kernel_rfl) (fun _ _ _ h => h) (Or.inr ⟨by rfl, rfl⟩) (by assumption) ?restR4c2x18
      try simp only [Act.put, List.setIfInBounds_toArray, List.set_cons_zero, List.set_cons_succ]
      refine wpAnyT_takeB (i := 19) (oi := ⟨some 31, .indexAddr 27 (.tmp 29) (.tmp 30), _, _, _, _⟩) (v := undef) rfl (by kernel_rfl) (by kernel_rfl) (by kernel_rfl) (by kernel_rfl) (fun _ _ _ h => h) (Or.inr ⟨by rfl, rfl⟩) (by assumption) ?restR4c2x19
      try simp only [Act.put, List.setIfInBounds_toArray, List.set_cons_zero, List.set_cons_succ]
      refine wpAnyT_takeB (i := 20) (oi := ⟨some 32, .load 46 (.tmp 31), _, _, _, _⟩) (v := undef) rfl (by kernel_rfl) (by kernel_rfl) (by kernel_rfl) (by kernel_rfl) (fun _ _ _ h => h) (Or.inr ⟨by rfl, rfl⟩) (by assumption) ?restR4c2x20
      try simp only [Act.put, List.setIfInBounds_toArray, List.set_cons_zero, List.set_cons_succ]
      refine wpAnyT_takeB (i := 21) (oi := ⟨some 33, .move (.tmp 0), _, _, _, _⟩) (v := undef) rfl (by kernel_rfl) (by kernel_rfl) (by kernel_rfl) (by kernel_rfl) (fun _ _ _ h => h) (Or.inr ⟨by rfl, rfl⟩) (by assumption) ?restR4c2x21
      try simp only [Act.put, List.setIfInBounds_toArray, List.set_cons_zero, List.set_cons_succ]
      refine wpAnyT_takeB (i := 22) (oi := ⟨some 34, .move (.tmp 5), _, _, _, _⟩) (v := undef) rfl (by kernel_rfl) (by kernel_rfl) (by kernel_rfl) (by kernel_rfl) (fun _ _ _ h => h) (Or.inr ⟨by rfl, rfl⟩) (by assumption) ?restR4c2x22
      try simp only [Act.put, List.setIfInBounds_toArray, List.set_cons_zero, List.set_cons_succ]
      refine wpAnyT_takeB (i := 23) (oi := ⟨some 35, .indexAddr 27 (.tmp 33) (.tmp 34), _, _, _, _⟩) (v := undef) rfl (by kernel_rfl) (by kernel_rfl) (by kernel_rfl) (by kernel_rfl) (fun _ _ _ h => h) (Or.inr ⟨by rfl, rfl⟩) (by assumption) ?restR4c2x23
      try simp only [Act.put, List.setIfInBounds_toArray, List.set_cons_zero, List.set_cons_succ]
      refine wpAnyT_takeB (i := 24) (oi := ⟨some 36, .fieldAddr 46 (.tmp 35) 1, _, _, _, _⟩) (v := undef) rfl (by kernel_rfl) (by kernel_rfl) (by kernel_rfl) (by kernel_rfl) (fun _ _ _ h => h) (Or.inr ⟨by rfl, rfl⟩) (by assumption) ?restR4c2x24
      try simp only [Act.put, List.setIfInBounds_toArray, List.set_cons_zero, List.set_cons_succ]
      refine wpAnyT_takeB (i := 25) (oi := ⟨some 37, .load 3 (.tmp 36), _, _, _, _⟩) (v := undef) rfl (by kernel_rfl) (by kernel_rfl) (by kernel_rfl) (by kernel_rfl) (fun _ _ _ h => h) (Or.inr ⟨by rfl, rfl⟩) (by assumption) ?restR4c2x25
      try simp only [Act.put, List.setIfInBounds_toArray, List.set_cons_zero, List.set_cons_succ]
      refine wpAnyT_takeB (i := 26) (oi := ⟨some 38, .move (.tmp 1), _, _, _, _⟩) (v := undef) rfl (by kernel_rfl) (by kernel_rfl) (by kernel_rfl) (by kernel_rfl) (fun _ _ _ h => h) (Or.inr ⟨by rfl, rfl⟩) (by assumption) ?restR4c2x26
      try simp only [Act.put, List.setIfInBounds_toArray, List.set_cons_zero, List.set_cons_succ]
      refine wpAnyT_takeB (i := 27) (oi := ⟨some 39, .move (.tmp 0), _, _, _, _⟩) (v := undef) rfl (by kernel_rfl) (by kernel_rfl) (by kernel_rfl) (by kernel_rfl) (fun _ _ _ h => h) (Or.inr ⟨by rfl, rfl⟩) (by assumption) ?restR4c2x27
      try simp only [Act.put, List.setIfInBounds_toArray, List.set_cons_zero, List.set_cons_succ]
      refine wpAnyT_takeB (i := 28) (oi := ⟨some 40, .move (.tmp 5), _, _, _, _⟩) (v := undef) rfl (by kernel_rfl) (by kernel_rfl) (by kernel_rfl) (by kernel_rfl) (fun _ _ _ h => h) (Or.inr ⟨by rfl, rfl⟩) (by assumption) ?restR4c2x28
      try simp only [Act.put, List.setIfInBounds_toArray, List.set_cons_zero, List.set_cons_succ]
      refine wpAnyT_takeB (i := 29) (oi := ⟨some 41, .indexAddr 27 (.tmp 39) (.tmp 40), _, _, _, _⟩) (v := undef) rfl (by kernel_rfl) (by kernel_rfl) (by kernel_rfl) (by kernel_rfl) (fun _ _ _ h => h) (Or.inr ⟨by rfl, rfl⟩) (by assumption) ?restR4c2x29
      try simp only [Act.put, List.setIfInBounds_toArray, List.set_cons_zero, List.set_cons_succ]
      refine wpAnyT_takeB (i := 30) (oi := ⟨some 42, .fieldAddr 46 (.tmp 41) 1, _, _, _, _⟩) (v := undef) rfl (by kernel_rfl) (by kernel_rfl) (by kernel_rfl) (by kernel_rfl) (fun _ _ _ h => h) (Or.inr ⟨by rfl, rfl⟩) (by assumption) ?restR4c2x30
      try simp only [Act.put, List.setIfInBounds_toArray, List.set_cons_zero, List.set_cons_succ]
      refine wpAnyT_takeB (i := 31) (oi := ⟨some 43, .load 3 (.tmp 42), _, _, _, _⟩) (v := undef) rfl (by kernel_rfl) (by kernel_rfl) (by kernel_rfl) (by kernel_rfl) (fun _ _ _ h => h) (Or.inr ⟨by rfl, rfl⟩) (by assumption) ?restR4c2x31
      try simp only [Act.put, List.setIfInBounds_toArray, List.set_cons_zero, List.set_cons_succ]
      refine wpAnyT_takeB (i := 32) (oi := ⟨some 44, .indexAddr 28 (.tmp 38) (.tmp 43), _, _, _, _⟩) (v := undef) rfl (by kernel_rfl) (by kernel_rfl) (by kernel_rfl) (by kernel_rfl) (fun _ _ _ h => h) (Or.inr ⟨by rfl, rfl⟩) (by assumption) ?restR4c2x32
      try simp only [Act.put, List.setIfInBounds_toArray, List.set_cons_zero, List.set_cons_succ]
      refine wpAnyT_takeB (i := 33) (oi := ⟨some 45, .load 3 (.tmp 44), _, _, _, _⟩) (v := undef) rfl (by kernel_rfl) (by kernel_rfl) (by kernel_rfl) (by kernel_rfl) (fun _ _ _ h => h) (Or.inr ⟨by rfl, rfl⟩) (by assumption) ?restR4c2x33
      try simp only [Act.put, List.setIfInBounds_toArray, List.set_cons_zero, List.set_cons_succ]
      refine wpAnyT_takeB (i := 34) (oi := ⟨some 46, .call { callee := .value (.func 34), args := #[(.tmp 32), (.tmp 37), (.tmp 45)], argTypes := #[46, 3, 3] }, _, _, _, _⟩) (v := undef) rfl (by kernel_rfl) (by kernel_rfl) (by kernel_rfl) (by kernel_rfl) (fun _ _ _ h => h) (Or.inr ⟨by rfl, rfl⟩) (by assumption) ?restR4c2x34
      try simp only [Act.put, List.setIfInBounds_toArray, List.set_cons_zero, List.set_cons_succ]
      refine wpAnyT_takeB (i := 35) (oi := ⟨some 47, .unOp .not 4 (.tmp 46), _, _, _, _⟩) (v := undef) rfl (by kernel_rfl) (by kernel_rfl) (by kernel_rfl) (by kernel_rfl) (fun _ _ _ h => h) (Or.inr ⟨by rfl, rfl⟩) (by assumption) ?restR4c2x35
      try simp only [Act.put, List.setIfInBounds_toArray, List.set_cons_zero, List.set_cons_succ]
      refine wpAnyT_takeB (i := 36) (oi := ⟨some 48, .pick (.tmp 28) ((.const (.bool true))) (.tmp 47), _, _, _, _⟩) (v := ?vR4c2x36) rfl (by kernel_rfl) (by kernel_rfl) (by kernel_rfl) (by kernel_rfl) (fun _ _ _ h => h) (Or.inl ⟨by rfl, ?hyR4c2x36⟩) (by assumption) ?restR4c2x36
      case hyR4c2x36 => (intro w hSw; (try dsimp only at hSw); go_simp; try (with_reducible rfl))
      try simp only [Act.put, List.setIfInBounds_toArray, List.set_cons_zero, List.set_cons_succ]
      refine wpAnyT_done (by kernel_rfl) ?_ _
      go_wp2_with fail
      go_ret
      exact ⟨ret_bool (by rw [HZ2.out]), bl_next HBr.out (Below.refl _ _).drew⟩
    case neg =>
      clear hd0
      obtain ⟨m, rfl⟩ : ∃ m : Nat, qx = (m : Int) := ⟨qx.toNat, by omega⟩
      have hmi : m < ins.length := by omega
      have hmI : (m : Int) < (ins.length : Int) := by omega
      have hd0 : decide ((m : Int) < 0) = false := by simp
      have hd1 : decide ((ins.length : Int) ≤ (m : Int)) = false := by simp; omega
      have hd2 : decide (ins.length ≤ m) = false := by simp; omega
      have hm0 : (0 : Int) ≤ (m : Int) := by omega
      obtain ⟨ib, io, rfl, i0⟩ := HIc.out wr m hmi HBr.out
      have HIk : Hid (∀ w', Below wr.heap.size wr w' → w'.cell? ⟨ib, io + m, none⟩ = some (.int .i64 ins[m])) := fun w' hb => by
        obtain ⟨b', o', e, hc⟩ := HIc.out w' m hmi (bl_next HBr.out hb)
        injection e with e
        injection e with e1 e2
        subst e1 e2
        exact hc
      have hre : stB ⟨qk, (m : Int), qv⟩ (m : Int) ins[m] = r := by
        rw [← HR.out]
        unfold lf1
        have e1 : decide ((0 : Int) ≤ (m : Int)) = true := by simp
        have e2 : decide ((m : Int) < (ins.length : Int)) = true := by simpa using hmi
        show _ = (decide ((0 : Int) ≤ (m : Int)) && (decide ((m : Int) < (ins.length : Int)) && stB ⟨qk, (m : Int), qv⟩ (m : Int) (ins.getD (m : Int).toNat 0)))
        rw [e1, e2, Int.toNat_natCast, List.getD_eq_getElem?_getD, List.getElem?_eq_getElem hmi]
        rfl
      obtain ⟨u, hu⟩ : ∃ u, ins[m] = u := ⟨_, rfl⟩
      rw [hu] at HIk hre
      have HSk := HS.out qk (m : Int) qv (m : Int) u
      rw [hre] at HSk
      have HSk' : Hid (∀ w', Calls Tryz.prog 34 #[.agg #[.int .i64 qk, .int .i64 (m : Int), .int .i64 qv], .int .i64 (m : Int), .int .i64 u] w' fun e w2 => e = .returned (.bool r) ∧ Below w'.heap.size w' w2) := HSk
      have HG : Hid (∀ w', Below wr.heap.size wr w' → w'.cell? ⟨b, off + k * 3, none⟩ = some (.int .i64 qk) ∧ w'.cell? ⟨b, off + k * 3 + 1, none⟩ = some (.int .i64 (m : Int)) ∧ w'.cell? ⟨b, off + k * 3 + 2, none⟩ = some (.int .i64 qv) ∧ w'.cell? ⟨ib, io + m, none⟩ = some (.int .i64 u)) := fun w' hb => ⟨(HCq.out w' hb).1, (HCq.out w' hb).2.1, (HCq.out w' hb).2.2, HIk.out w' hb⟩
      clear hre HSk hu c0 c1 c2 i0
      go_wp2_with fail
      refine wp_region_T (fun w' => w'.cell? ⟨b, off + k * 3, none⟩ = some (.int .i64 qk) ∧ w'.cell? ⟨b, off + k * 3 + 1, none⟩ = some (.int .i64 (m : Int)) ∧ w'.cell? ⟨b, off + k * 3 + 2, none⟩ = some (.int .i64 qv) ∧ w'.cell? ⟨ib, io + m, none⟩ = some (.int .i64 u)) (fun _ => True) [] (by kernel_rfl) ⟨HG.out _ (Below.refl _ _).drew, trivial⟩ (fun hHeld => ?_)
      refine wpAnyT_takeB (i := 0) (oi := ⟨some 12, .move (.tmp 0), _, _, _, _⟩) (v := ?vR4c3x0) rfl (by kernel_rfl) (by kernel_rfl) (by kernel_rfl) (by kernel_rfl) (fun _ _ _ h => h) (Or.inl ⟨by rfl, ?hyR4c3x0⟩) (by assumption) ?restR4c3x0
      case hyR4c3x0 => (intro w hSw; (try dsimp only at hSw); go_simp; try (with_reducible rfl))
      try simp only [Act.put, List.setIfInBounds_toArray, List.set_cons_zero, List.set_cons_succ]
      refine wpAnyT_takeB (i := 1) (oi := ⟨some 13, .move (.tmp 5), _, _, _, _⟩) (v := ?vR4c3x1) rfl (by kernel_rfl) (by kernel_rfl) (by kernel_rfl) (by kernel_rfl) (fun _ _ _ h => h) (Or.inl ⟨by rfl, ?hyR4c3x1⟩) (by assumption) ?restR4c3x1
      case hyR4c3x1 => (intro w hSw; (try dsimp only at hSw); go_simp; try (with_reducible rfl))
      try simp only [Act.put, List.setIfInBounds_toArray, List.set_cons_zero, List.set_cons_succ]
      refine wpAnyT_takeB (i := 2) (oi := ⟨some 14, .indexAddr 27 (.tmp 12) (.tmp 13), _, _, _, _⟩) (v := ?vR4c3x2) rfl (by kernel_rfl) (by kernel_rfl) (by kernel_rfl) (by kernel_rfl) (fun _ _ _ h => h) (Or.inl ⟨by rfl, ?hyR4c3x2⟩) (by assumption) ?restR4c3x2
      case hyR4c3x2 => (intro w hSw; (try dsimp only at hSw); go_simp; try (with_reducible rfl))
      try simp only [Act.put, List.setIfInBounds_toArray, List.set_cons_zero, List.set_cons_succ]
      refine wpAnyT_takeB (i := 3) (oi := ⟨some 15, .fieldAddr 46 (.tmp 14) 1, _, _, _, _⟩) (v := ?vR4c3x3) rfl (by kernel_rfl) (by kernel_rfl) (by kernel_rfl) (by kernel_rfl) (fun _ _ _ h => h) (Or.inl ⟨by rfl, ?hyR4c3x3⟩) (by assumption) ?restR4c3x3
      case hyR4c3x3 => (intro w hSw; (try dsimp only at hSw); go_simp; try (with_reducible rfl))
      try simp only [Act.put, List.setIfInBounds_toArray, List.set_cons_zero, List.set_cons_succ]
      refine wpAnyT_takeB (i := 4) (oi := ⟨some 16, .load 3 (.tmp 15), _, _, _, _⟩) (v := ?vR4c3x4) rfl (by kernel_rfl) (by kernel_rfl) (by kernel_rfl) (by kernel_rfl) (fun _ _ _ h => h) (Or.inl ⟨by rfl, ?hyR4c3x4⟩) (by assumption) ?restR4c3x4
      case hyR4c3x4 => (intro w hSw; (try dsimp only at hSw); go_simp; try (with_reducible rfl))
      try simp only [Act.put, List.setIfInBounds_toArray, List.set_cons_zero, List.set_cons_succ]
      refine wpAnyT_takeB (i := 5) (oi := ⟨some 17, .binOp .lss 3 (.tmp 16) ((.const (.int .i64 0))) 3, _, _, _, _⟩) (v := ?vR4c3x5) rfl (by kernel_rfl) (by kernel_rfl) (by kernel_rfl) (by kernel_rfl) (fun _ _ _ h => h) (Or.inl ⟨by rfl, ?hyR4c3x5⟩) (by assumption) ?restR4c3x5
      case hyR4c3x5 => (intro w hSw; (try dsimp only at hSw); go_simp; try (with_reducible rfl))
      try simp only [Act.put, List.setIfInBounds_toArray, List.set_cons_zero, List.set_cons_succ]
      refine wpAnyT_takeB (i := 6) (oi := ⟨some 18, .move (.tmp 17), _, _, _, _⟩) (v := ?vR4c3x6) rfl (by kernel_rfl) (by kernel_rfl) (by kernel_rfl) (by kernel_rfl) (fun _ _ _ h => h) (Or.inl ⟨by rfl, ?hyR4c3x6⟩) (by assumption) ?restR4c3x6
      case hyR4c3x6 => (intro w hSw; (try dsimp only at hSw); go_simp; try (with_reducible rfl))
      try simp only [Act.put, List.setIfInBounds_toArray, List.set_cons_zero, List.set_cons_succ]
      refine wpAnyT_takeB (i := 7) (oi := ⟨some 19, .move (.tmp 0), _, _, _, _⟩) (v := ?vR4c3x7) rfl (by kernel_rfl) (by kernel_rfl) (by kernel_rfl) (by kernel_rfl) (fun _ _ _ h => h) (Or.inl ⟨by rfl, ?hyR4c3x7⟩) (by assumption) ?restR4c3x7
      case hyR4c3x7 => (intro w hSw; (try dsimp only at hSw); go_simp; try (with_reducible rfl))
      try simp only [Act.put, List.setIfInBounds_toArray, List.set_cons_zero, List.set_cons_succ]
      refine wpAnyT_takeB (i := 8) (oi := ⟨some 20, .move (.tmp 5), _, _, _, _⟩) (v := ?vR4c3x8) rfl (by kernel_rfl) (by kernel_rfl) (by kernel_rfl) (by kernel_rfl) (fun _ _ _ h => h) (Or.inl ⟨by rfl, ?hyR4c3x8⟩) (by assumption) ?restR4c3x8
      case hyR4c3x8 => (intro w hSw; (try dsimp only at hSw); go_simp; try (with_reducible rfl))
      try simp only [Act.put, List.setIfInBounds_toArray, List.set_cons_zero, List.set_cons_succ]
      refine wpAnyT_takeB (i := 9) (oi := ⟨some 21, .indexAddr 27 (.tmp 19) (.tmp 20), _, _, _, _⟩) (v := ?vR4c3x9) rfl (by kernel_rfl) (by kernel_rfl) (by kernel_rfl) (by kernel_rfl) (fun _ _ _ h => h) (Or.inl ⟨by rfl, ?hyR4c3x9⟩) (by assumption) ?restR4c3x9
      case hyR4c3x9 => (intro w hSw; (try dsimp only at hSw); go_simp; try (with_reducible rfl))
      try simp only [Act.put, List.setIfInBounds_toArray, List.set_cons_zero, List.set_cons_succ]
      refine wpAnyT_takeB (i := 10) (oi := ⟨some 22, .fieldAddr 46 (.tmp 21) 1, _, _, _, _⟩) (v := ?vR4c3x10) rfl (by kernel_rfl) (by kernel_rfl) (by kernel_rfl) (by kernel_rfl) (fun _ _ _ h => h) (Or.inl ⟨by rfl, ?hyR4c3x10⟩) (by assumption) ?restR4c3x10
      case hyR4c3x10 => (intro w hSw; (try dsimp only at hSw); go_simp; try (with_reducible rfl))
      try simp only [Act.put, List.setIfInBounds_toArray, List.set_cons_zero, List.set_cons_succ]
      refine wpAnyT_takeB (i := 11) (oi := ⟨some 23, .load 3 (.tmp 22), _, _, _, _⟩) (v := ?vR4c3x11) rfl (by kernel_rfl) (by kernel_rfl) (by kernel_rfl) (by kernel_rfl) (fun _ _ _ h => h) (Or.inl ⟨by rfl, ?hyR4c3x11⟩) (by assumption) ?restR4c3x11
      case hyR4c3x11 => (intro w hSw; (try dsimp only at hSw); go_simp; try (with_reducible rfl))
      try simp only [Act.put, List.setIfInBounds_toArray, List.set_cons_zero, List.set_cons_succ]
      refine wpAnyT_takeB (i := 12) (oi := ⟨some 24, .move (.tmp 1), _, _, _, _⟩) (v := ?vR4c3x12) rfl (by kernel_rfl) (by kernel_rfl) (by kernel_rfl) (by kernel_rfl) (fun _ _ _ h => h) (Or.inl ⟨by rfl, ?hyR4c3x12⟩) (by assumption) ?restR4c3x12
      case hyR4c3x12 => (intro w hSw; (try dsimp only at hSw); go_simp; try (with_reducible rfl))
      try simp only [Act.put, List.setIfInBounds_toArray, List.set_cons_zero, List.set_cons_succ]
      refine wpAnyT_takeB (i := 13) (oi := ⟨some 25, .call { callee := .builtin .len, args := #[(.tmp 24)], argTypes := #[28] }, _, _, _, _⟩) (v := ?vR4c3x13) rfl (by kernel_rfl) (by kernel_rfl) (by kernel_rfl) (by kernel_rfl) (fun _ _ _ h => h) (Or.inl ⟨by rfl, ?hyR4c3x13⟩) (by assumption) ?restR4c3x13
      case hyR4c3x13 => (intro w hSw; (try dsimp only at hSw); go_simp; try (with_reducible rfl))
      try simp only [Act.put, List.setIfInBounds_toArray, List.set_cons_zero, List.set_cons_succ]
      refine wpAnyT_takeB (i := 14) (oi := ⟨some 26, .binOp .geq 3 (.tmp 23) (.tmp 25) 3, _, _, _, _⟩) (v := ?vR4c3x14) rfl (by kernel_rfl) (by kernel_rfl) (by kernel_rfl) (by kernel_rfl) (fun _ _ _ h => h) (Or.inl ⟨by rfl, ?hyR4c3x14⟩) (by assumption) ?restR4c3x14
      case hyR4c3x14 => (intro w hSw; (try dsimp only at hSw); go_simp; try (with_reducible rfl))
      try simp only [Act.put, List.setIfInBounds_toArray, List.set_cons_zero, List.set_cons_succ]
      refine wpAnyT_takeB (i := 15) (oi := ⟨some 27, .pick (.tmp 18) ((.const (.bool true))) (.tmp 26), _, _, _, _⟩) (v := ?vR4c3x15) rfl (by kernel_rfl) (by kernel_rfl) (by kernel_rfl) (by kernel_rfl) (fun _ _ _ h => h) (Or.inl ⟨by rfl, ?hyR4c3x15⟩) (by assumption) ?restR4c3x15
      case hyR4c3x15 => (intro w hSw; (try dsimp only at hSw); go_simp; try (with_reducible rfl))
      try simp only [Act.put, List.setIfInBounds_toArray, List.set_cons_zero, List.set_cons_succ]
      refine wpAnyT_takeB (i := 16) (oi := ⟨some 28, .move (.tmp 27), _, _, _, _⟩) (v := ?vR4c3x16) rfl (by kernel_rfl) (by kernel_rfl) (by kernel_rfl) (by kernel_rfl) (fun _ _ _ h => h) (Or.inl ⟨by rfl, ?hyR4c3x16⟩) (by assumption) ?restR4c3x16
      case hyR4c3x16 => (intro w hSw; (try dsimp only at hSw); go_simp; try (with_reducible rfl))
      try simp only [Act.put, List.setIfInBounds_toArray, List.set_cons_zero, List.set_cons_succ]
      refine wpAnyT_takeB (i := 17) (oi := ⟨some 29, .move (.tmp 0), _, _, _, _⟩) (v := ?vR4c3x17) rfl (by kernel_rfl) (by kernel_rfl) (by kernel_rfl) (by kernel_rfl) (fun _ _ _ h => h) (Or.inl ⟨by rfl, ?hyR4c3x17⟩) (by assumption) ?restR4c3x17
      case hyR4c3x17 => (intro w hSw; (try dsimp only at hSw); go_simp; try (with_reducible rfl))
      try simp only [Act.put, List.setIfInBounds_toArray, List.set_cons_zero, List.set_cons_succ]
      refine wpAnyT_takeB (i := 18) (oi := ⟨some 30, .move (.tmp 5), _, _, _, _⟩) (v := ?vR4c3x18) rfl (by kernel_rfl) (by kernel_rfl) (by kernel_rfl) (by kernel_rfl) (fun _ _ _ h => h) (Or.inl ⟨by rfl, ?hyR4c3x18⟩) (by assumption) ?restR4c3x18
      case hyR4c3x18 => (intro w hSw; (try dsimp only at hSw); go_simp; try (with_reducible rfl))
      try simp only [Act.put, List.setIfInBounds_toArray, List.set_cons_zero, List.set_cons_succ]
      refine wpAnyT_takeB (i := 19) (oi := ⟨some 31, .indexAddr 27 (.tmp 29) (.tmp 30), _, _, _, _⟩) (v := ?vR4c3x19) rfl (by kernel_rfl) (by kernel_rfl) (by kernel_rfl) (by kernel_rfl) (fun _ _ _ h => h) (Or.inl ⟨by rfl, ?hyR4c3x19⟩) (by assumption) ?restR4c3x19
      case hyR4c3x19 => (intro w hSw; (try dsimp only at hSw); go_simp; try (with_reducible rfl))
      try simp only [Act.put, List.setIfInBounds_toArray, List.set_cons_zero, List.set_cons_succ]
      refine wpAnyT_takeB (i := 20) (oi := ⟨some 32, .load 46 (.tmp 31), _, _, _, _⟩) (v := ?vR4c3x20) rfl (by kernel_rfl) (by kernel_rfl) (by kernel_rfl) (by kernel_rfl) (fun _ _ _ h => h) (Or.inl ⟨by rfl, ?hyR4c3x20⟩) (by assumption) ?restR4c3x20
      case hyR4c3x20 => (intro w hSw; (try dsimp only at hSw); go_simp; try (with_reducible rfl))
      try simp only [Act.put, List.setIfInBounds_toArray, List.set_cons_zero, List.set_cons_succ]
      refine wpAnyT_takeB (i := 21) (oi := ⟨some 33, .move (.tmp 0), _, _, _, _⟩) (v := ?vR4c3x21) rfl (by kernel_rfl) (by kernel_rfl) (by kernel_rfl) (by kernel_rfl) (fun _ _ _ h => h) (Or.inl ⟨by rfl, ?hyR4c3x21⟩) (by assumption) ?restR4c3x21
      case hyR4c3x21 => (intro w hSw; (try dsimp only at hSw); go_simp; try (with_reducible rfl))
      try simp only [Act.put, List.setIfInBounds_toArray, List.set_cons_zero, List.set_cons_succ]
      refine wpAnyT_takeB (i := 22) (oi := ⟨some 34, .move (.tmp 5), _, _, _, _⟩) (v := ?vR4c3x22) rfl (by kernel_rfl) (by kernel_rfl) (by kernel_rfl) (by kernel_rfl) (fun _ _ _ h => h) (Or.inl ⟨by rfl, ?hyR4c3x22⟩) (by assumption) ?restR4c3x22
      case hyR4c3x22 => (intro w hSw; (try dsimp only at hSw); go_simp; try (with_reducible rfl))
      try simp only [Act.put, List.setIfInBounds_toArray, List.set_cons_zero, List.set_cons_succ]
      refine wpAnyT_takeB (i := 23) (oi := ⟨some 35, .indexAddr 27 (.tmp 33) (.tmp 34), _, _, _, _⟩) (v := ?vR4c3x23) rfl (by kernel_rfl) (by kernel_rfl) (by kernel_rfl) (by kernel_rfl) (fun _ _ _ h => h) (Or.inl ⟨by rfl, ?hyR4c3x23⟩) (by assumption) ?restR4c3x23
      case hyR4c3x23 => (intro w hSw; (try dsimp only at hSw); go_simp; try (with_reducible rfl))
      try simp only [Act.put, List.setIfInBounds_toArray, List.set_cons_zero, List.set_cons_succ]
      refine wpAnyT_takeB (i := 24) (oi := ⟨some 36, .fieldAddr 46 (.tmp 35) 1, _, _, _, _⟩) (v := ?vR4c3x24) rfl (by kernel_rfl) (by kernel_rfl) (by kernel_rfl) (by kernel_rfl) (fun _ _ _ h => h) (Or.inl ⟨by rfl, ?hyR4c3x24⟩) (by assumption) ?restR4c3x24
      case hyR4c3x24 => (intro w hSw; (try dsimp only at hSw); go_simp; try (with_reducible rfl))
      try simp only [Act.put, List.setIfInBounds_toArray, List.set_cons_zero, List.set_cons_succ]
      refine wpAnyT_takeB (i := 25) (oi := ⟨some 37, .load 3 (.tmp 36), _, _, _, _⟩) (v := ?vR4c3x25) rfl (by kernel_rfl) (by kernel_rfl) (by kernel_rfl) (by kernel_rfl) (fun _ _ _ h => h) (Or.inl ⟨by rfl, ?hyR4c3x25⟩) (by assumption) ?restR4c3x25
      case hyR4c3x25 => (intro w hSw; (try dsimp only at hSw); go_simp; try (with_reducible rfl))
      try simp only [Act.put, List.setIfInBounds_toArray, List.set_cons_zero, List.set_cons_succ]
      refine wpAnyT_takeB (i := 26) (oi := ⟨some 38, .move (.tmp 1), _, _, _, _⟩) (v := ?vR4c3x26) rfl (by kernel_rfl) (by kernel_rfl) (by kernel_rfl) (by kernel_rfl) (fun _ _ _ h => h) (Or.inl ⟨by rfl, ?hyR4c3x26⟩) (by assumption) ?restR4c3x26
      case hyR4c3x26 => (intro w hSw; (try dsimp only at hSw); go_simp; try (with_reducible rfl))
      try simp only [Act.put, List.setIfInBounds_toArray, List.set_cons_zero, List.set_cons_succ]
      refine wpAnyT_takeB (i := 27) (oi := ⟨some 39, .move (.tmp 0), _, _, _, _⟩) (v := ?vR4c3x27) rfl (by kernel_rfl) (by kernel_rfl) (by kernel_rfl) (by kernel_rfl) (fun _ _ _ h => h) (Or.inl ⟨by rfl, ?hyR4c3x27⟩) (by assumption) ?restR4c3x27
      case hyR4c3x27 => (intro w hSw; (try dsimp only at hSw); go_simp; try (with_reducible rfl))
      try simp only [Act.put, List.setIfInBounds_toArray, List.set_cons_zero, List.set_cons_succ]
      refine wpAnyT_takeB (i := 28) (oi := ⟨some 40, .move (.tmp 5), _, _, _, _⟩) (v := ?vR4c3x28) rfl (by kernel_rfl) (by kernel_rfl) (by kernel_rfl) (by kernel_rfl) (fun _ _ _ h => h) (Or.inl ⟨by rfl, ?hyR4c3x28⟩) (by assumption) ?restR4c3x28
      case hyR4c3x28 => (intro w hSw; (try dsimp only at hSw); go_simp; try (with_reducible rfl))
      try simp only [Act.put, List.setIfInBounds_toArray, List.set_cons_zero, List.set_cons_succ]
      refine wpAnyT_takeB (i := 29) (oi := ⟨some 41, .indexAddr 27 (.tmp 39) (.tmp 40), _, _, _, _⟩) (v := ?vR4c3x29) rfl (by kernel_rfl) (by kernel_rfl) (by kernel_rfl) (by kernel_rfl) (fun _ _ _ h => h) (Or.inl ⟨by rfl, ?hyR4c3x29⟩) (by assumption) ?restR4c3x29
      case hyR4c3x29 => (intro w hSw; (try dsimp only at hSw); go_simp; try (with_reducible rfl))
      try simp only [Act.put, List.setIfInBounds_toArray, List.set_cons_zero, List.set_cons_succ]
      refine wpAnyT_takeB (i := 30) (oi := ⟨some 42, .fieldAddr 46 (.tmp 41) 1, _, _, _, _⟩) (v := ?vR4c3x30) rfl (by kernel_rfl) (by kernel_rfl) (by kernel_rfl) (by kernel_rfl) (fun _ _ _ h => h) (Or.inl ⟨by rfl, ?hyR4c3x30⟩) (by assumption) ?restR4c3x30
      case hyR4c3x30 => (intro w hSw; (try dsimp only at hSw); go_simp; try (with_reducible rfl))
      try simp only [Act.put, List.setIfInBounds_toArray, List.set_cons_zero, List.set_cons_succ]
      refine wpAnyT_takeB (i := 31) (oi := ⟨some 43, .load 3 (.tmp 42), _, _, _, _⟩) (v := ?vR4c3x31) rfl (by kernel_rfl) (by kernel_rfl) (by kernel_rfl) (by kernel_rfl) (fun _ _ _ h => h) (Or.inl ⟨by rfl, ?hyR4c3x31⟩) (by assumption) ?restR4c3x31
      case hyR4c3x31 => (intro w hSw; (try dsimp only at hSw); go_simp; try (with_reducible rfl))
      try simp only [Act.put, List.setIfInBounds_toArray, List.set_cons_zero, List.set_cons_succ]
      refine wpAnyT_takeB (i := 32) (oi := ⟨some 44, .indexAddr 28 (.tmp 38) (.tmp 43), _, _, _, _⟩) (v := ?vR4c3x32) rfl (by kernel_rfl) (by kernel_rfl) (by kernel_rfl) (by kernel_rfl) (fun _ _ _ h => h) (Or.inl ⟨by rfl, ?hyR4c3x32⟩) (by assumption) ?restR4c3x32
      case hyR4c3x32 => (intro w hSw; (try dsimp only at hSw); go_simp; try (with_reducible rfl))
      try simp only [Act.put, List.setIfInBounds_toArray, List.set_cons_zero, List.set_cons_succ]
      refine wpAnyT_takeB (i := 33) (oi := ⟨some 45, .load 3 (.tmp 44), _, _, _, _⟩) (v := ?vR4c3x33) rfl (by kernel_rfl) (by kernel_rfl) (by kernel_rfl) (by kernel_rfl) (fun _ _ _ h => h) (Or.inl ⟨by rfl, ?hyR4c3x33⟩) (by assumption) ?restR4c3x33
      case hyR4c3x33 => (intro w hSw; (try dsimp only at hSw); go_simp; try (with_reducible rfl))
      try simp only [Act.put, List.setIfInBounds_toArray, List.set_cons_zero, List.set_cons_succ]
      refine wpAnyT_one (i := 34) (o := ⟨some 46, .call { callee := .value (.func 34), args := #[(.tmp 32), (.tmp 37), (.tmp 45)], argTypes := #[46, 3, 3] }, _, _, _, _⟩) (by kernel_rfl) rfl (fun K hK => ?_)
      go_simp
      refine calls_at (HSk'.out _) (by with_reducible rfl) (by with_reducible rfl) ?_
      rintro e w4 ⟨rfl, hb4⟩
      go_wp2_with fail
      have HB4 : Hid (Below wr.heap.size wr w4) := (Below.refl _ _).drew.trans hb4
      clear hb4 hHeld
      have hHeld := (⟨HG.out _ HB4.out, trivial⟩ : _ ∧ True)
      refine hK.out _ _ ⟨hHeld.1, fun _ => trivial⟩ ?_
      clear hK K
      refine wpAnyT_takeB (i := 35) (oi := ⟨some 47, .unOp .not 4 (.tmp 46), _, _, _, _⟩) (v := ?vR4c3x35) rfl (by kernel_rfl) (by kernel_rfl) (by kernel_rfl) (by kernel_rfl) (fun _ _ _ h => h) (Or.inl ⟨by rfl, ?hyR4c3x35⟩) (by assumption) ?restR4c3x35
      case hyR4c3x35 => (intro w hSw; (try dsimp only at hSw); go_simp; try (with_reducible rfl))
      try simp only [Act.put, List.setIfInBounds_toArray, List.set_cons_zero, List.set_cons_succ]
      refine wpAnyT_takeB (i := 36) (oi := ⟨some 48, .pick (.tmp 28) ((.const (.bool true))) (.tmp 47), _, _, _, _⟩) (v := ?vR4c3x36) rfl (by kernel_rfl) (by kernel_rfl) (by kernel_rfl) (by kernel_rfl) (fun _ _ _ h => h) (Or.inl ⟨by rfl, ?hyR4c3x36⟩) (by assumption) ?restR4c3x36
      case hyR4c3x36 => (intro w hSw; (try dsimp only at hSw); go_simp; try (with_reducible rfl))
      try simp only [Act.put, List.setIfInBounds_toArray, List.set_cons_zero, List.set_cons_succ]
      refine wpAnyT_done (by kernel_rfl) ?_ _
      cases r with
      | false =>
        have HZ2 : Hid (leftB L ins = false) := HZ.out rfl
        go_wp2_with fail
        go_ret
        exact ⟨ret_bool (by rw [HZ2.out]), bl_next HBr.out HB4.out⟩
      | true =>
        go_wp2_with fail
        go_roundw
        case rel => exact ⟨k + 1, by go_num, hkn, HN, bl_next HBr.out HB4.out⟩
        case measure => simp [intOf]; omega
  · have hke : k = L.length := by omega
    subst hke
    have hkI : ¬ (L.length : Int) < (L.length : Int) := by omega
    have HT2 : Hid (leftB L ins = true) := by have := HT.out; rw [List.take_length] at this; exact this
    go_wp2_with fail
    go_ret
    exact ⟨ret_bool (by rw [HT2.out]), HBr.out⟩
end Go.Proofs.YtlcegpnnanhloaaGreatDoor
