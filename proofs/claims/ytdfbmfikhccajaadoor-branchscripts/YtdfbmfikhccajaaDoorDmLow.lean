/-
  Package dom: size, lowest, highest, only.
-/
import Derived.Test.YtdfbmfikhccajaaDoorDmOnes
namespace Go.Proofs.YtdfbmfikhccajaaDoor
open Go.RowKit

/-- A word. -/
def IsW (a : Int) : Prop := 0 ≤ a ∧ a < 4294967296
theorem isW_bits (op : BinOp) (a b : Int) : IsW (bits op .u32 a b) := by
  unfold bits IsW
  simp only [IntKind.wrap_u32']
  omega
theorem isW_fWd (k i : Int) : IsW (fWd k i) := by unfold fWd IsW; omega

def bSize (a b : Int) : Int := ones a + ones b
def bLow (a b : Int) : Int := if a ≠ 0 then ntz a else if b ≠ 0 then 32 + ntz b else 64
def bHigh (a b : Int) : Int := if b ≠ 0 then 32 + (Lib.bitLen b.toNat : Int) - 1 else if a ≠ 0 then (Lib.bitLen a.toNat : Int) - 1 else -1

set_option maxRecDepth 10000 in
set_option maxHeartbeats 400000 in
theorem size_any (a b : Int) (w : World) (ha : IsW a) (hb : IsW b) : Calls Tryd.prog 44 #[btVal a b] w fun e w' => e = .returned (.int .i64 (bSize a b)) ∧ Below w.heap.size w w' := by
  have i0 := index2_0
  have i1 := index2_1
  have oa := ones_lo a ha.1 ha.2
  have ob := ones_lo b hb.1 hb.2
  unfold btVal
  obtain ⟨W, hW⟩ : ∃ W, w.alloc (.cells #[.int .u32 a, .int .u32 b] 59) = W := ⟨_, rfl⟩
  have hb0 : Below w.heap.size w W := by rw [← hW]; exact (Below.refl _ _).alloc (Nat.le_refl _) _
  have HB : Hid (Below w.heap.size w W) := hb0
  have g0 : W.heap[w.heap.size]? = some (.cells #[.int .u32 a, .int .u32 b] 59 (0, 0)) := by rw [← hW]; exact heap_alloc_new w _
  have c0 : W.cell? ⟨w.heap.size, 0, none⟩ = some (.int .u32 a) := cell_of g0 0
  have c1 : W.cell? ⟨w.heap.size, 1, none⟩ = some (.int .u32 b) := cell_of g0 1
  have HA : Hid (∀ w', Calls Tryd.prog 59 #[.int .u32 a] w' fun e w2 => e = .returned (.int .i64 (ones a)) ∧ Below w'.heap.size w' w2) := fun w' => ones32_any a w' ha.1 ha.2
  have HC : Hid (∀ w', Calls Tryd.prog 59 #[.int .u32 b] w' fun e w2 => e = .returned (.int .i64 (ones b)) ∧ Below w'.heap.size w' w2) := fun w' => ones32_any b w' hb.1 hb.2
  clear hb0 g0 ha hb
  go_enter Tryd.func44, Tryd.ntmps44
  go_wp2_with fail
  go_loopw [3, 7] (fun nv iv wr => ∃ (k : Nat) (n : Int), iv = .int .i64 (k : Int) ∧ nv = .int .i64 n ∧ Hid (Below w.heap.size w wr) ∧ ((k = 0 ∧ n = 0) ∨ (k = 1 ∧ n = ones a) ∨ (k = 2 ∧ n = ones a + ones b))) (fun _ iv _ => 2 - (intOf iv).toNat)
  case atStart => exact ⟨0, 0, rfl, rfl, HB, .inl ⟨rfl, rfl⟩⟩
  case round =>
    obtain ⟨k, n, rfl, rfl, HBr, hk⟩ := hrel
    rcases hk with ⟨rfl, rfl⟩ | ⟨rfl, rfl⟩ | ⟨rfl, rfl⟩
    · go_wp2_with fail
      refine calls_at (HA.out _) (by with_reducible rfl) (by with_reducible rfl) ?_
      rintro e w1 ⟨rfl, hb1⟩
      have HB1 : Hid (Below w.heap.size w w1) := HBr.out.trans (hb1.mono HBr.out.size)
      clear hb1
      go_wp2_with fail
      go_roundw
      case rel => exact ⟨1, ones a, rfl, rfl, HB1, .inr (.inl ⟨rfl, rfl⟩)⟩
      case measure => simp [intOf]
    · go_wp2_with fail
      refine calls_at (HC.out _) (by with_reducible rfl) (by with_reducible rfl) ?_
      rintro e w1 ⟨rfl, hb1⟩
      have HB1 : Hid (Below w.heap.size w w1) := HBr.out.trans (hb1.mono HBr.out.size)
      clear hb1
      go_wp2_with fail
      go_roundw
      case rel => exact ⟨2, ones a + ones b, rfl, rfl, HB1, .inr (.inr ⟨rfl, rfl⟩)⟩
      case measure => simp [intOf]
    · go_wp2_with fail
      go_ret
      exact ⟨rfl, HBr.out⟩

theorem bitLen_lo (a : Nat) : Lib.bitLen a ≤ 64 := by
  have : ∀ f x, Lib.bitLenAux f x ≤ f := by
    intro f
    induction f with
    | zero => intro x; simp [Lib.bitLenAux]
    | succ f ih => intro x; unfold Lib.bitLenAux; split
                   · omega
                   · have := ih (x / 2); omega
  exact this 64 a
theorem bLow_lo (a b : Int) : 0 ≤ bLow a b ∧ bLow a b ≤ 64 := by
  have := ntz_lo a
  have := ntz_lo b
  unfold bLow
  split
  · omega
  · split <;> omega
theorem bHigh_lo (a b : Int) : -1 ≤ bHigh a b ∧ bHigh a b ≤ 95 := by
  have := bitLen_lo a.toNat
  have := bitLen_lo b.toNat
  unfold bHigh
  split
  · omega
  · split <;> omega

set_option maxRecDepth 10000 in
set_option maxHeartbeats 400000 in
theorem lowest_any (a b : Int) (w : World) (ha : IsW a) (hb : IsW b) (hT : Tz w) (h0 : 0 < w.heap.size) : Calls Tryd.prog 46 #[btVal a b] w fun e w' => e = .returned (.int .i64 (bLow a b)) ∧ Below w.heap.size w w' := by
  have i0 := index2_0
  have i1 := index2_1
  have la := ntz_lo a
  have lb := ntz_lo b
  unfold btVal
  obtain ⟨W, hW⟩ : ∃ W, w.alloc (.cells #[.int .u32 a, .int .u32 b] 59) = W := ⟨_, rfl⟩
  have hb0 : Below w.heap.size w W := by rw [← hW]; exact (Below.refl _ _).alloc (Nat.le_refl _) _
  have HB : Hid (Below w.heap.size w W) := hb0
  have g0 : W.heap[w.heap.size]? = some (.cells #[.int .u32 a, .int .u32 b] 59 (0, 0)) := by rw [← hW]; exact heap_alloc_new w _
  have c0 : W.cell? ⟨w.heap.size, 0, none⟩ = some (.int .u32 a) := cell_of g0 0
  have c1 : W.cell? ⟨w.heap.size, 1, none⟩ = some (.int .u32 b) := cell_of g0 1
  have HA : Hid (Calls Tryd.prog 61 #[.int .u32 a] W fun e w2 => e = .returned (.int .i64 (ntz a)) ∧ Below W.heap.size W w2) := ntz32_any a W ha.1 ha.2 (hT.below hb0 h0)
  have HC : Hid (Calls Tryd.prog 61 #[.int .u32 b] W fun e w2 => e = .returned (.int .i64 (ntz b)) ∧ Below W.heap.size W w2) := ntz32_any b W hb.1 hb.2 (hT.below hb0 h0)
  clear hb0 g0 ha hb hT
  go_enter Tryd.func46, Tryd.ntmps46
  go_wp2_with fail
  go_loopw [6] (fun iv wr => ∃ (k : Nat), iv = .int .i64 (k : Int) ∧ wr = W ∧ ((k = 0) ∨ (k = 1 ∧ Hid (a = 0)) ∨ (k = 2 ∧ Hid (a = 0) ∧ Hid (b = 0)))) (fun iv _ => 2 - (intOf iv).toNat)
  case atStart => exact ⟨0, rfl, rfl, .inl rfl⟩
  case round =>
    obtain ⟨k, rfl, rfl, hk⟩ := hrel
    rcases hk with rfl | ⟨rfl, ha⟩ | ⟨rfl, ha, hb⟩
    · by_cases hz : a = 0
      · have HZ : Hid (a = 0) := hz
        have e : (a == 0) = true := by simp [hz]
        clear hz
        go_wp2_with fail
        go_roundw
        case rel => exact ⟨1, rfl, by trivial, .inr (.inl ⟨rfl, HZ⟩)⟩
        case measure => simp [intOf]
      · have HZ : Hid (a ≠ 0) := hz
        have e : (a == 0) = false := by simp [hz]
        clear hz
        go_wp2_with fail
        refine calls_at HA.out (by with_reducible rfl) (by with_reducible rfl) ?_
        rintro e w1 ⟨rfl, hb1⟩
        have HB1 : Hid (Below w.heap.size w w1) := HB.out.trans (hb1.mono HB.out.size)
        clear hb1
        go_wp2_with fail
        go_ret
        exact ⟨ret_int (by unfold bLow; rw [if_pos HZ.out]), HB1.out⟩
    · by_cases hz : b = 0
      · have HZ : Hid (b = 0) := hz
        have e : (b == 0) = true := by simp [hz]
        clear hz
        go_wp2_with fail
        go_roundw
        case rel => exact ⟨2, rfl, by trivial, .inr (.inr ⟨rfl, ha, HZ⟩)⟩
        case measure => simp [intOf]
      · have HZ : Hid (b ≠ 0) := hz
        have e : (b == 0) = false := by simp [hz]
        clear hz
        go_wp2_with fail
        refine calls_at HC.out (by with_reducible rfl) (by with_reducible rfl) ?_
        rintro e w1 ⟨rfl, hb1⟩
        have HB1 : Hid (Below w.heap.size w w1) := HB.out.trans (hb1.mono HB.out.size)
        clear hb1
        go_wp2_with fail
        go_ret
        exact ⟨ret_int (by unfold bLow; rw [if_neg (by rw [ha.out]; simp), if_pos HZ.out]), HB1.out⟩
    · go_wp2_with fail
      go_ret
      exact ⟨ret_int (by unfold bLow; rw [if_neg (by rw [ha.out]; simp), if_neg (by rw [hb.out]; simp)]), HB.out⟩

set_option maxRecDepth 10000 in
set_option maxHeartbeats 400000 in
theorem highest_any (a b : Int) (w : World) (ha : IsW a) (hb : IsW b) : Calls Tryd.prog 45 #[btVal a b] w fun e w' => e = .returned (.int .i64 (bHigh a b)) ∧ Below w.heap.size w w' := by
  have la := bitLen_lo a.toNat
  have lb := bitLen_lo b.toNat
  unfold btVal
  obtain ⟨W, hW⟩ : ∃ W, w.alloc (.cells #[.int .u32 a, .int .u32 b] 59) = W := ⟨_, rfl⟩
  have hb0 : Below w.heap.size w W := by rw [← hW]; exact (Below.refl _ _).alloc (Nat.le_refl _) _
  have HB : Hid (Below w.heap.size w W) := hb0
  have g0 : W.heap[w.heap.size]? = some (.cells #[.int .u32 a, .int .u32 b] 59 (0, 0)) := by rw [← hW]; exact heap_alloc_new w _
  have c0 : W.cell? ⟨w.heap.size, 0, none⟩ = some (.int .u32 a) := cell_of g0 0
  have c1 : W.cell? ⟨w.heap.size, 1, none⟩ = some (.int .u32 b) := cell_of g0 1
  have HA : Hid (Calls Tryd.prog 60 #[.int .u32 a] W fun e w2 => e = .returned (.int .i64 (Lib.bitLen a.toNat)) ∧ w2 = W) := Tryd.bits_Len32 a W ha.1 (by have := ha.2; omega)
  have HC : Hid (Calls Tryd.prog 60 #[.int .u32 b] W fun e w2 => e = .returned (.int .i64 (Lib.bitLen b.toNat)) ∧ w2 = W) := Tryd.bits_Len32 b W hb.1 (by have := hb.2; omega)
  clear hb0 g0 ha hb
  go_enter Tryd.func45, Tryd.ntmps45
  go_wp2_with fail
  go_loop [3] (fun iv => ∃ (k : Int), iv = .int .i64 k ∧ ((k = 1) ∨ (k = 0 ∧ Hid (b = 0)) ∨ (k = -1 ∧ Hid (b = 0) ∧ Hid (a = 0)))) (fun iv => (intOf iv + 1).toNat)
  case atStart => exact ⟨1, rfl, .inl rfl⟩
  case round =>
    obtain ⟨k, rfl, hk⟩ := hrel
    rcases hk with rfl | ⟨rfl, ha⟩ | ⟨rfl, ha, hb⟩
    · by_cases hz : b = 0
      · have HZ : Hid (b = 0) := hz
        have e : (b == 0) = true := by simp [hz]
        clear hz
        go_wp2_with fail
        go_round
        case rel => exact ⟨0, rfl, .inr (.inl ⟨rfl, HZ⟩)⟩
        case measure => simp [intOf]
      · have HZ : Hid (b ≠ 0) := hz
        have e : (b == 0) = false := by simp [hz]
        clear hz
        go_wp2_with fail
        refine calls_at HC.out (by with_reducible rfl) (by with_reducible rfl) ?_
        rintro e w1 ⟨rfl, rfl⟩
        go_wp2_with fail
        go_ret
        exact ⟨ret_int (by unfold bHigh; rw [if_pos HZ.out]), HB.out⟩
    · by_cases hz : a = 0
      · have HZ : Hid (a = 0) := hz
        have e : (a == 0) = true := by simp [hz]
        clear hz
        go_wp2_with fail
        go_round
        case rel => exact ⟨-1, rfl, .inr (.inr ⟨rfl, ha, HZ⟩)⟩
        case measure => simp [intOf]
      · have HZ : Hid (a ≠ 0) := hz
        have e : (a == 0) = false := by simp [hz]
        clear hz
        go_wp2_with fail
        refine calls_at HA.out (by with_reducible rfl) (by with_reducible rfl) ?_
        rintro e w1 ⟨rfl, rfl⟩
        go_wp2_with fail
        go_ret
        exact ⟨ret_int (by unfold bHigh; rw [if_neg (by rw [ha.out]; simp), if_pos HZ.out]), HB.out⟩
    · go_wp2_with fail
      go_ret
      exact ⟨ret_int (by unfold bHigh; rw [if_neg (by rw [ha.out]; simp), if_neg (by rw [hb.out]; simp)]), HB.out⟩
end Go.Proofs.YtdfbmfikhccajaaDoor
