/-
  Put together: DmOnes, DmLow.
-/
import Derived.Test.YtdfbmfikhccajaaGreatDoorShelf
import Derived.Test.YtdfbmfikhccajaaGreatDoorJ04
import Derived.Lib.BitFns
import Derived.Laws.BitsAllLaws
import Derived.BigQuiet
namespace Go.Proofs.YtdfbmfikhccajaaGreatDoor
open Go.RowKit

theorem low8 (x : Int) (h0 : 0 ≤ x) (h1 : x < 4294967296) : bits .and .u32 x 255 = x % 256 := by
  rw [u32_and x 255 h0 h1 (by decide) (by decide)]
  have : x.toNat &&& (255 : Int).toNat = x.toNat % 256 := Nat.and_two_pow_sub_one_eq_mod x.toNat 8
  rw [this]
  omega
/-- How many places are there in a byte, and in a word. -/
def ones (a : Int) : Int := Lib.pop8 (a / 16777216) + Lib.pop8 (a / 65536 % 256) + Lib.pop8 (a / 256 % 256) + Lib.pop8 (a % 256)
theorem pop_lo (x : Int) (h0 : 0 ≤ x) (h1 : x < 256) : 0 ≤ Lib.pop8 x ∧ Lib.pop8 x ≤ 8 := by
  have e := Lib.pop8_eq ⟨x.toNat, by omega⟩
  have l := Lib.onesCount_le8 ⟨x.toNat, by omega⟩
  simp only [Int.toNat_of_nonneg h0] at e l
  omega
theorem ones_lo (a : Int) (h0 : 0 ≤ a) (h1 : a < 4294967296) : 0 ≤ ones a ∧ ones a ≤ 32 := by
  have a1 := pop_lo (a / 16777216) (by omega) (by omega)
  have a2 := pop_lo (a / 65536 % 256) (by omega) (by omega)
  have a3 := pop_lo (a / 256 % 256) (by omega) (by omega)
  have a4 := pop_lo (a % 256) (by omega) (by omega)
  unfold ones
  omega

theorem pop_get (x : Int) (h0 : 0 ≤ x) (h1 : x < (Lib.pop8tab.size : Int)) : Lib.pop8 x = (((Lib.pop8tab[x.toNat]'(by omega)).toNat : Nat) : Int) := by
  unfold Lib.pop8
  rw [getElem?_pos _ _ (by omega)]
  rfl
set_option maxRecDepth 10000 in
set_option maxHeartbeats 400000 in
theorem ones32_any (a : Int) (w : World) (h0 : 0 ≤ a) (h1 : a < 4294967296) : Calls Tryz.prog 47 #[.int .u32 a] w fun e w' => e = .returned (.int .i64 (ones a)) ∧ Below w.heap.size w w' := by
  have e2 := low8 (a / 65536) (by omega) (by omega)
  have e3 := low8 (a / 256) (by omega) (by omega)
  have e4 := low8 a h0 h1
  have s8 : ∀ x : Int, x < 256 → x < (Lib.pop8tab.size : Int) := fun x h => by rw [Lib.pop8tab_size]; exact h
  have l1 : 0 ≤ a / 16777216 := by omega
  have r1 : a / 16777216 < (Lib.pop8tab.size : Int) := s8 _ (by omega)
  have l2 : 0 ≤ a / 65536 % 256 := by omega
  have r2 : a / 65536 % 256 < (Lib.pop8tab.size : Int) := s8 _ (by omega)
  have l3 : 0 ≤ a / 256 % 256 := by omega
  have r3 : a / 256 % 256 < (Lib.pop8tab.size : Int) := s8 _ (by omega)
  have l4 : 0 ≤ a % 256 := by omega
  have r4 : a % 256 < (Lib.pop8tab.size : Int) := s8 _ (by omega)
  clear s8
  go_enter Tryz.func47, Tryz.ntmps47
  go_wp2_with fail
  go_region
  go_wp2
  go_ret
  refine ⟨ret_int ?_, (Below.refl _ _).drew⟩
  have hb := ones_lo a h0 h1
  have e1 := pop_get (a / 16777216) l1 r1
  unfold ones at hb ⊢
  rw [← e1]
  omega

/-- The place of the lowest one: a table, by a product. -/
def deB : List Int := [0, 1, 28, 2, 29, 14, 24, 3, 30, 22, 20, 15, 25, 17, 4, 8, 31, 27, 13, 23, 21, 19, 16, 7, 26, 12, 18, 6, 11, 5, 10, 9]
def ntzI (a : Int) : Int := bits .and .u32 a (4294967296 - a) * 125613361 % 4294967296 / 134217728
def ntz (a : Int) : Int := if a = 0 then 32 else deB.getD (ntzI a).toNat 0
/-- The table lies there. -/
def Tz (w : World) : Prop := ∀ j : Nat, j < 32 → w.cell? ⟨0, j, none⟩ = some (.int .u8 (deB.getD j 0))
theorem Tz.below {B : Nat} {w w' : World} (h : Tz w) (hb : Below B w w') (h0 : 0 < B) : Tz w' := fun j hj => (hb.cell (p := ⟨0, j, none⟩) h0).trans (h j hj)
theorem ntzI_lo (a : Int) : 0 ≤ ntzI a ∧ ntzI a < 32 := by unfold ntzI; omega
theorem deB_lo : ∀ j : Fin 32, 0 ≤ deB.getD j.val 0 ∧ deB.getD j.val 0 ≤ 31 := by decide
theorem ntz_lo (a : Int) : 0 ≤ ntz a ∧ ntz a ≤ 32 := by
  unfold ntz
  split
  · omega
  · have h := ntzI_lo a
    have := deB_lo ⟨(ntzI a).toNat, by omega⟩
    simp only at this
    omega

set_option maxRecDepth 10000 in
set_option maxHeartbeats 400000 in
theorem ntz32_any (a : Int) (w : World) (h0 : 0 ≤ a) (h1 : a < 4294967296) (hT : Tz w) : Calls Tryz.prog 60 #[.int .u32 a] w fun e w' => e = .returned (.int .i64 (ntz a)) ∧ Below w.heap.size w w' := by
  by_cases ha : a = 0
  · subst ha
    clear hT
    go_enter Tryz.func60, Tryz.ntmps60
    go_wp2
    go_ret
    exact ⟨rfl, Below.refl _ _⟩
  · have e : (a == 0) = false := by simp [ha]
    have en : -a % 4294967296 = 4294967296 - a := by omega
    have hi := ntzI_lo a
    have hc := hT (ntzI a).toNat (by omega)
    have HN : Hid (ntz a = deB.getD (ntzI a).toNat 0) := by show _ = _; unfold ntz; rw [if_neg ha]
    have hl := ntz_lo a
    rw [HN.out] at hl
    unfold ntzI at *
    go_enter Tryz.func60, Tryz.ntmps60
    go_wp2
    go_ret
    refine ⟨ret_int ?_, Below.refl _ _⟩
    rw [HN.out]
    rw [List.getD_eq_getElem?_getD] at hl ⊢
    unfold wrap64
    omega
end Go.Proofs.YtdfbmfikhccajaaGreatDoor

namespace Go.Proofs.YtdfbmfikhccajaaGreatDoor
open Go.RowKit

/-- A word. -/
def IsW (a : Int) : Prop := 0 ≤ a ∧ a < 4294967296
theorem isW_bits (op : BinOp) (a b : Int) : IsW (bits op .u32 a b) := by
  unfold bits IsW
  simp only [IntKind.wrap_u32']
  omega
theorem isW_fWd (k i : Int) : IsW (fWd k i) := by unfold fWd IsW; omega

def bSize (a b : Int) : Int := ones a + ones b
def bLow (a b : Int) : Int := if a ≠ 0 then ntz a else if b ≠ 0 then 32 + ntz b else 64
def bHigh (a b : Int) : Int := if b ≠ 0 then 32 + (Lib.bitLen b.toNat : Int) - 1 else if a ≠ 0 then (Lib.bitLen a.toNat : Int) - 1 else -1

set_option maxRecDepth 10000 in
set_option maxHeartbeats 400000 in
theorem size_any (a b : Int) (w : World) (ha : IsW a) (hb : IsW b) : Calls Tryz.prog 31 #[btVal a b] w fun e w' => e = .returned (.int .i64 (bSize a b)) ∧ Below w.heap.size w w' := by
  have i0 := index2_0
  have i1 := index2_1
  have oa := ones_lo a ha.1 ha.2
  have ob := ones_lo b hb.1 hb.2
  unfold btVal
  obtain ⟨W, hW⟩ : ∃ W, w.alloc (.cells #[.int .u32 a, .int .u32 b] 71) = W := ⟨_, rfl⟩
  have hb0 : Below w.heap.size w W := by rw [← hW]; exact (Below.refl _ _).alloc (Nat.le_refl _) _
  have HB : Hid (Below w.heap.size w W) := hb0
  have g0 : W.heap[w.heap.size]? = some (.cells #[.int .u32 a, .int .u32 b] 71 (0, 0)) := by rw [← hW]; exact heap_alloc_new w _
  have c0 : W.cell? ⟨w.heap.size, 0, none⟩ = some (.int .u32 a) := cell_of g0 0
  have c1 : W.cell? ⟨w.heap.size, 1, none⟩ = some (.int .u32 b) := cell_of g0 1
  have HA : Hid (∀ w', Calls Tryz.prog 47 #[.int .u32 a] w' fun e w2 => e = .returned (.int .i64 (ones a)) ∧ Below w'.heap.size w' w2) := fun w' => ones32_any a w' ha.1 ha.2
  have HC : Hid (∀ w', Calls Tryz.prog 47 #[.int .u32 b] w' fun e w2 => e = .returned (.int .i64 (ones b)) ∧ Below w'.heap.size w' w2) := fun w' => ones32_any b w' hb.1 hb.2
  clear hb0 g0 ha hb
  go_enter Tryz.func31, Tryz.ntmps31
  go_wp2_with fail
  go_loopw [3, 7] (fun nv iv wr => ∃ (k : Nat) (n : Int), iv = .int .i64 (k : Int) ∧ nv = .int .i64 n ∧ Hid (Below w.heap.size w wr) ∧ ((k = 0 ∧ n = 0) ∨ (k = 1 ∧ n = ones a) ∨ (k = 2 ∧ n = ones a + ones b))) (fun _ iv _ => 2 - (intOf iv).toNat)
  case atStart => exact ⟨0, 0, rfl, rfl, HB, .inl ⟨rfl, rfl⟩⟩
  case round =>
    obtain ⟨k, n, rfl, rfl, HBr, hk⟩ := hrel
    rcases hk with ⟨rfl, rfl⟩ | ⟨rfl, rfl⟩ | ⟨rfl, rfl⟩
    · go_wp2_with fail
      refine calls_at (HA.out _) (by with_reducible rfl) (by with_reducible rfl) ?_
      rintro e w1 ⟨rfl, hb1⟩
      have HB1 : Hid (Below w.heap.size w w1) := HBr.out.trans (hb1.mono HBr.out.size)
      clear hb1
      go_wp2_with fail
      go_roundw
      case rel => exact ⟨1, ones a, rfl, rfl, HB1, .inr (.inl ⟨rfl, rfl⟩)⟩
      case measure => simp [intOf]
    · go_wp2_with fail
      refine calls_at (HC.out _) (by with_reducible rfl) (by with_reducible rfl) ?_
      rintro e w1 ⟨rfl, hb1⟩
      have HB1 : Hid (Below w.heap.size w w1) := HBr.out.trans (hb1.mono HBr.out.size)
      clear hb1
      go_wp2_with fail
      go_roundw
      case rel => exact ⟨2, ones a + ones b, rfl, rfl, HB1, .inr (.inr ⟨rfl, rfl⟩)⟩
      case measure => simp [intOf]
    · go_wp2_with fail
      go_ret
      exact ⟨rfl, HBr.out⟩

theorem bitLen_lo (a : Nat) : Lib.bitLen a ≤ 64 := by
  have : ∀ f x, Lib.bitLenAux f x ≤ f := by
    intro f
    induction f with
    | zero => intro x; simp [Lib.bitLenAux]
    | succ f ih => intro x; unfold Lib.bitLenAux; split
                   · omega
                   · have := ih (x / 2); omega
  exact this 64 a
theorem bLow_lo (a b : Int) : 0 ≤ bLow a b ∧ bLow a b ≤ 64 := by
  have := ntz_lo a
  have := ntz_lo b
  unfold bLow
  split
  · omega
  · split <;> omega
theorem bHigh_lo (a b : Int) : -1 ≤ bHigh a b ∧ bHigh a b ≤ 95 := by
  have := bitLen_lo a.toNat
  have := bitLen_lo b.toNat
  unfold bHigh
  split
  · omega
  · split <;> omega

set_option maxRecDepth 10000 in
set_option maxHeartbeats 400000 in
theorem lowest_any (a b : Int) (w : World) (ha : IsW a) (hb : IsW b) (hT : Tz w) (h0 : 0 < w.heap.size) : Calls Tryz.prog 50 #[btVal a b] w fun e w' => e = .returned (.int .i64 (bLow a b)) ∧ Below w.heap.size w w' := by
  have i0 := index2_0
  have i1 := index2_1
  have la := ntz_lo a
  have lb := ntz_lo b
  unfold btVal
  obtain ⟨W, hW⟩ : ∃ W, w.alloc (.cells #[.int .u32 a, .int .u32 b] 71) = W := ⟨_, rfl⟩
  have hb0 : Below w.heap.size w W := by rw [← hW]; exact (Below.refl _ _).alloc (Nat.le_refl _) _
  have HB : Hid (Below w.heap.size w W) := hb0
  have g0 : W.heap[w.heap.size]? = some (.cells #[.int .u32 a, .int .u32 b] 71 (0, 0)) := by rw [← hW]; exact heap_alloc_new w _
  have c0 : W.cell? ⟨w.heap.size, 0, none⟩ = some (.int .u32 a) := cell_of g0 0
  have c1 : W.cell? ⟨w.heap.size, 1, none⟩ = some (.int .u32 b) := cell_of g0 1
  have HA : Hid (Calls Tryz.prog 60 #[.int .u32 a] W fun e w2 => e = .returned (.int .i64 (ntz a)) ∧ Below W.heap.size W w2) := ntz32_any a W ha.1 ha.2 (hT.below hb0 h0)
  have HC : Hid (Calls Tryz.prog 60 #[.int .u32 b] W fun e w2 => e = .returned (.int .i64 (ntz b)) ∧ Below W.heap.size W w2) := ntz32_any b W hb.1 hb.2 (hT.below hb0 h0)
  clear hb0 g0 ha hb hT
  go_enter Tryz.func50, Tryz.ntmps50
  go_wp2_with fail
  go_loopw [6] (fun iv wr => ∃ (k : Nat), iv = .int .i64 (k : Int) ∧ wr = W ∧ ((k = 0) ∨ (k = 1 ∧ Hid (a = 0)) ∨ (k = 2 ∧ Hid (a = 0) ∧ Hid (b = 0)))) (fun iv _ => 2 - (intOf iv).toNat)
  case atStart => exact ⟨0, rfl, rfl, .inl rfl⟩
  case round =>
    obtain ⟨k, rfl, rfl, hk⟩ := hrel
    rcases hk with rfl | ⟨rfl, ha⟩ | ⟨rfl, ha, hb⟩
    · by_cases hz : a = 0
      · have HZ : Hid (a = 0) := hz
        have e : (a == 0) = true := by simp [hz]
        clear hz
        go_wp2_with fail
        go_roundw
        case rel => exact ⟨1, rfl, by trivial, .inr (.inl ⟨rfl, HZ⟩)⟩
        case measure => simp [intOf]
      · have HZ : Hid (a ≠ 0) := hz
        have e : (a == 0) = false := by simp [hz]
        clear hz
        go_wp2_with fail
        refine calls_at HA.out (by with_reducible rfl) (by with_reducible rfl) ?_
        rintro e w1 ⟨rfl, hb1⟩
        have HB1 : Hid (Below w.heap.size w w1) := HB.out.trans (hb1.mono HB.out.size)
        clear hb1
        go_wp2_with fail
        go_ret
        exact ⟨ret_int (by unfold bLow; rw [if_pos HZ.out]), HB1.out⟩
    · by_cases hz : b = 0
      · have HZ : Hid (b = 0) := hz
        have e : (b == 0) = true := by simp [hz]
        clear hz
        go_wp2_with fail
        go_roundw
        case rel => exact ⟨2, rfl, by trivial, .inr (.inr ⟨rfl, ha, HZ⟩)⟩
        case measure => simp [intOf]
      · have HZ : Hid (b ≠ 0) := hz
        have e : (b == 0) = false := by simp [hz]
        clear hz
        go_wp2_with fail
        refine calls_at HC.out (by with_reducible rfl) (by with_reducible rfl) ?_
        rintro e w1 ⟨rfl, hb1⟩
        have HB1 : Hid (Below w.heap.size w w1) := HB.out.trans (hb1.mono HB.out.size)
        clear hb1
        go_wp2_with fail
        go_ret
        exact ⟨ret_int (by unfold bLow; rw [if_neg (by rw [ha.out]; simp), if_pos HZ.out]), HB1.out⟩
    · go_wp2_with fail
      go_ret
      exact ⟨ret_int (by unfold bLow; rw [if_neg (by rw [ha.out]; simp), if_neg (by rw [hb.out]; simp)]), HB.out⟩

set_option maxRecDepth 10000 in
set_option maxHeartbeats 400000 in
theorem highest_any (a b : Int) (w : World) (ha : IsW a) (hb : IsW b) : Calls Tryz.prog 49 #[btVal a b] w fun e w' => e = .returned (.int .i64 (bHigh a b)) ∧ Below w.heap.size w w' := by
  have la := bitLen_lo a.toNat
  have lb := bitLen_lo b.toNat
  unfold btVal
  obtain ⟨W, hW⟩ : ∃ W, w.alloc (.cells #[.int .u32 a, .int .u32 b] 71) = W := ⟨_, rfl⟩
  have hb0 : Below w.heap.size w W := by rw [← hW]; exact (Below.refl _ _).alloc (Nat.le_refl _) _
  have HB : Hid (Below w.heap.size w W) := hb0
  have g0 : W.heap[w.heap.size]? = some (.cells #[.int .u32 a, .int .u32 b] 71 (0, 0)) := by rw [← hW]; exact heap_alloc_new w _
  have c0 : W.cell? ⟨w.heap.size, 0, none⟩ = some (.int .u32 a) := cell_of g0 0
  have c1 : W.cell? ⟨w.heap.size, 1, none⟩ = some (.int .u32 b) := cell_of g0 1
  have HA : Hid (Calls Tryz.prog 59 #[.int .u32 a] W fun e w2 => e = .returned (.int .i64 (Lib.bitLen a.toNat)) ∧ w2 = W) := Tryz.bits_Len32 a W ha.1 (by have := ha.2; omega)
  have HC : Hid (Calls Tryz.prog 59 #[.int .u32 b] W fun e w2 => e = .returned (.int .i64 (Lib.bitLen b.toNat)) ∧ w2 = W) := Tryz.bits_Len32 b W hb.1 (by have := hb.2; omega)
  clear hb0 g0 ha hb
  go_enter Tryz.func49, Tryz.ntmps49
  go_wp2_with fail
  go_loop [3] (fun iv => ∃ (k : Int), iv = .int .i64 k ∧ ((k = 1) ∨ (k = 0 ∧ Hid (b = 0)) ∨ (k = -1 ∧ Hid (b = 0) ∧ Hid (a = 0)))) (fun iv => (intOf iv + 1).toNat)
  case atStart => exact ⟨1, rfl, .inl rfl⟩
  case round =>
    obtain ⟨k, rfl, hk⟩ := hrel
    rcases hk with rfl | ⟨rfl, ha⟩ | ⟨rfl, ha, hb⟩
    · by_cases hz : b = 0
      · have HZ : Hid (b = 0) := hz
        have e : (b == 0) = true := by simp [hz]
        clear hz
        go_wp2_with fail
        go_round
        case rel => exact ⟨0, rfl, .inr (.inl ⟨rfl, HZ⟩)⟩
        case measure => simp [intOf]
      · have HZ : Hid (b ≠ 0) := hz
        have e : (b == 0) = false := by simp [hz]
        clear hz
        go_wp2_with fail
        refine calls_at HC.out (by with_reducible rfl) (by with_reducible rfl) ?_
        rintro e w1 ⟨rfl, rfl⟩
        go_wp2_with fail
        go_ret
        exact ⟨ret_int (by unfold bHigh; rw [if_pos HZ.out]), HB.out⟩
    · by_cases hz : a = 0
      · have HZ : Hid (a = 0) := hz
        have e : (a == 0) = true := by simp [hz]
        clear hz
        go_wp2_with fail
        go_round
        case rel => exact ⟨-1, rfl, .inr (.inr ⟨rfl, ha, HZ⟩)⟩
        case measure => simp [intOf]
      · have HZ : Hid (a ≠ 0) := hz
        have e : (a == 0) = false := by simp [hz]
        clear hz
        go_wp2_with fail
        refine calls_at HA.out (by with_reducible rfl) (by with_reducible rfl) ?_
        rintro e w1 ⟨rfl, rfl⟩
        go_wp2_with fail
        go_ret
        exact ⟨ret_int (by unfold bHigh; rw [if_neg (by rw [ha.out]; simp), if_pos HZ.out]), HB.out⟩
    · go_wp2_with fail
      go_ret
      exact ⟨ret_int (by unfold bHigh; rw [if_neg (by rw [ha.out]; simp), if_neg (by rw [hb.out]; simp)]), HB.out⟩
end Go.Proofs.YtdfbmfikhccajaaGreatDoor
