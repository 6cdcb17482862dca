/-
  The machine's own counts of bits.
-/
import Derived.Test.YtdfbmfikhccajaaDoorShelf
import Derived.Test.YtdfbmfikhccajaaDoorJ05
import Derived.Lib.BitFns
import Derived.Laws.BitsAllLaws
import Derived.BigQuiet
namespace Go.Proofs.YtdfbmfikhccajaaDoor
open Go.RowKit

theorem low8 (x : Int) (h0 : 0 ≤ x) (h1 : x < 4294967296) : bits .and .u32 x 255 = x % 256 := by
  rw [u32_and x 255 h0 h1 (by decide) (by decide)]
  have : x.toNat &&& (255 : Int).toNat = x.toNat % 256 := Nat.and_two_pow_sub_one_eq_mod x.toNat 8
  rw [this]
  omega
/-- How many places are there in a byte, and in a word. -/
def ones (a : Int) : Int := Lib.pop8 (a / 16777216) + Lib.pop8 (a / 65536 % 256) + Lib.pop8 (a / 256 % 256) + Lib.pop8 (a % 256)
theorem pop_lo (x : Int) (h0 : 0 ≤ x) (h1 : x < 256) : 0 ≤ Lib.pop8 x ∧ Lib.pop8 x ≤ 8 := by
  have e := Lib.pop8_eq ⟨x.toNat, by omega⟩
  have l := Lib.onesCount_le8 ⟨x.toNat, by omega⟩
  simp only [Int.toNat_of_nonneg h0] at e l
  omega
theorem ones_lo (a : Int) (h0 : 0 ≤ a) (h1 : a < 4294967296) : 0 ≤ ones a ∧ ones a ≤ 32 := by
  have a1 := pop_lo (a / 16777216) (by omega) (by omega)
  have a2 := pop_lo (a / 65536 % 256) (by omega) (by omega)
  have a3 := pop_lo (a / 256 % 256) (by omega) (by omega)
  have a4 := pop_lo (a % 256) (by omega) (by omega)
  unfold ones
  omega

theorem pop_get (x : Int) (h0 : 0 ≤ x) (h1 : x < (Lib.pop8tab.size : Int)) : Lib.pop8 x = (((Lib.pop8tab[x.toNat]'(by omega)).toNat : Nat) : Int) := by
  unfold Lib.pop8
  rw [getElem?_pos _ _ (by omega)]
  rfl
set_option maxRecDepth 10000 in
set_option maxHeartbeats 400000 in
theorem ones32_any (a : Int) (w : World) (h0 : 0 ≤ a) (h1 : a < 4294967296) : Calls Tryd.prog 59 #[.int .u32 a] w fun e w' => e = .returned (.int .i64 (ones a)) ∧ Below w.heap.size w w' := by
  have e2 := low8 (a / 65536) (by omega) (by omega)
  have e3 := low8 (a / 256) (by omega) (by omega)
  have e4 := low8 a h0 h1
  have s8 : ∀ x : Int, x < 256 → x < (Lib.pop8tab.size : Int) := fun x h => by rw [Lib.pop8tab_size]; exact h
  have l1 : 0 ≤ a / 16777216 := by omega
  have r1 : a / 16777216 < (Lib.pop8tab.size : Int) := s8 _ (by omega)
  have l2 : 0 ≤ a / 65536 % 256 := by omega
  have r2 : a / 65536 % 256 < (Lib.pop8tab.size : Int) := s8 _ (by omega)
  have l3 : 0 ≤ a / 256 % 256 := by omega
  have r3 : a / 256 % 256 < (Lib.pop8tab.size : Int) := s8 _ (by omega)
  have l4 : 0 ≤ a % 256 := by omega
  have r4 : a % 256 < (Lib.pop8tab.size : Int) := s8 _ (by omega)
  clear s8
  go_enter Tryd.func59, Tryd.ntmps59
  go_wp2_with fail
  go_region
  go_wp2
  go_ret
  refine ⟨ret_int ?_, (Below.refl _ _).drew⟩
  have hb := ones_lo a h0 h1
  have e1 := pop_get (a / 16777216) l1 r1
  unfold ones at hb ⊢
  rw [← e1]
  omega

/-- The place of the lowest one: a table, by a product. -/
def deB : List Int := [0, 1, 28, 2, 29, 14, 24, 3, 30, 22, 20, 15, 25, 17, 4, 8, 31, 27, 13, 23, 21, 19, 16, 7, 26, 12, 18, 6, 11, 5, 10, 9]
def ntzI (a : Int) : Int := bits .and .u32 a (4294967296 - a) * 125613361 % 4294967296 / 134217728
def ntz (a : Int) : Int := if a = 0 then 32 else deB.getD (ntzI a).toNat 0
/-- The table lies there. -/
def Tz (w : World) : Prop := ∀ j : Nat, j < 32 → w.cell? ⟨0, j, none⟩ = some (.int .u8 (deB.getD j 0))
theorem Tz.below {B : Nat} {w w' : World} (h : Tz w) (hb : Below B w w') (h0 : 0 < B) : Tz w' := fun j hj => (hb.cell (p := ⟨0, j, none⟩) h0).trans (h j hj)
theorem ntzI_lo (a : Int) : 0 ≤ ntzI a ∧ ntzI a < 32 := by unfold ntzI; omega
theorem deB_lo : ∀ j : Fin 32, 0 ≤ deB.getD j.val 0 ∧ deB.getD j.val 0 ≤ 31 := by decide
theorem ntz_lo (a : Int) : 0 ≤ ntz a ∧ ntz a ≤ 32 := by
  unfold ntz
  split
  · omega
  · have h := ntzI_lo a
    have := deB_lo ⟨(ntzI a).toNat, by omega⟩
    simp only at this
    omega

set_option maxRecDepth 10000 in
set_option maxHeartbeats 400000 in
theorem ntz32_any (a : Int) (w : World) (h0 : 0 ≤ a) (h1 : a < 4294967296) (hT : Tz w) : Calls Tryd.prog 61 #[.int .u32 a] w fun e w' => e = .returned (.int .i64 (ntz a)) ∧ Below w.heap.size w w' := by
  by_cases ha : a = 0
  · subst ha
    clear hT
    go_enter Tryd.func61, Tryd.ntmps61
    go_wp2
    go_ret
    exact ⟨rfl, Below.refl _ _⟩
  · have e : (a == 0) = false := by simp [ha]
    have en : -a % 4294967296 = 4294967296 - a := by omega
    have hi := ntzI_lo a
    have hc := hT (ntzI a).toNat (by omega)
    have HN : Hid (ntz a = deB.getD (ntzI a).toNat 0) := by show _ = _; unfold ntz; rw [if_neg ha]
    have hl := ntz_lo a
    rw [HN.out] at hl
    unfold ntzI at *
    go_enter Tryd.func61, Tryd.ntmps61
    go_wp2
    go_ret
    refine ⟨ret_int ?_, Below.refl _ _⟩
    rw [HN.out]
    rw [List.getD_eq_getElem?_getD] at hl ⊢
    unfold wrap64
    omega
end Go.Proofs.YtdfbmfikhccajaaDoor
