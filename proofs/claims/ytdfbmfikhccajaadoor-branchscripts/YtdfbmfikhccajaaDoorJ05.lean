/-
  Put together: MdSmall, DmBits, DmFrom, DmAt.
-/
import Derived.Test.YtdfbmfikhccajaaDoorProg
import Derived.Test.YtdfbmfikhccajaaDoorMdMath
import Derived.WalkKit
import Derived.WalkSpells
import Derived.WalkLawsBesides
import Derived.BigQuiet
import Derived.Deep.QuietTactic
namespace Go.Proofs.YtdfbmfikhccajaaDoor
open Go.RowKit

theorem bcell {W w1 : World} (hb : Below W.heap.size W w1) : (∀ b o, b < W.heap.size → w1.cell? ⟨b, o, none⟩ = W.cell? ⟨b, o, none⟩) ∧ (∀ b o, b < W.heap.size → w1.frozen? ⟨b, o, none⟩ = W.frozen? ⟨b, o, none⟩) :=
  ⟨fun b o h => hb.cell (p := ⟨b, o, none⟩) h, fun b o h => hb.frozen (p := ⟨b, o, none⟩) h⟩
theorem ret_int {k : IntKind} {a b : Int} (h : a = b) : Ending.returned (.int k a) = .returned (.int k b) := by rw [h]
theorem ret_bool {a b : Bool} (h : a = b) : Ending.returned (.bool a) = .returned (.bool b) := by rw [h]
theorem calls_at {P : Program} {f : FuncId} {args args' : Array Value} {w w' : World} {Q Q' : Ending → World → Prop} (h : Calls P f args w Q) (e : args' = args) (ew : w' = w) (hm : ∀ e w', Q e w' → Q' e w') : Calls P f args' w' Q' := by
  subst e ew
  exact h.mono hm

set_option maxHeartbeats 400000 in
theorem isNumber_any (n : Int) (w : World) : Calls Tryd.prog 33 #[.int .i64 n] w fun e w' => e = .returned (.bool (Md.numB n)) ∧ w' = w := by
  by_cases h1 : -1000000000 ≤ n
  · by_cases h2 : n ≤ 1000000000
    · have hd : Md.numB n = true := decide_eq_true ⟨h1, h2⟩
      rw [hd]; clear hd
      go_enter Tryd.func33, Tryd.ntmps33
      go_wp2
      go_ret
      exact ⟨rfl, rfl⟩
    · have hd : Md.numB n = false := decide_eq_false (fun h => h2 h.2)
      rw [hd]; clear hd
      go_enter Tryd.func33, Tryd.ntmps33
      go_wp2
      go_ret
      exact ⟨rfl, rfl⟩
  · have hd : Md.numB n = false := decide_eq_false (fun h => h1 h.1)
    rw [hd]; clear hd
    go_enter Tryd.func33, Tryd.ntmps33
    go_wp2
    go_ret
    exact ⟨rfl, rfl⟩

set_option maxHeartbeats 400000 in
theorem isPlace_any (x n : Int) (w : World) : Calls Tryd.prog 53 #[.int .i64 x, .int .i64 n] w fun e w' => e = .returned (.bool (Md.plB n x)) ∧ w' = w := by
  by_cases h1 : 0 ≤ x
  · by_cases h2 : x < n
    · have hd : Md.plB n x = true := decide_eq_true ⟨h1, h2⟩
      rw [hd]; clear hd
      go_enter Tryd.func53, Tryd.ntmps53
      go_wp2
      go_ret
      exact ⟨rfl, rfl⟩
    · have hd : Md.plB n x = false := decide_eq_false (fun h => h2 h.2)
      rw [hd]; clear hd
      go_enter Tryd.func53, Tryd.ntmps53
      go_wp2
      go_ret
      exact ⟨rfl, rfl⟩
  · have hd : Md.plB n x = false := decide_eq_false (fun h => h1 h.1)
    rw [hd]; clear hd
    go_enter Tryd.func53, Tryd.ntmps53
    go_wp2
    go_ret
    exact ⟨rfl, rfl⟩

set_option maxHeartbeats 400000 in
theorem isMany_any (x m : Nat) (w : World) : Calls Tryd.prog 42 #[.int .i64 (x : Int), .int .i64 (m : Int)] w fun e w' => e = .returned (.bool (!Md.fewB x m)) ∧ w' = w := by
  by_cases h1 : (1 : Int) ≤ (x : Int)
  · by_cases h2 : (x : Int) ≤ (m : Int)
    · have hd : Md.fewB x m = false := decide_eq_false (fun h => by omega)
      rw [hd]; clear hd
      go_enter Tryd.func42, Tryd.ntmps42
      go_wp2
      go_ret
      exact ⟨rfl, rfl⟩
    · have hd : Md.fewB x m = true := decide_eq_true (by omega)
      rw [hd]; clear hd
      go_enter Tryd.func42, Tryd.ntmps42
      go_wp2
      go_ret
      exact ⟨rfl, rfl⟩
  · have hd : Md.fewB x m = true := decide_eq_true (by omega)
    rw [hd]; clear hd
    go_enter Tryd.func42, Tryd.ntmps42
    go_wp2
    go_ret
    exact ⟨rfl, rfl⟩

set_option maxHeartbeats 400000 in
theorem compare_any (a op b : Int) (w : World) (ho : 1 ≤ op ∧ op ≤ 3) : Calls Tryd.prog 78 #[.int .i64 a, .int .i64 op, .int .i64 b] w fun e w' => e = .returned (.bool (Md.cmpB op a b)) ∧ w' = w := by
  rcases (show op = 1 ∨ op = 2 ∨ op = 3 by omega) with rfl | rfl | rfl
  · by_cases h : a ≤ b
    · have hd : Md.cmpB 1 a b = true := decide_eq_true h
      rw [hd]; clear hd
      go_enter Tryd.func78, Tryd.ntmps78
      go_wp2
      go_ret
      exact ⟨rfl, rfl⟩
    · have hd : Md.cmpB 1 a b = false := decide_eq_false h
      rw [hd]; clear hd
      go_enter Tryd.func78, Tryd.ntmps78
      go_wp2
      go_ret
      exact ⟨rfl, rfl⟩
  · by_cases h : a = b
    · have hd : Md.cmpB 2 a b = true := decide_eq_true h
      rw [hd]; clear hd
      go_enter Tryd.func78, Tryd.ntmps78
      go_wp2
      go_ret
      exact ⟨ret_bool (by simp), rfl⟩
    · have hd : Md.cmpB 2 a b = false := decide_eq_false h
      rw [hd]; clear hd
      go_enter Tryd.func78, Tryd.ntmps78
      go_wp2
      go_ret
      exact ⟨ret_bool (by simp [h]), rfl⟩
  · by_cases h : b ≤ a
    · have hd : Md.cmpB 3 a b = true := decide_eq_true h
      rw [hd]; clear hd
      go_enter Tryd.func78, Tryd.ntmps78
      go_wp2
      go_ret
      exact ⟨rfl, rfl⟩
    · have hd : Md.cmpB 3 a b = false := decide_eq_false h
      rw [hd]; clear hd
      go_enter Tryd.func78, Tryd.ntmps78
      go_wp2
      go_ret
      exact ⟨rfl, rfl⟩
end Go.Proofs.YtdfbmfikhccajaaDoor

namespace Go.Proofs.YtdfbmfikhccajaaDoor
open Go.RowKit

theorem index2_0 (a b : Value) (w : World) : (Instr.index 59 (.agg #[a, b]) (.int .i64 0)).run Tryd.prog w = .ok a w := by kernel_rfl
theorem index2_1 (a b : Value) (w : World) : (Instr.index 59 (.agg #[a, b]) (.int .i64 1)).run Tryd.prog w = .ok b w := by kernel_rfl

/-- A set of places, as a value. -/
def btVal (a b : Int) : Value := .agg #[.int .u32 a, .int .u32 b]
theorem cell_of {w : World} {g : Nat} {cur : Array Value} {t : TypeId} (h : w.heap[g]? = some (.cells cur t (0, 0))) (i : Nat) : w.cell? ⟨g, i, none⟩ = cur[i]? := by simp [World.cell?, h]
theorem alloc3_0 (w : World) (p q r : Obj) : (((w.alloc p).alloc q).alloc r).heap[w.heap.size]? = some p := by show (((w.heap.push p).push q).push r)[w.heap.size]? = some p; simp [Array.getElem?_push]; omega
theorem alloc3_1 (w : World) (p q r : Obj) : (((w.alloc p).alloc q).alloc r).heap[w.heap.size + 1]? = some q := by show (((w.heap.push p).push q).push r)[w.heap.size + 1]? = some q; simp [Array.getElem_push]
theorem alloc3_2 (w : World) (p q r : Obj) : (((w.alloc p).alloc q).alloc r).heap[w.heap.size + 1 + 1]? = some r := by show (((w.heap.push p).push q).push r)[w.heap.size + 1 + 1]? = some r; simp [Array.getElem_push]
theorem set2 {w : World} {N : Nat} {a0 a1 : Value} {t : TypeId} (h : w.heap[N]? = some (.cells #[a0, a1] t (0, 0))) (b0 b1 : Value) : ((w.setCell ⟨N, 0, none⟩ b0).setCell ⟨N, 1, none⟩ b1).heap[N]? = some (.cells #[b0, b1] t (0, 0)) := by
  have hE := heap_setCell_same _ N 1 _ t b1 (heap_setCell_same w N 0 _ t b0 h)
  simpa only [List.setIfInBounds_toArray, List.set_cons_zero, List.set_cons_succ] using hE
theorem und65 : Tryd.prog.underlying 59 = some (.array 2 57) := by kernel_rfl
theorem info65 : (Tryd.prog.info? 59).map (·.size) = some 2 := by kernel_rfl
theorem frozen_of {w : World} {g : Nat} {cur : Array Value} {t : TypeId} (h : w.heap[g]? = some (.cells cur t (0, 0))) (i : Nat) : w.frozen? ⟨g, i, none⟩ = false := by simp [World.frozen?, h, Nat.not_lt_zero]

set_option maxRecDepth 10000 in
set_option maxHeartbeats 400000 in
theorem less_any (a b c d : Int) (w : World) : Calls Tryd.prog 25 #[btVal a b, btVal c d] w fun e w' => e = .returned (btVal (bits .andNot .u32 a c) (bits .andNot .u32 b d)) ∧ Below w.heap.size w w' := by
  have i0 := index2_0
  have i1 := index2_1
  unfold btVal
  obtain ⟨W, hW⟩ : ∃ W, ((w.alloc (.cells #[.int .u32 a, .int .u32 b] 59)).alloc (.cells #[.int .u32 c, .int .u32 d] 59)).alloc (.cells #[.int .u32 0, .int .u32 0] 59) = W := ⟨_, rfl⟩
  have hb0 : Below w.heap.size w W := by rw [← hW]; exact (((Below.refl _ _).alloc (Nat.le_refl _) _).alloc (by simp) _).alloc (by simp; omega) _
  have HB : Hid (Below w.heap.size w W) := hb0
  have c0 : W.cell? ⟨w.heap.size, 0, none⟩ = some (.int .u32 a) := by rw [← hW]; exact cell_of (alloc3_0 w _ _ _) 0
  have c1 : W.cell? ⟨w.heap.size, 1, none⟩ = some (.int .u32 b) := by rw [← hW]; exact cell_of (alloc3_0 w _ _ _) 1
  have c2 : W.cell? ⟨w.heap.size + 1, 0, none⟩ = some (.int .u32 c) := by rw [← hW]; exact cell_of (alloc3_1 w _ _ _) 0
  have c3 : W.cell? ⟨w.heap.size + 1, 1, none⟩ = some (.int .u32 d) := by rw [← hW]; exact cell_of (alloc3_1 w _ _ _) 1
  have c4 : W.cell? ⟨w.heap.size + 1 + 1, 0, none⟩ = some (.int .u32 0) := by rw [← hW]; exact cell_of (alloc3_2 w _ _ _) 0
  have c5 : W.cell? ⟨w.heap.size + 1 + 1, 1, none⟩ = some (.int .u32 0) := by rw [← hW]; exact cell_of (alloc3_2 w _ _ _) 1
  have z0 : ∀ i, W.frozen? ⟨w.heap.size, i, none⟩ = false := fun i => by rw [← hW]; exact frozen_of (alloc3_0 w _ _ _) i
  have z4 : ∀ i, W.frozen? ⟨w.heap.size + 1 + 1, i, none⟩ = false := fun i => by rw [← hW]; exact frozen_of (alloc3_2 w _ _ _) i
  have HR : Hid (((W.setCell ⟨w.heap.size, 0, none⟩ (.int .u32 (bits .andNot .u32 a c))).setCell ⟨w.heap.size, 1, none⟩ (.int .u32 (bits .andNot .u32 b d))).heap[w.heap.size + 1 + 1]? = some (.cells #[.int .u32 0, .int .u32 0] 59 (0, 0))) := by
    show _ = _
    rw [heap_setCell_other _ _ _ _ (by simp; omega), heap_setCell_other _ _ _ _ (by simp; omega), ← hW]
    exact alloc3_2 w _ _ _
  clear hb0
  go_enter Tryd.func25, Tryd.ntmps25
  go_wp2_with fail
  go_loopw [8] (fun iv wr => ∃ k : Nat, iv = .int .i64 (k : Int) ∧ ((k = 0 ∧ wr = W) ∨ (k = 1 ∧ wr = W.setCell ⟨w.heap.size, 0, none⟩ (.int .u32 (bits .andNot .u32 a c))) ∨ (k = 2 ∧ wr = (W.setCell ⟨w.heap.size, 0, none⟩ (.int .u32 (bits .andNot .u32 a c))).setCell ⟨w.heap.size, 1, none⟩ (.int .u32 (bits .andNot .u32 b d))))) (fun iv _ => 2 - (intOf iv).toNat)
  case atStart => exact ⟨0, rfl, .inl ⟨rfl, rfl⟩⟩
  case round =>
    obtain ⟨k, rfl, hk⟩ := hrel
    rcases hk with ⟨rfl, rfl⟩ | ⟨rfl, rfl⟩ | ⟨rfl, rfl⟩
    · go_wp2
      go_roundw
      case rel => exact ⟨1, rfl, by simp⟩
      case measure => simp [intOf]
    · go_wp2
      go_roundw
      case rel => exact ⟨2, rfl, by simp⟩
      case measure => simp [intOf]
    · go_wp2
      exact bodyPost_ret (v := btVal (bits .andNot .u32 a c) (bits .andNot .u32 b d)) (results_cell_row Tryd.results25 _ _ (w.heap.size + 1 + 1) 59 #[.int .u32 (bits .andNot .u32 a c), .int .u32 (bits .andNot .u32 b d)] (0, 0) _ rfl (set2 HR.out _ _) und65 rfl info65) rfl ⟨rfl, ((((HB.out.setCell (Nat.le_refl _) _).setCell (Nat.le_refl _) _).setCell (by simp; omega) _).setCell (by simp; omega) _)⟩

end Go.Proofs.YtdfbmfikhccajaaDoor

namespace Go.Proofs.YtdfbmfikhccajaaDoor
open Go.RowKit

/-- How far a word is moved, and what is left of it. -/
def fCl (x : Int) : Int := if 32 < (if x < 0 then 0 else x) then 32 else if x < 0 then 0 else x
def fWd (k i : Int) : Int := 4294967295 * 2 ^ (fCl (k - i * 32)).toNat % 4294967296

set_option maxRecDepth 10000 in
set_option maxHeartbeats 400000 in
theorem from_any (q : Int) (w : World) (h1 : -100000 ≤ q) (h2 : q ≤ 100000) : Calls Tryd.prog 24 #[.int .i64 q] w fun e w' => e = .returned (btVal (fWd q 0) (fWd q 1)) ∧ Below w.heap.size w w' := by
  obtain ⟨W, hW⟩ : ∃ W, (w.alloc (.cells #[.int .u32 0, .int .u32 0] 59)).alloc (.cells #[.int .u32 0, .int .u32 0] 59) = W := ⟨_, rfl⟩
  have hb0 : Below w.heap.size w W := by rw [← hW]; exact ((Below.refl _ _).alloc (Nat.le_refl _) _).alloc (by simp) _
  have HB : Hid (Below w.heap.size w W) := hb0
  have g0 : W.heap[w.heap.size]? = some (.cells #[.int .u32 0, .int .u32 0] 59 (0, 0)) := by rw [← hW, heap_alloc_old (w.alloc _) _ (by simp)]; exact heap_alloc_new w _
  have g1 : W.heap[w.heap.size + 1]? = some (.cells #[.int .u32 0, .int .u32 0] 59 (0, 0)) := by rw [← hW]; exact heap_alloc2_new w _ _
  have c0 : W.cell? ⟨w.heap.size, 0, none⟩ = some (.int .u32 0) := cell_of g0 0
  have c1 : W.cell? ⟨w.heap.size, 1, none⟩ = some (.int .u32 0) := cell_of g0 1
  have c2 : W.cell? ⟨w.heap.size + 1, 0, none⟩ = some (.int .u32 0) := cell_of g1 0
  have c3 : W.cell? ⟨w.heap.size + 1, 1, none⟩ = some (.int .u32 0) := cell_of g1 1
  have z0 : ∀ i, W.frozen? ⟨w.heap.size, i, none⟩ = false := frozen_of g0
  have z1 : ∀ i, W.frozen? ⟨w.heap.size + 1, i, none⟩ = false := frozen_of g1
  have HR : Hid (((W.setCell ⟨w.heap.size + 1, 0, none⟩ (.int .u32 (fWd q 0))).setCell ⟨w.heap.size + 1, 1, none⟩ (.int .u32 (fWd q 1))).heap[w.heap.size]? = some (.cells #[.int .u32 0, .int .u32 0] 59 (0, 0))) := by
    show _ = _
    rw [heap_setCell_other _ _ _ _ (by simp), heap_setCell_other _ _ _ _ (by simp)]
    exact g0
  clear hb0 g0 g1
  go_enter Tryd.func24, Tryd.ntmps24
  go_wp2_with fail
  go_loopw [6] (fun iv wr => ∃ k : Nat, iv = .int .i64 (k : Int) ∧ ((k = 0 ∧ wr = W) ∨ (k = 1 ∧ wr = W.setCell ⟨w.heap.size + 1, 0, none⟩ (.int .u32 (fWd q 0))) ∨ (k = 2 ∧ wr = (W.setCell ⟨w.heap.size + 1, 0, none⟩ (.int .u32 (fWd q 0))).setCell ⟨w.heap.size + 1, 1, none⟩ (.int .u32 (fWd q 1))))) (fun iv _ => 2 - (intOf iv).toNat)
  case atStart => exact ⟨0, rfl, .inl ⟨rfl, rfl⟩⟩
  case round =>
    obtain ⟨k, rfl, hk⟩ := hrel
    rcases hk with ⟨rfl, rfl⟩ | ⟨rfl, rfl⟩ | ⟨rfl, rfl⟩
    · go_wp2
      go_roundw
      case rel => exact ⟨1, rfl, by simp [fWd, fCl]⟩
      case measure => simp [intOf]
    · go_wp2
      go_roundw
      case rel => exact ⟨2, rfl, by simp [fWd, fCl]⟩
      case measure => simp [intOf]
    · go_wp2
      exact bodyPost_ret (v := btVal (fWd q 0) (fWd q 1)) (results_cell_row Tryd.results24 _ _ w.heap.size 59 #[.int .u32 (fWd q 0), .int .u32 (fWd q 1)] (0, 0) _ rfl (set2 HR.out _ _) und65 rfl info65) rfl ⟨rfl, ((((HB.out.setCell (by simp) _).setCell (by simp) _).setCell (by simp) _).setCell (by simp) _)⟩
end Go.Proofs.YtdfbmfikhccajaaDoor

namespace Go.Proofs.YtdfbmfikhccajaaDoor
open Go.RowKit

/-- A domain, as a value. -/
def dmVal (f a b : Int) : Value := .agg #[.int .i64 f, .int .u32 a, .int .u32 b]
/-- Where a number stands. -/
def dPlc (f v : Int) : Int := min (max v (f - 1)) (f + 64) - f
theorem dPlc_lo (f v : Int) : -1 ≤ dPlc f v := by unfold dPlc; omega
theorem dPlc_hi (f v : Int) : dPlc f v ≤ 64 := by unfold dPlc; omega

/-- Is a place in a set? -/
def btAt (a b k : Int) : Bool := decide (0 ≤ k) && decide (k < 64) && (bits .and .u32 ((if k < 32 then a else b) / 2 ^ (k % 32).toNat) 1 == 1)

end Go.Proofs.YtdfbmfikhccajaaDoor
