/-
  Put together: MdSmall, MdRef, DmBits.
-/
import Derived.Test.YtakdboddbgihpaaDoorProg
import Derived.Test.YtakdboddbgihpaaDoorMdMath
import Derived.WalkKit
import Derived.WalkSpells
import Derived.WalkLawsBesides
import Derived.BigQuiet
import Derived.Deep.QuietTactic
namespace Go.Proofs.YtakdboddbgihpaaDoor
open Go.RowKit

theorem bcell {W w1 : World} (hb : Below W.heap.size W w1) : (∀ b o, b < W.heap.size → w1.cell? ⟨b, o, none⟩ = W.cell? ⟨b, o, none⟩) ∧ (∀ b o, b < W.heap.size → w1.frozen? ⟨b, o, none⟩ = W.frozen? ⟨b, o, none⟩) :=
  ⟨fun b o h => hb.cell (p := ⟨b, o, none⟩) h, fun b o h => hb.frozen (p := ⟨b, o, none⟩) h⟩
theorem ret_int {k : IntKind} {a b : Int} (h : a = b) : Ending.returned (.int k a) = .returned (.int k b) := by rw [h]
theorem ret_bool {a b : Bool} (h : a = b) : Ending.returned (.bool a) = .returned (.bool b) := by rw [h]
theorem calls_at {P : Program} {f : FuncId} {args args' : Array Value} {w w' : World} {Q Q' : Ending → World → Prop} (h : Calls P f args w Q) (e : args' = args) (ew : w' = w) (hm : ∀ e w', Q e w' → Q' e w') : Calls P f args' w' Q' := by
  subst e ew
  exact h.mono hm

set_option maxHeartbeats 400000 in
theorem isNumber_any (n : Int) (w : World) : Calls Tryd.prog 53 #[.int .i64 n] w fun e w' => e = .returned (.bool (Md.numB n)) ∧ w' = w := by
  by_cases h1 : -1000000000 ≤ n
  · by_cases h2 : n ≤ 1000000000
    · have hd : Md.numB n = true := decide_eq_true ⟨h1, h2⟩
      rw [hd]; clear hd
      go_enter Tryd.func53, Tryd.ntmps53
      go_wp2
      go_ret
      exact ⟨rfl, rfl⟩
    · have hd : Md.numB n = false := decide_eq_false (fun h => h2 h.2)
      rw [hd]; clear hd
      go_enter Tryd.func53, Tryd.ntmps53
      go_wp2
      go_ret
      exact ⟨rfl, rfl⟩
  · have hd : Md.numB n = false := decide_eq_false (fun h => h1 h.1)
    rw [hd]; clear hd
    go_enter Tryd.func53, Tryd.ntmps53
    go_wp2
    go_ret
    exact ⟨rfl, rfl⟩

set_option maxHeartbeats 400000 in
theorem isPlace_any (x n : Int) (w : World) : Calls Tryd.prog 73 #[.int .i64 x, .int .i64 n] w fun e w' => e = .returned (.bool (Md.plB n x)) ∧ w' = w := by
  by_cases h1 : 0 ≤ x
  · by_cases h2 : x < n
    · have hd : Md.plB n x = true := decide_eq_true ⟨h1, h2⟩
      rw [hd]; clear hd
      go_enter Tryd.func73, Tryd.ntmps73
      go_wp2
      go_ret
      exact ⟨rfl, rfl⟩
    · have hd : Md.plB n x = false := decide_eq_false (fun h => h2 h.2)
      rw [hd]; clear hd
      go_enter Tryd.func73, Tryd.ntmps73
      go_wp2
      go_ret
      exact ⟨rfl, rfl⟩
  · have hd : Md.plB n x = false := decide_eq_false (fun h => h1 h.1)
    rw [hd]; clear hd
    go_enter Tryd.func73, Tryd.ntmps73
    go_wp2
    go_ret
    exact ⟨rfl, rfl⟩

set_option maxHeartbeats 400000 in
theorem isMany_any (x m : Nat) (w : World) : Calls Tryd.prog 62 #[.int .i64 (x : Int), .int .i64 (m : Int)] w fun e w' => e = .returned (.bool (!Md.fewB x m)) ∧ w' = w := by
  by_cases h1 : (1 : Int) ≤ (x : Int)
  · by_cases h2 : (x : Int) ≤ (m : Int)
    · have hd : Md.fewB x m = false := decide_eq_false (fun h => by omega)
      rw [hd]; clear hd
      go_enter Tryd.func62, Tryd.ntmps62
      go_wp2
      go_ret
      exact ⟨rfl, rfl⟩
    · have hd : Md.fewB x m = true := decide_eq_true (by omega)
      rw [hd]; clear hd
      go_enter Tryd.func62, Tryd.ntmps62
      go_wp2
      go_ret
      exact ⟨rfl, rfl⟩
  · have hd : Md.fewB x m = true := decide_eq_true (by omega)
    rw [hd]; clear hd
    go_enter Tryd.func62, Tryd.ntmps62
    go_wp2
    go_ret
    exact ⟨rfl, rfl⟩

set_option maxHeartbeats 400000 in
theorem compare_any (a op b : Int) (w : World) (ho : 1 ≤ op ∧ op ≤ 3) : Calls Tryd.prog 95 #[.int .i64 a, .int .i64 op, .int .i64 b] w fun e w' => e = .returned (.bool (Md.cmpB op a b)) ∧ w' = w := by
  rcases (show op = 1 ∨ op = 2 ∨ op = 3 by omega) with rfl | rfl | rfl
  · by_cases h : a ≤ b
    · have hd : Md.cmpB 1 a b = true := decide_eq_true h
      rw [hd]; clear hd
      go_enter Tryd.func95, Tryd.ntmps95
      go_wp2
      go_ret
      exact ⟨rfl, rfl⟩
    · have hd : Md.cmpB 1 a b = false := decide_eq_false h
      rw [hd]; clear hd
      go_enter Tryd.func95, Tryd.ntmps95
      go_wp2
      go_ret
      exact ⟨rfl, rfl⟩
  · by_cases h : a = b
    · have hd : Md.cmpB 2 a b = true := decide_eq_true h
      rw [hd]; clear hd
      go_enter Tryd.func95, Tryd.ntmps95
      go_wp2
      go_ret
      exact ⟨ret_bool (by simp), rfl⟩
    · have hd : Md.cmpB 2 a b = false := decide_eq_false h
      rw [hd]; clear hd
      go_enter Tryd.func95, Tryd.ntmps95
      go_wp2
      go_ret
      exact ⟨ret_bool (by simp [h]), rfl⟩
  · by_cases h : b ≤ a
    · have hd : Md.cmpB 3 a b = true := decide_eq_true h
      rw [hd]; clear hd
      go_enter Tryd.func95, Tryd.ntmps95
      go_wp2
      go_ret
      exact ⟨rfl, rfl⟩
    · have hd : Md.cmpB 3 a b = false := decide_eq_false h
      rw [hd]; clear hd
      go_enter Tryd.func95, Tryd.ntmps95
      go_wp2
      go_ret
      exact ⟨rfl, rfl⟩
end Go.Proofs.YtakdboddbgihpaaDoor

namespace Go.Proofs.YtakdboddbgihpaaDoor
open Go.RowKit
/-- The mark of a place. -/
def lotI (k : Nat) : Int := if k % 2 = 0 then -7701 else -7702
end Go.Proofs.YtakdboddbgihpaaDoor

namespace Go.Proofs.YtakdboddbgihpaaDoor
open Go.RowKit

theorem index2_0 (a b : Value) (w : World) : (Instr.index 65 (.agg #[a, b]) (.int .i64 0)).run Tryd.prog w = .ok a w := by kernel_rfl
theorem index2_1 (a b : Value) (w : World) : (Instr.index 65 (.agg #[a, b]) (.int .i64 1)).run Tryd.prog w = .ok b w := by kernel_rfl

/-- A set of places, as a value. -/
def btVal (a b : Int) : Value := .agg #[.int .u32 a, .int .u32 b]
theorem cell_of {w : World} {g : Nat} {cur : Array Value} {t : TypeId} (h : w.heap[g]? = some (.cells cur t (0, 0))) (i : Nat) : w.cell? ⟨g, i, none⟩ = cur[i]? := by simp [World.cell?, h]
theorem alloc3_0 (w : World) (p q r : Obj) : (((w.alloc p).alloc q).alloc r).heap[w.heap.size]? = some p := by show (((w.heap.push p).push q).push r)[w.heap.size]? = some p; simp [Array.getElem?_push]; omega
theorem alloc3_1 (w : World) (p q r : Obj) : (((w.alloc p).alloc q).alloc r).heap[w.heap.size + 1]? = some q := by show (((w.heap.push p).push q).push r)[w.heap.size + 1]? = some q; simp [Array.getElem_push]
theorem alloc3_2 (w : World) (p q r : Obj) : (((w.alloc p).alloc q).alloc r).heap[w.heap.size + 1 + 1]? = some r := by show (((w.heap.push p).push q).push r)[w.heap.size + 1 + 1]? = some r; simp [Array.getElem_push]
theorem set2 {w : World} {N : Nat} {a0 a1 : Value} {t : TypeId} (h : w.heap[N]? = some (.cells #[a0, a1] t (0, 0))) (b0 b1 : Value) : ((w.setCell ⟨N, 0, none⟩ b0).setCell ⟨N, 1, none⟩ b1).heap[N]? = some (.cells #[b0, b1] t (0, 0)) := by
  have hE := heap_setCell_same _ N 1 _ t b1 (heap_setCell_same w N 0 _ t b0 h)
  simpa only [List.setIfInBounds_toArray, List.set_cons_zero, List.set_cons_succ] using hE
theorem und65 : Tryd.prog.underlying 65 = some (.array 2 63) := by kernel_rfl
theorem info65 : (Tryd.prog.info? 65).map (·.size) = some 2 := by kernel_rfl
theorem frozen_of {w : World} {g : Nat} {cur : Array Value} {t : TypeId} (h : w.heap[g]? = some (.cells cur t (0, 0))) (i : Nat) : w.frozen? ⟨g, i, none⟩ = false := by simp [World.frozen?, h, Nat.not_lt_zero]

set_option maxRecDepth 10000 in
set_option maxHeartbeats 400000 in
theorem less_any (a b c d : Int) (w : World) : Calls Tryd.prog 41 #[btVal a b, btVal c d] w fun e w' => e = .returned (btVal (bits .andNot .u32 a c) (bits .andNot .u32 b d)) ∧ Below w.heap.size w w' := by
  have i0 := index2_0
  have i1 := index2_1
  unfold btVal
  obtain ⟨W, hW⟩ : ∃ W, ((w.alloc (.cells #[.int .u32 a, .int .u32 b] 65)).alloc (.cells #[.int .u32 c, .int .u32 d] 65)).alloc (.cells #[.int .u32 0, .int .u32 0] 65) = W := ⟨_, rfl⟩
  have hb0 : Below w.heap.size w W := by rw [← hW]; exact (((Below.refl _ _).alloc (Nat.le_refl _) _).alloc (by simp) _).alloc (by simp; omega) _
  have HB : Hid (Below w.heap.size w W) := hb0
  have c0 : W.cell? ⟨w.heap.size, 0, none⟩ = some (.int .u32 a) := by rw [← hW]; exact cell_of (alloc3_0 w _ _ _) 0
  have c1 : W.cell? ⟨w.heap.size, 1, none⟩ = some (.int .u32 b) := by rw [← hW]; exact cell_of (alloc3_0 w _ _ _) 1
  have c2 : W.cell? ⟨w.heap.size + 1, 0, none⟩ = some (.int .u32 c) := by rw [← hW]; exact cell_of (alloc3_1 w _ _ _) 0
  have c3 : W.cell? ⟨w.heap.size + 1, 1, none⟩ = some (.int .u32 d) := by rw [← hW]; exact cell_of (alloc3_1 w _ _ _) 1
  have c4 : W.cell? ⟨w.heap.size + 1 + 1, 0, none⟩ = some (.int .u32 0) := by rw [← hW]; exact cell_of (alloc3_2 w _ _ _) 0
  have c5 : W.cell? ⟨w.heap.size + 1 + 1, 1, none⟩ = some (.int .u32 0) := by rw [← hW]; exact cell_of (alloc3_2 w _ _ _) 1
  have z0 : ∀ i, W.frozen? ⟨w.heap.size, i, none⟩ = false := fun i => by rw [← hW]; exact frozen_of (alloc3_0 w _ _ _) i
  have z4 : ∀ i, W.frozen? ⟨w.heap.size + 1 + 1, i, none⟩ = false := fun i => by rw [← hW]; exact frozen_of (alloc3_2 w _ _ _) i
  have HR : Hid (((W.setCell ⟨w.heap.size, 0, none⟩ (.int .u32 (bits .andNot .u32 a c))).setCell ⟨w.heap.size, 1, none⟩ (.int .u32 (bits .andNot .u32 b d))).heap[w.heap.size + 1 + 1]? = some (.cells #[.int .u32 0, .int .u32 0] 65 (0, 0))) := by
    show _ = _
    rw [heap_setCell_other _ _ _ _ (by simp; omega), heap_setCell_other _ _ _ _ (by simp; omega), ← hW]
    exact alloc3_2 w _ _ _
  clear hb0
  go_enter Tryd.func41, Tryd.ntmps41
  go_wp2_with fail
  go_loopw [8] (fun iv wr => ∃ k : Nat, iv = .int .i64 (k : Int) ∧ ((k = 0 ∧ wr = W) ∨ (k = 1 ∧ wr = W.setCell ⟨w.heap.size, 0, none⟩ (.int .u32 (bits .andNot .u32 a c))) ∨ (k = 2 ∧ wr = (W.setCell ⟨w.heap.size, 0, none⟩ (.int .u32 (bits .andNot .u32 a c))).setCell ⟨w.heap.size, 1, none⟩ (.int .u32 (bits .andNot .u32 b d))))) (fun iv _ => 2 - (intOf iv).toNat)
  case atStart => exact ⟨0, rfl, .inl ⟨rfl, rfl⟩⟩
  case round =>
    obtain ⟨k, rfl, hk⟩ := hrel
    rcases hk with ⟨rfl, rfl⟩ | ⟨rfl, rfl⟩ | ⟨rfl, rfl⟩
    · go_wp2
      go_roundw
      case rel => exact ⟨1, rfl, by simp⟩
      case measure => simp [intOf]
    · go_wp2
      go_roundw
      case rel => exact ⟨2, rfl, by simp⟩
      case measure => simp [intOf]
    · go_wp2
      exact bodyPost_ret (v := btVal (bits .andNot .u32 a c) (bits .andNot .u32 b d)) (results_cell_row Tryd.results41 _ _ (w.heap.size + 1 + 1) 65 #[.int .u32 (bits .andNot .u32 a c), .int .u32 (bits .andNot .u32 b d)] (0, 0) _ rfl (set2 HR.out _ _) und65 rfl info65) rfl ⟨rfl, ((((HB.out.setCell (Nat.le_refl _) _).setCell (Nat.le_refl _) _).setCell (by simp; omega) _).setCell (by simp; omega) _)⟩

set_option maxRecDepth 10000 in
set_option maxHeartbeats 400000 in
theorem and_any (a b c d : Int) (w : World) : Calls Tryd.prog 46 #[btVal a b, btVal c d] w fun e w' => e = .returned (btVal (bits .and .u32 a c) (bits .and .u32 b d)) ∧ Below w.heap.size w w' := by
  have i0 := index2_0
  have i1 := index2_1
  unfold btVal
  obtain ⟨W, hW⟩ : ∃ W, ((w.alloc (.cells #[.int .u32 a, .int .u32 b] 65)).alloc (.cells #[.int .u32 c, .int .u32 d] 65)).alloc (.cells #[.int .u32 0, .int .u32 0] 65) = W := ⟨_, rfl⟩
  have hb0 : Below w.heap.size w W := by rw [← hW]; exact (((Below.refl _ _).alloc (Nat.le_refl _) _).alloc (by simp) _).alloc (by simp; omega) _
  have HB : Hid (Below w.heap.size w W) := hb0
  have c0 : W.cell? ⟨w.heap.size, 0, none⟩ = some (.int .u32 a) := by rw [← hW]; exact cell_of (alloc3_0 w _ _ _) 0
  have c1 : W.cell? ⟨w.heap.size, 1, none⟩ = some (.int .u32 b) := by rw [← hW]; exact cell_of (alloc3_0 w _ _ _) 1
  have c2 : W.cell? ⟨w.heap.size + 1, 0, none⟩ = some (.int .u32 c) := by rw [← hW]; exact cell_of (alloc3_1 w _ _ _) 0
  have c3 : W.cell? ⟨w.heap.size + 1, 1, none⟩ = some (.int .u32 d) := by rw [← hW]; exact cell_of (alloc3_1 w _ _ _) 1
  have c4 : W.cell? ⟨w.heap.size + 1 + 1, 0, none⟩ = some (.int .u32 0) := by rw [← hW]; exact cell_of (alloc3_2 w _ _ _) 0
  have c5 : W.cell? ⟨w.heap.size + 1 + 1, 1, none⟩ = some (.int .u32 0) := by rw [← hW]; exact cell_of (alloc3_2 w _ _ _) 1
  have z0 : ∀ i, W.frozen? ⟨w.heap.size, i, none⟩ = false := fun i => by rw [← hW]; exact frozen_of (alloc3_0 w _ _ _) i
  have z4 : ∀ i, W.frozen? ⟨w.heap.size + 1 + 1, i, none⟩ = false := fun i => by rw [← hW]; exact frozen_of (alloc3_2 w _ _ _) i
  have HR : Hid (((W.setCell ⟨w.heap.size, 0, none⟩ (.int .u32 (bits .and .u32 a c))).setCell ⟨w.heap.size, 1, none⟩ (.int .u32 (bits .and .u32 b d))).heap[w.heap.size + 1 + 1]? = some (.cells #[.int .u32 0, .int .u32 0] 65 (0, 0))) := by
    show _ = _
    rw [heap_setCell_other _ _ _ _ (by simp; omega), heap_setCell_other _ _ _ _ (by simp; omega), ← hW]
    exact alloc3_2 w _ _ _
  clear hb0
  go_enter Tryd.func46, Tryd.ntmps46
  go_wp2_with fail
  go_loopw [8] (fun iv wr => ∃ k : Nat, iv = .int .i64 (k : Int) ∧ ((k = 0 ∧ wr = W) ∨ (k = 1 ∧ wr = W.setCell ⟨w.heap.size, 0, none⟩ (.int .u32 (bits .and .u32 a c))) ∨ (k = 2 ∧ wr = (W.setCell ⟨w.heap.size, 0, none⟩ (.int .u32 (bits .and .u32 a c))).setCell ⟨w.heap.size, 1, none⟩ (.int .u32 (bits .and .u32 b d))))) (fun iv _ => 2 - (intOf iv).toNat)
  case atStart => exact ⟨0, rfl, .inl ⟨rfl, rfl⟩⟩
  case round =>
    obtain ⟨k, rfl, hk⟩ := hrel
    rcases hk with ⟨rfl, rfl⟩ | ⟨rfl, rfl⟩ | ⟨rfl, rfl⟩
    · go_wp2
      go_roundw
      case rel => exact ⟨1, rfl, by simp⟩
      case measure => simp [intOf]
    · go_wp2
      go_roundw
      case rel => exact ⟨2, rfl, by simp⟩
      case measure => simp [intOf]
    · go_wp2
      exact bodyPost_ret (v := btVal (bits .and .u32 a c) (bits .and .u32 b d)) (results_cell_row Tryd.results46 _ _ (w.heap.size + 1 + 1) 65 #[.int .u32 (bits .and .u32 a c), .int .u32 (bits .and .u32 b d)] (0, 0) _ rfl (set2 HR.out _ _) und65 rfl info65) rfl ⟨rfl, ((((HB.out.setCell (Nat.le_refl _) _).setCell (Nat.le_refl _) _).setCell (by simp; omega) _).setCell (by simp; omega) _)⟩

set_option maxRecDepth 10000 in
set_option maxHeartbeats 400000 in
theorem or_any (a b c d : Int) (w : World) : Calls Tryd.prog 64 #[btVal a b, btVal c d] w fun e w' => e = .returned (btVal (bits .or .u32 a c) (bits .or .u32 b d)) ∧ Below w.heap.size w w' := by
  have i0 := index2_0
  have i1 := index2_1
  unfold btVal
  obtain ⟨W, hW⟩ : ∃ W, ((w.alloc (.cells #[.int .u32 a, .int .u32 b] 65)).alloc (.cells #[.int .u32 c, .int .u32 d] 65)).alloc (.cells #[.int .u32 0, .int .u32 0] 65) = W := ⟨_, rfl⟩
  have hb0 : Below w.heap.size w W := by rw [← hW]; exact (((Below.refl _ _).alloc (Nat.le_refl _) _).alloc (by simp) _).alloc (by simp; omega) _
  have HB : Hid (Below w.heap.size w W) := hb0
  have c0 : W.cell? ⟨w.heap.size, 0, none⟩ = some (.int .u32 a) := by rw [← hW]; exact cell_of (alloc3_0 w _ _ _) 0
  have c1 : W.cell? ⟨w.heap.size, 1, none⟩ = some (.int .u32 b) := by rw [← hW]; exact cell_of (alloc3_0 w _ _ _) 1
  have c2 : W.cell? ⟨w.heap.size + 1, 0, none⟩ = some (.int .u32 c) := by rw [← hW]; exact cell_of (alloc3_1 w _ _ _) 0
  have c3 : W.cell? ⟨w.heap.size + 1, 1, none⟩ = some (.int .u32 d) := by rw [← hW]; exact cell_of (alloc3_1 w _ _ _) 1
  have c4 : W.cell? ⟨w.heap.size + 1 + 1, 0, none⟩ = some (.int .u32 0) := by rw [← hW]; exact cell_of (alloc3_2 w _ _ _) 0
  have c5 : W.cell? ⟨w.heap.size + 1 + 1, 1, none⟩ = some (.int .u32 0) := by rw [← hW]; exact cell_of (alloc3_2 w _ _ _) 1
  have z0 : ∀ i, W.frozen? ⟨w.heap.size, i, none⟩ = false := fun i => by rw [← hW]; exact frozen_of (alloc3_0 w _ _ _) i
  have z4 : ∀ i, W.frozen? ⟨w.heap.size + 1 + 1, i, none⟩ = false := fun i => by rw [← hW]; exact frozen_of (alloc3_2 w _ _ _) i
  have HR : Hid (((W.setCell ⟨w.heap.size, 0, none⟩ (.int .u32 (bits .or .u32 a c))).setCell ⟨w.heap.size, 1, none⟩ (.int .u32 (bits .or .u32 b d))).heap[w.heap.size + 1 + 1]? = some (.cells #[.int .u32 0, .int .u32 0] 65 (0, 0))) := by
    show _ = _
    rw [heap_setCell_other _ _ _ _ (by simp; omega), heap_setCell_other _ _ _ _ (by simp; omega), ← hW]
    exact alloc3_2 w _ _ _
  clear hb0
  go_enter Tryd.func64, Tryd.ntmps64
  go_wp2_with fail
  go_loopw [8] (fun iv wr => ∃ k : Nat, iv = .int .i64 (k : Int) ∧ ((k = 0 ∧ wr = W) ∨ (k = 1 ∧ wr = W.setCell ⟨w.heap.size, 0, none⟩ (.int .u32 (bits .or .u32 a c))) ∨ (k = 2 ∧ wr = (W.setCell ⟨w.heap.size, 0, none⟩ (.int .u32 (bits .or .u32 a c))).setCell ⟨w.heap.size, 1, none⟩ (.int .u32 (bits .or .u32 b d))))) (fun iv _ => 2 - (intOf iv).toNat)
  case atStart => exact ⟨0, rfl, .inl ⟨rfl, rfl⟩⟩
  case round =>
    obtain ⟨k, rfl, hk⟩ := hrel
    rcases hk with ⟨rfl, rfl⟩ | ⟨rfl, rfl⟩ | ⟨rfl, rfl⟩
    · go_wp2
      go_roundw
      case rel => exact ⟨1, rfl, by simp⟩
      case measure => simp [intOf]
    · go_wp2
      go_roundw
      case rel => exact ⟨2, rfl, by simp⟩
      case measure => simp [intOf]
    · go_wp2
      exact bodyPost_ret (v := btVal (bits .or .u32 a c) (bits .or .u32 b d)) (results_cell_row Tryd.results64 _ _ (w.heap.size + 1 + 1) 65 #[.int .u32 (bits .or .u32 a c), .int .u32 (bits .or .u32 b d)] (0, 0) _ rfl (set2 HR.out _ _) und65 rfl info65) rfl ⟨rfl, ((((HB.out.setCell (Nat.le_refl _) _).setCell (Nat.le_refl _) _).setCell (by simp; omega) _).setCell (by simp; omega) _)⟩
end Go.Proofs.YtakdboddbgihpaaDoor
