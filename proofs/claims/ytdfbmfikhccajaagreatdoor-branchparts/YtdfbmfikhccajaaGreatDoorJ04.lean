/-
  Put together: MdSmall, DcRef, DmBits, DmFrom, DmAt, MdRef, MdAt.
-/
import Derived.Test.YtdfbmfikhccajaaGreatDoorProg
import Derived.Test.YtdfbmfikhccajaaGreatDoorJ01
import Derived.WalkKit
import Derived.WalkSpells
import Derived.WalkLawsBesides
import Derived.BigQuiet
import Derived.Deep.QuietTactic
namespace Go.Proofs.YtdfbmfikhccajaaGreatDoor
open Go.RowKit

theorem bcell {W w1 : World} (hb : Below W.heap.size W w1) : (∀ b o, b < W.heap.size → w1.cell? ⟨b, o, none⟩ = W.cell? ⟨b, o, none⟩) ∧ (∀ b o, b < W.heap.size → w1.frozen? ⟨b, o, none⟩ = W.frozen? ⟨b, o, none⟩) :=
  ⟨fun b o h => hb.cell (p := ⟨b, o, none⟩) h, fun b o h => hb.frozen (p := ⟨b, o, none⟩) h⟩
theorem ret_int {k : IntKind} {a b : Int} (h : a = b) : Ending.returned (.int k a) = .returned (.int k b) := by rw [h]
theorem ret_bool {a b : Bool} (h : a = b) : Ending.returned (.bool a) = .returned (.bool b) := by rw [h]
theorem calls_at {P : Program} {f : FuncId} {args args' : Array Value} {w w' : World} {Q Q' : Ending → World → Prop} (h : Calls P f args w Q) (e : args' = args) (ew : w' = w) (hm : ∀ e w', Q e w' → Q' e w') : Calls P f args' w' Q' := by
  subst e ew
  exact h.mono hm

set_option maxHeartbeats 400000 in
theorem isNumber_any (n : Int) (w : World) : Calls Tryz.prog 64 #[.int .i64 n] w fun e w' => e = .returned (.bool (Md.numB n)) ∧ w' = w := by
  by_cases h1 : -1000000000 ≤ n
  · by_cases h2 : n ≤ 1000000000
    · have hd : Md.numB n = true := decide_eq_true ⟨h1, h2⟩
      rw [hd]; clear hd
      go_enter Tryz.func64, Tryz.ntmps64
      go_wp2
      go_ret
      exact ⟨rfl, rfl⟩
    · have hd : Md.numB n = false := decide_eq_false (fun h => h2 h.2)
      rw [hd]; clear hd
      go_enter Tryz.func64, Tryz.ntmps64
      go_wp2
      go_ret
      exact ⟨rfl, rfl⟩
  · have hd : Md.numB n = false := decide_eq_false (fun h => h1 h.1)
    rw [hd]; clear hd
    go_enter Tryz.func64, Tryz.ntmps64
    go_wp2
    go_ret
    exact ⟨rfl, rfl⟩

set_option maxHeartbeats 400000 in
theorem isPlace_any (x n : Int) (w : World) : Calls Tryz.prog 89 #[.int .i64 x, .int .i64 n] w fun e w' => e = .returned (.bool (Md.plB n x)) ∧ w' = w := by
  by_cases h1 : 0 ≤ x
  · by_cases h2 : x < n
    · have hd : Md.plB n x = true := decide_eq_true ⟨h1, h2⟩
      rw [hd]; clear hd
      go_enter Tryz.func89, Tryz.ntmps89
      go_wp2
      go_ret
      exact ⟨rfl, rfl⟩
    · have hd : Md.plB n x = false := decide_eq_false (fun h => h2 h.2)
      rw [hd]; clear hd
      go_enter Tryz.func89, Tryz.ntmps89
      go_wp2
      go_ret
      exact ⟨rfl, rfl⟩
  · have hd : Md.plB n x = false := decide_eq_false (fun h => h1 h.1)
    rw [hd]; clear hd
    go_enter Tryz.func89, Tryz.ntmps89
    go_wp2
    go_ret
    exact ⟨rfl, rfl⟩

set_option maxHeartbeats 400000 in
theorem isMany_any (x m : Nat) (w : World) : Calls Tryz.prog 73 #[.int .i64 (x : Int), .int .i64 (m : Int)] w fun e w' => e = .returned (.bool (!Md.fewB x m)) ∧ w' = w := by
  by_cases h1 : (1 : Int) ≤ (x : Int)
  · by_cases h2 : (x : Int) ≤ (m : Int)
    · have hd : Md.fewB x m = false := decide_eq_false (fun h => by omega)
      rw [hd]; clear hd
      go_enter Tryz.func73, Tryz.ntmps73
      go_wp2
      go_ret
      exact ⟨rfl, rfl⟩
    · have hd : Md.fewB x m = true := decide_eq_true (by omega)
      rw [hd]; clear hd
      go_enter Tryz.func73, Tryz.ntmps73
      go_wp2
      go_ret
      exact ⟨rfl, rfl⟩
  · have hd : Md.fewB x m = true := decide_eq_true (by omega)
    rw [hd]; clear hd
    go_enter Tryz.func73, Tryz.ntmps73
    go_wp2
    go_ret
    exact ⟨rfl, rfl⟩

set_option maxHeartbeats 400000 in
theorem compare_any (a op b : Int) (w : World) (ho : 1 ≤ op ∧ op ≤ 3) : Calls Tryz.prog 114 #[.int .i64 a, .int .i64 op, .int .i64 b] w fun e w' => e = .returned (.bool (Md.cmpB op a b)) ∧ w' = w := by
  rcases (show op = 1 ∨ op = 2 ∨ op = 3 by omega) with rfl | rfl | rfl
  · by_cases h : a ≤ b
    · have hd : Md.cmpB 1 a b = true := decide_eq_true h
      rw [hd]; clear hd
      go_enter Tryz.func114, Tryz.ntmps114
      go_wp2
      go_ret
      exact ⟨rfl, rfl⟩
    · have hd : Md.cmpB 1 a b = false := decide_eq_false h
      rw [hd]; clear hd
      go_enter Tryz.func114, Tryz.ntmps114
      go_wp2
      go_ret
      exact ⟨rfl, rfl⟩
  · by_cases h : a = b
    · have hd : Md.cmpB 2 a b = true := decide_eq_true h
      rw [hd]; clear hd
      go_enter Tryz.func114, Tryz.ntmps114
      go_wp2
      go_ret
      exact ⟨ret_bool (by simp), rfl⟩
    · have hd : Md.cmpB 2 a b = false := decide_eq_false h
      rw [hd]; clear hd
      go_enter Tryz.func114, Tryz.ntmps114
      go_wp2
      go_ret
      exact ⟨ret_bool (by simp [h]), rfl⟩
  · by_cases h : b ≤ a
    · have hd : Md.cmpB 3 a b = true := decide_eq_true h
      rw [hd]; clear hd
      go_enter Tryz.func114, Tryz.ntmps114
      go_wp2
      go_ret
      exact ⟨rfl, rfl⟩
    · have hd : Md.cmpB 3 a b = false := decide_eq_false h
      rw [hd]; clear hd
      go_enter Tryz.func114, Tryz.ntmps114
      go_wp2
      go_ret
      exact ⟨rfl, rfl⟩
end Go.Proofs.YtdfbmfikhccajaaGreatDoor

namespace Go.Proofs.YtdfbmfikhccajaaGreatDoor.Doc
open Go.RowKit
set_option maxHeartbeats 400000 in
theorem place_any (x n : Int) (w : World) : Calls Tryz.prog 97 #[.int .i64 x, .int .i64 n] w fun e w' => e = .returned (.bool (Md.plB n x)) ∧ w' = w := by
  go_enter Tryz.func97, Tryz.ntmps97
  go_wp2
  all_goals (go_ret; refine ⟨ret_bool ?_, rfl⟩; unfold Md.plB; symm; simp; try omega)
set_option maxHeartbeats 400000 in
theorem lists_any (k : Int) (w : World) : Calls Tryz.prog 78 #[.int .i64 k] w fun e w' => e = .returned (.bool (Md.fXs k)) ∧ w' = w := by
  go_enter Tryz.func78, Tryz.ntmps78
  go_wp2
  all_goals (go_ret; refine ⟨ret_bool ?_, rfl⟩; simp [Md.fXs, *])
set_option maxHeartbeats 400000 in
theorem size_num (n : Int) (w : World) : Calls Tryz.prog 96 #[.int .i64 n, .int .i64 1000000000] w fun e w' => e = .returned (.bool (Md.numB n)) ∧ w' = w := by
  go_enter Tryz.func96, Tryz.ntmps96
  go_wp2
  all_goals (go_ret; refine ⟨ret_bool ?_, rfl⟩; unfold Md.numB; symm; simp; try omega)
set_option maxHeartbeats 400000 in
theorem size_coef (n : Int) (w : World) : Calls Tryz.prog 96 #[.int .i64 n, .int .i64 1000000] w fun e w' => e = .returned (.bool (decide (-1000000 ≤ n ∧ n ≤ 1000000))) ∧ w' = w := by
  go_enter Tryz.func96, Tryz.ntmps96
  go_wp2
  all_goals (go_ret; refine ⟨ret_bool ?_, rfl⟩; symm; simp; try omega)
set_option maxHeartbeats 400000 in
theorem number_any (n : Int) (w : World) : Calls Tryz.prog 81 #[.int .i64 n] w fun e w' => e = .returned (.bool (Md.numB n)) ∧ w' = w := by
  go_enter Tryz.func81, Tryz.ntmps81
  go_wp2_with (go_at_call 96; refine (size_num _ _).mono ?_; rintro e w' ⟨rfl, rfl⟩)
  go_ret
  exact ⟨rfl, rfl⟩
set_option maxHeartbeats 400000 in
theorem coef_any (n : Int) (w : World) : Calls Tryz.prog 82 #[.int .i64 n] w fun e w' => e = .returned (.bool (Md.cfB n)) ∧ w' = w := by
  by_cases h : n = 0
  · subst h
    go_enter Tryz.func82, Tryz.ntmps82
    go_wp2
    go_ret
    exact ⟨rfl, rfl⟩
  · have hb : (n != 0) = true := by simp [h]
    have hd : Md.cfB n = decide (-1000000 ≤ n ∧ n ≤ 1000000) := by unfold Md.cfB; simp [h]
    rw [hd]; clear hd
    go_enter Tryz.func82, Tryz.ntmps82
    go_wp2_with (go_at_call 96; refine (size_coef _ _).mono ?_; rintro e w' ⟨rfl, rfl⟩)
    all_goals (go_ret; exact ⟨ret_bool (by simp), rfl⟩)
set_option maxHeartbeats 400000 in
theorem many_any (n : Nat) (w : World) : Calls Tryz.prog 57 #[.int .i64 (n : Int)] w fun e w' => e = .returned (.bool (Md.fewB n 64)) ∧ w' = w := by
  go_enter Tryz.func57, Tryz.ntmps57
  go_wp2
  all_goals (go_ret; refine ⟨ret_bool ?_, rfl⟩; unfold Md.fewB; rw [Bool.eq_iff_iff]; simp; try omega)
/-- The mark of a place. -/
def lotI (k : Nat) : Int := if k % 2 = 0 then -7701 else -7702
end Go.Proofs.YtdfbmfikhccajaaGreatDoor.Doc

namespace Go.Proofs.YtdfbmfikhccajaaGreatDoor
open Go.RowKit

theorem index2_0 (a b : Value) (w : World) : (Instr.index 71 (.agg #[a, b]) (.int .i64 0)).run Tryz.prog w = .ok a w := by kernel_rfl
theorem index2_1 (a b : Value) (w : World) : (Instr.index 71 (.agg #[a, b]) (.int .i64 1)).run Tryz.prog w = .ok b w := by kernel_rfl

/-- A set of places, as a value. -/
def btVal (a b : Int) : Value := .agg #[.int .u32 a, .int .u32 b]
theorem cell_of {w : World} {g : Nat} {cur : Array Value} {t : TypeId} (h : w.heap[g]? = some (.cells cur t (0, 0))) (i : Nat) : w.cell? ⟨g, i, none⟩ = cur[i]? := by simp [World.cell?, h]
theorem alloc3_0 (w : World) (p q r : Obj) : (((w.alloc p).alloc q).alloc r).heap[w.heap.size]? = some p := by show (((w.heap.push p).push q).push r)[w.heap.size]? = some p; simp [Array.getElem?_push]; omega
theorem alloc3_1 (w : World) (p q r : Obj) : (((w.alloc p).alloc q).alloc r).heap[w.heap.size + 1]? = some q := by show (((w.heap.push p).push q).push r)[w.heap.size + 1]? = some q; simp [Array.getElem_push]
theorem alloc3_2 (w : World) (p q r : Obj) : (((w.alloc p).alloc q).alloc r).heap[w.heap.size + 1 + 1]? = some r := by show (((w.heap.push p).push q).push r)[w.heap.size + 1 + 1]? = some r; simp [Array.getElem_push]
theorem set2 {w : World} {N : Nat} {a0 a1 : Value} {t : TypeId} (h : w.heap[N]? = some (.cells #[a0, a1] t (0, 0))) (b0 b1 : Value) : ((w.setCell ⟨N, 0, none⟩ b0).setCell ⟨N, 1, none⟩ b1).heap[N]? = some (.cells #[b0, b1] t (0, 0)) := by
  have hE := heap_setCell_same _ N 1 _ t b1 (heap_setCell_same w N 0 _ t b0 h)
  simpa only [List.setIfInBounds_toArray, List.set_cons_zero, List.set_cons_succ] using hE
theorem und65 : Tryz.prog.underlying 71 = some (.array 2 69) := by kernel_rfl
theorem info65 : (Tryz.prog.info? 71).map (·.size) = some 2 := by kernel_rfl
theorem frozen_of {w : World} {g : Nat} {cur : Array Value} {t : TypeId} (h : w.heap[g]? = some (.cells cur t (0, 0))) (i : Nat) : w.frozen? ⟨g, i, none⟩ = false := by simp [World.frozen?, h, Nat.not_lt_zero]

set_option maxRecDepth 10000 in
set_option maxHeartbeats 400000 in
theorem less_any (a b c d : Int) (w : World) : Calls Tryz.prog 45 #[btVal a b, btVal c d] w fun e w' => e = .returned (btVal (bits .andNot .u32 a c) (bits .andNot .u32 b d)) ∧ Below w.heap.size w w' := by
  have i0 := index2_0
  have i1 := index2_1
  unfold btVal
  obtain ⟨W, hW⟩ : ∃ W, ((w.alloc (.cells #[.int .u32 a, .int .u32 b] 71)).alloc (.cells #[.int .u32 c, .int .u32 d] 71)).alloc (.cells #[.int .u32 0, .int .u32 0] 71) = W := ⟨_, rfl⟩
  have hb0 : Below w.heap.size w W := by rw [← hW]; exact (((Below.refl _ _).alloc (Nat.le_refl _) _).alloc (by simp) _).alloc (by simp; omega) _
  have HB : Hid (Below w.heap.size w W) := hb0
  have c0 : W.cell? ⟨w.heap.size, 0, none⟩ = some (.int .u32 a) := by rw [← hW]; exact cell_of (alloc3_0 w _ _ _) 0
  have c1 : W.cell? ⟨w.heap.size, 1, none⟩ = some (.int .u32 b) := by rw [← hW]; exact cell_of (alloc3_0 w _ _ _) 1
  have c2 : W.cell? ⟨w.heap.size + 1, 0, none⟩ = some (.int .u32 c) := by rw [← hW]; exact cell_of (alloc3_1 w _ _ _) 0
  have c3 : W.cell? ⟨w.heap.size + 1, 1, none⟩ = some (.int .u32 d) := by rw [← hW]; exact cell_of (alloc3_1 w _ _ _) 1
  have c4 : W.cell? ⟨w.heap.size + 1 + 1, 0, none⟩ = some (.int .u32 0) := by rw [← hW]; exact cell_of (alloc3_2 w _ _ _) 0
  have c5 : W.cell? ⟨w.heap.size + 1 + 1, 1, none⟩ = some (.int .u32 0) := by rw [← hW]; exact cell_of (alloc3_2 w _ _ _) 1
  have z0 : ∀ i, W.frozen? ⟨w.heap.size, i, none⟩ = false := fun i => by rw [← hW]; exact frozen_of (alloc3_0 w _ _ _) i
  have z4 : ∀ i, W.frozen? ⟨w.heap.size + 1 + 1, i, none⟩ = false := fun i => by rw [← hW]; exact frozen_of (alloc3_2 w _ _ _) i
  have HR : Hid (((W.setCell ⟨w.heap.size, 0, none⟩ (.int .u32 (bits .andNot .u32 a c))).setCell ⟨w.heap.size, 1, none⟩ (.int .u32 (bits .andNot .u32 b d))).heap[w.heap.size + 1 + 1]? = some (.cells #[.int .u32 0, .int .u32 0] 71 (0, 0))) := by
    show _ = _
    rw [heap_setCell_other _ _ _ _ (by simp; omega), heap_setCell_other _ _ _ _ (by simp; omega), ← hW]
    exact alloc3_2 w _ _ _
  clear hb0
  go_enter Tryz.func45, Tryz.ntmps45
  go_wp2_with fail
  go_loopw [8] (fun iv wr => ∃ k : Nat, iv = .int .i64 (k : Int) ∧ ((k = 0 ∧ wr = W) ∨ (k = 1 ∧ wr = W.setCell ⟨w.heap.size, 0, none⟩ (.int .u32 (bits .andNot .u32 a c))) ∨ (k = 2 ∧ wr = (W.setCell ⟨w.heap.size, 0, none⟩ (.int .u32 (bits .andNot .u32 a c))).setCell ⟨w.heap.size, 1, none⟩ (.int .u32 (bits .andNot .u32 b d))))) (fun iv _ => 2 - (intOf iv).toNat)
  case atStart => exact ⟨0, rfl, .inl ⟨rfl, rfl⟩⟩
  case round =>
    obtain ⟨k, rfl, hk⟩ := hrel
    rcases hk with ⟨rfl, rfl⟩ | ⟨rfl, rfl⟩ | ⟨rfl, rfl⟩
    · go_wp2
      go_roundw
      case rel => exact ⟨1, rfl, by simp⟩
      case measure => simp [intOf]
    · go_wp2
      go_roundw
      case rel => exact ⟨2, rfl, by simp⟩
      case measure => simp [intOf]
    · go_wp2
      exact bodyPost_ret (v := btVal (bits .andNot .u32 a c) (bits .andNot .u32 b d)) (results_cell_row Tryz.results45 _ _ (w.heap.size + 1 + 1) 71 #[.int .u32 (bits .andNot .u32 a c), .int .u32 (bits .andNot .u32 b d)] (0, 0) _ rfl (set2 HR.out _ _) und65 rfl info65) rfl ⟨rfl, ((((HB.out.setCell (Nat.le_refl _) _).setCell (Nat.le_refl _) _).setCell (by simp; omega) _).setCell (by simp; omega) _)⟩

set_option maxRecDepth 10000 in
set_option maxHeartbeats 400000 in
theorem and_any (a b c d : Int) (w : World) : Calls Tryz.prog 43 #[btVal a b, btVal c d] w fun e w' => e = .returned (btVal (bits .and .u32 a c) (bits .and .u32 b d)) ∧ Below w.heap.size w w' := by
  have i0 := index2_0
  have i1 := index2_1
  unfold btVal
  obtain ⟨W, hW⟩ : ∃ W, ((w.alloc (.cells #[.int .u32 a, .int .u32 b] 71)).alloc (.cells #[.int .u32 c, .int .u32 d] 71)).alloc (.cells #[.int .u32 0, .int .u32 0] 71) = W := ⟨_, rfl⟩
  have hb0 : Below w.heap.size w W := by rw [← hW]; exact (((Below.refl _ _).alloc (Nat.le_refl _) _).alloc (by simp) _).alloc (by simp; omega) _
  have HB : Hid (Below w.heap.size w W) := hb0
  have c0 : W.cell? ⟨w.heap.size, 0, none⟩ = some (.int .u32 a) := by rw [← hW]; exact cell_of (alloc3_0 w _ _ _) 0
  have c1 : W.cell? ⟨w.heap.size, 1, none⟩ = some (.int .u32 b) := by rw [← hW]; exact cell_of (alloc3_0 w _ _ _) 1
  have c2 : W.cell? ⟨w.heap.size + 1, 0, none⟩ = some (.int .u32 c) := by rw [← hW]; exact cell_of (alloc3_1 w _ _ _) 0
  have c3 : W.cell? ⟨w.heap.size + 1, 1, none⟩ = some (.int .u32 d) := by rw [← hW]; exact cell_of (alloc3_1 w _ _ _) 1
  have c4 : W.cell? ⟨w.heap.size + 1 + 1, 0, none⟩ = some (.int .u32 0) := by rw [← hW]; exact cell_of (alloc3_2 w _ _ _) 0
  have c5 : W.cell? ⟨w.heap.size + 1 + 1, 1, none⟩ = some (.int .u32 0) := by rw [← hW]; exact cell_of (alloc3_2 w _ _ _) 1
  have z0 : ∀ i, W.frozen? ⟨w.heap.size, i, none⟩ = false := fun i => by rw [← hW]; exact frozen_of (alloc3_0 w _ _ _) i
  have z4 : ∀ i, W.frozen? ⟨w.heap.size + 1 + 1, i, none⟩ = false := fun i => by rw [← hW]; exact frozen_of (alloc3_2 w _ _ _) i
  have HR : Hid (((W.setCell ⟨w.heap.size, 0, none⟩ (.int .u32 (bits .and .u32 a c))).setCell ⟨w.heap.size, 1, none⟩ (.int .u32 (bits .and .u32 b d))).heap[w.heap.size + 1 + 1]? = some (.cells #[.int .u32 0, .int .u32 0] 71 (0, 0))) := by
    show _ = _
    rw [heap_setCell_other _ _ _ _ (by simp; omega), heap_setCell_other _ _ _ _ (by simp; omega), ← hW]
    exact alloc3_2 w _ _ _
  clear hb0
  go_enter Tryz.func43, Tryz.ntmps43
  go_wp2_with fail
  go_loopw [8] (fun iv wr => ∃ k : Nat, iv = .int .i64 (k : Int) ∧ ((k = 0 ∧ wr = W) ∨ (k = 1 ∧ wr = W.setCell ⟨w.heap.size, 0, none⟩ (.int .u32 (bits .and .u32 a c))) ∨ (k = 2 ∧ wr = (W.setCell ⟨w.heap.size, 0, none⟩ (.int .u32 (bits .and .u32 a c))).setCell ⟨w.heap.size, 1, none⟩ (.int .u32 (bits .and .u32 b d))))) (fun iv _ => 2 - (intOf iv).toNat)
  case atStart => exact ⟨0, rfl, .inl ⟨rfl, rfl⟩⟩
  case round =>
    obtain ⟨k, rfl, hk⟩ := hrel
    rcases hk with ⟨rfl, rfl⟩ | ⟨rfl, rfl⟩ | ⟨rfl, rfl⟩
    · go_wp2
      go_roundw
      case rel => exact ⟨1, rfl, by simp⟩
      case measure => simp [intOf]
    · go_wp2
      go_roundw
      case rel => exact ⟨2, rfl, by simp⟩
      case measure => simp [intOf]
    · go_wp2
      exact bodyPost_ret (v := btVal (bits .and .u32 a c) (bits .and .u32 b d)) (results_cell_row Tryz.results43 _ _ (w.heap.size + 1 + 1) 71 #[.int .u32 (bits .and .u32 a c), .int .u32 (bits .and .u32 b d)] (0, 0) _ rfl (set2 HR.out _ _) und65 rfl info65) rfl ⟨rfl, ((((HB.out.setCell (Nat.le_refl _) _).setCell (Nat.le_refl _) _).setCell (by simp; omega) _).setCell (by simp; omega) _)⟩

end Go.Proofs.YtdfbmfikhccajaaGreatDoor

namespace Go.Proofs.YtdfbmfikhccajaaGreatDoor
open Go.RowKit

/-- How far a word is moved, and what is left of it. -/
def fCl (x : Int) : Int := if 32 < (if x < 0 then 0 else x) then 32 else if x < 0 then 0 else x
def fWd (k i : Int) : Int := 4294967295 * 2 ^ (fCl (k - i * 32)).toNat % 4294967296

set_option maxRecDepth 10000 in
set_option maxHeartbeats 400000 in
theorem from_any (q : Int) (w : World) (h1 : -100000 ≤ q) (h2 : q ≤ 100000) : Calls Tryz.prog 44 #[.int .i64 q] w fun e w' => e = .returned (btVal (fWd q 0) (fWd q 1)) ∧ Below w.heap.size w w' := by
  obtain ⟨W, hW⟩ : ∃ W, (w.alloc (.cells #[.int .u32 0, .int .u32 0] 71)).alloc (.cells #[.int .u32 0, .int .u32 0] 71) = W := ⟨_, rfl⟩
  have hb0 : Below w.heap.size w W := by rw [← hW]; exact ((Below.refl _ _).alloc (Nat.le_refl _) _).alloc (by simp) _
  have HB : Hid (Below w.heap.size w W) := hb0
  have g0 : W.heap[w.heap.size]? = some (.cells #[.int .u32 0, .int .u32 0] 71 (0, 0)) := by rw [← hW, heap_alloc_old (w.alloc _) _ (by simp)]; exact heap_alloc_new w _
  have g1 : W.heap[w.heap.size + 1]? = some (.cells #[.int .u32 0, .int .u32 0] 71 (0, 0)) := by rw [← hW]; exact heap_alloc2_new w _ _
  have c0 : W.cell? ⟨w.heap.size, 0, none⟩ = some (.int .u32 0) := cell_of g0 0
  have c1 : W.cell? ⟨w.heap.size, 1, none⟩ = some (.int .u32 0) := cell_of g0 1
  have c2 : W.cell? ⟨w.heap.size + 1, 0, none⟩ = some (.int .u32 0) := cell_of g1 0
  have c3 : W.cell? ⟨w.heap.size + 1, 1, none⟩ = some (.int .u32 0) := cell_of g1 1
  have z0 : ∀ i, W.frozen? ⟨w.heap.size, i, none⟩ = false := frozen_of g0
  have z1 : ∀ i, W.frozen? ⟨w.heap.size + 1, i, none⟩ = false := frozen_of g1
  have HR : Hid (((W.setCell ⟨w.heap.size + 1, 0, none⟩ (.int .u32 (fWd q 0))).setCell ⟨w.heap.size + 1, 1, none⟩ (.int .u32 (fWd q 1))).heap[w.heap.size]? = some (.cells #[.int .u32 0, .int .u32 0] 71 (0, 0))) := by
    show _ = _
    rw [heap_setCell_other _ _ _ _ (by simp), heap_setCell_other _ _ _ _ (by simp)]
    exact g0
  clear hb0 g0 g1
  go_enter Tryz.func44, Tryz.ntmps44
  go_wp2_with fail
  go_loopw [6] (fun iv wr => ∃ k : Nat, iv = .int .i64 (k : Int) ∧ ((k = 0 ∧ wr = W) ∨ (k = 1 ∧ wr = W.setCell ⟨w.heap.size + 1, 0, none⟩ (.int .u32 (fWd q 0))) ∨ (k = 2 ∧ wr = (W.setCell ⟨w.heap.size + 1, 0, none⟩ (.int .u32 (fWd q 0))).setCell ⟨w.heap.size + 1, 1, none⟩ (.int .u32 (fWd q 1))))) (fun iv _ => 2 - (intOf iv).toNat)
  case atStart => exact ⟨0, rfl, .inl ⟨rfl, rfl⟩⟩
  case round =>
    obtain ⟨k, rfl, hk⟩ := hrel
    rcases hk with ⟨rfl, rfl⟩ | ⟨rfl, rfl⟩ | ⟨rfl, rfl⟩
    · go_wp2
      go_roundw
      case rel => exact ⟨1, rfl, by simp [fWd, fCl]⟩
      case measure => simp [intOf]
    · go_wp2
      go_roundw
      case rel => exact ⟨2, rfl, by simp [fWd, fCl]⟩
      case measure => simp [intOf]
    · go_wp2
      exact bodyPost_ret (v := btVal (fWd q 0) (fWd q 1)) (results_cell_row Tryz.results44 _ _ w.heap.size 71 #[.int .u32 (fWd q 0), .int .u32 (fWd q 1)] (0, 0) _ rfl (set2 HR.out _ _) und65 rfl info65) rfl ⟨rfl, ((((HB.out.setCell (by simp) _).setCell (by simp) _).setCell (by simp) _).setCell (by simp) _)⟩
end Go.Proofs.YtdfbmfikhccajaaGreatDoor

namespace Go.Proofs.YtdfbmfikhccajaaGreatDoor
open Go.RowKit

/-- A domain, as a value. -/
def dmVal (f a b : Int) : Value := .agg #[.int .i64 f, .int .u32 a, .int .u32 b]
/-- Where a number stands. -/
def dPlc (f v : Int) : Int := min (max v (f - 1)) (f + 64) - f
theorem dPlc_lo (f v : Int) : -1 ≤ dPlc f v := by unfold dPlc; omega
theorem dPlc_hi (f v : Int) : dPlc f v ≤ 64 := by unfold dPlc; omega

set_option maxRecDepth 10000 in
set_option maxHeartbeats 400000 in
theorem place_any (f a b v : Int) (w : World) (h1 : -1000000000 ≤ f) (h2 : f ≤ 1000000000) : Calls Tryz.prog 42 #[dmVal f a b, .int .i64 v] w fun e w' => e = .returned (.int .i64 (dPlc f v)) ∧ Below w.heap.size w w' := by
  unfold dmVal
  go_enter Tryz.func42, Tryz.ntmps42
  go_wp2
  all_goals (go_ret; exact ⟨ret_int (by unfold dPlc; omega), (Below.refl _ _).alloc (Nat.le_refl _) _⟩)

/-- Is a place in a set? -/
def btAt (a b k : Int) : Bool := decide (0 ≤ k) && decide (k < 64) && (bits .and .u32 ((if k < 32 then a else b) / 2 ^ (k % 32).toNat) 1 == 1)

set_option maxRecDepth 10000 in
set_option maxHeartbeats 400000 in
theorem at_any (a b k : Int) (w : World) : Calls Tryz.prog 48 #[btVal a b, .int .i64 k] w fun e w' => e = .returned (.bool (btAt a b k)) ∧ Below w.heap.size w w' := by
  unfold btVal
  have HB : Hid (Below w.heap.size w (w.alloc (.cells #[.int .u32 a, .int .u32 b] 71))) := (Below.refl _ _).alloc (Nat.le_refl _) _
  by_cases h0 : 0 ≤ k
  · by_cases h1 : k < 64
    · by_cases h2 : k < 32
      · have e : k / 32 = 0 := by omega
        go_enter Tryz.func48, Tryz.ntmps48
        go_wp2
        go_ret
        exact ⟨ret_bool (by simp [btAt, h0, h1, h2]), HB.out⟩
      · have e : k / 32 = 1 := by omega
        go_enter Tryz.func48, Tryz.ntmps48
        go_wp2
        go_ret
        exact ⟨ret_bool (by simp [btAt, h0, h1, Int.not_lt.2 h2]), HB.out⟩
    · go_enter Tryz.func48, Tryz.ntmps48
      go_wp2
      go_ret
      exact ⟨ret_bool (by simp [btAt, Int.not_lt.2 h1]), HB.out⟩
  · go_enter Tryz.func48, Tryz.ntmps48
    go_wp2
    go_ret
    exact ⟨ret_bool (by simp [btAt, Int.not_le.2 h0]), HB.out⟩

end Go.Proofs.YtdfbmfikhccajaaGreatDoor

namespace Go.Proofs.YtdfbmfikhccajaaGreatDoor
open Go.RowKit
/-- The mark of a place. -/
def lotI (k : Nat) : Int := if k % 2 = 0 then -7701 else -7702
end Go.Proofs.YtdfbmfikhccajaaGreatDoor

namespace Go.Proofs.YtdfbmfikhccajaaGreatDoor
open Go.RowKit

/-- A slice of ints. -/
def IntsAt (w : World) (v : Value) (l : List Int) : Prop :=
  ∃ a cap, v = .slice a l.length cap ∧ l.length ≤ maxLen ∧ (0 < l.length → ∃ b off, a = some ⟨b, off, none⟩ ∧ b < w.heap.size ∧ ∀ j (h : j < l.length), w.cell? ⟨b, off + j, none⟩ = some (.int .i64 l[j]))
/-- A slice of terms. -/
def TermsAt (w : World) (v : Value) (l : List (Int × Int)) : Prop :=
  ∃ a cap, v = .slice a l.length cap ∧ l.length ≤ maxLen ∧ (0 < l.length → ∃ b off, a = some ⟨b, off, none⟩ ∧ b < w.heap.size ∧
    ∀ j (h : j < l.length), w.cell? ⟨b, off + j * 2, none⟩ = some (.int .i64 l[j].1) ∧ w.cell? ⟨b, off + j * 2 + 1, none⟩ = some (.int .i64 l[j].2))
/-- A slice of slices of ints. -/
def RowsAt (w : World) (v : Value) (l : List (List Int)) : Prop :=
  ∃ a cap, v = .slice a l.length cap ∧ l.length ≤ maxLen ∧ (0 < l.length → ∃ b off, a = some ⟨b, off, none⟩ ∧ b < w.heap.size ∧
    ∀ j (h : j < l.length), ∃ u, w.cell? ⟨b, off + j, none⟩ = some u ∧ IntsAt w u l[j])
/-- A constraint's value. -/
def cnVal (c : Md.Cn) (vt vx vb vr : Value) : Value :=
  .agg #[.int .i64 c.kind, .int .i64 c.op, vt, .int .i64 c.k, .int .i64 c.v, .int .i64 c.x, .int .i64 c.y, vx, vb, vr]
/-- Its lists. -/
structure CnAt (w : World) (c : Md.Cn) (vt vx vb vr : Value) : Prop where
  t : TermsAt w vt c.terms
  x : IntsAt w vx c.xs
  xcap : ∀ a n cp, vx = .slice a n cp → n ≤ cp
  b : IntsAt w vb c.table
  r : RowsAt w vr c.rows

theorem IntsAt.mono {w w' : World} {v : Value} {l : List Int} (h : IntsAt w v l) (hs : w.heap.size ≤ w'.heap.size) (hb : ∀ b o, b < w.heap.size → w'.cell? ⟨b, o, none⟩ = w.cell? ⟨b, o, none⟩) : IntsAt w' v l := by
  obtain ⟨a, cap, hv, hl, hc⟩ := h
  refine ⟨a, cap, hv, hl, fun h0 => ?_⟩
  obtain ⟨b, off, ha, hbs, hcell⟩ := hc h0
  exact ⟨b, off, ha, Nat.lt_of_lt_of_le hbs hs, fun j hj => (hb _ _ hbs).trans (hcell j hj)⟩
theorem IntsAt.below {w w' : World} {v : Value} {l : List Int} (h : IntsAt w v l) (hb : Below w.heap.size w w') : IntsAt w' v l := h.mono hb.size (bcell hb).1
theorem TermsAt.below {w w' : World} {v : Value} {l : List (Int × Int)} (h : TermsAt w v l) (hb : Below w.heap.size w w') : TermsAt w' v l := by
  obtain ⟨a, cap, hv, hl, hc⟩ := h
  refine ⟨a, cap, hv, hl, fun h0 => ?_⟩
  obtain ⟨b, off, ha, hbs, hcell⟩ := hc h0
  exact ⟨b, off, ha, Nat.lt_of_lt_of_le hbs hb.size, fun j hj => ⟨((bcell hb).1 _ _ hbs).trans (hcell j hj).1, ((bcell hb).1 _ _ hbs).trans (hcell j hj).2⟩⟩
theorem RowsAt.below {w w' : World} {v : Value} {l : List (List Int)} (h : RowsAt w v l) (hb : Below w.heap.size w w') : RowsAt w' v l := by
  obtain ⟨a, cap, hv, hl, hc⟩ := h
  refine ⟨a, cap, hv, hl, fun h0 => ?_⟩
  obtain ⟨b, off, ha, hbs, hcell⟩ := hc h0
  refine ⟨b, off, ha, Nat.lt_of_lt_of_le hbs hb.size, fun j hj => ?_⟩
  obtain ⟨u, hu, hI⟩ := hcell j hj
  exact ⟨u, ((bcell hb).1 _ _ hbs).trans hu, hI.below hb⟩
theorem CnAt.below {w w' : World} {c : Md.Cn} {vt vx vb vr : Value} (h : CnAt w c vt vx vb vr) (hb : Below w.heap.size w w') : CnAt w' c vt vx vb vr :=
  ⟨h.t.below hb, h.x.below hb, h.xcap, h.b.below hb, h.r.below hb⟩
theorem IntsAt.form {w : World} {v : Value} {l : List Int} (h : IntsAt w v l) : ∃ a cap, v = .slice a l.length cap ∧ l.length ≤ maxLen := by
  obtain ⟨a, cap, hv, hl, _⟩ := h
  exact ⟨a, cap, hv, hl⟩
theorem TermsAt.form {w : World} {v : Value} {l : List (Int × Int)} (h : TermsAt w v l) : ∃ a cap, v = .slice a l.length cap ∧ l.length ≤ maxLen := by
  obtain ⟨a, cap, hv, hl, _⟩ := h
  exact ⟨a, cap, hv, hl⟩
theorem RowsAt.form {w : World} {v : Value} {l : List (List Int)} (h : RowsAt w v l) : ∃ a cap, v = .slice a l.length cap ∧ l.length ≤ maxLen := by
  obtain ⟨a, cap, hv, hl, _⟩ := h
  exact ⟨a, cap, hv, hl⟩

set_option maxHeartbeats 400000 in
theorem every_num (v : Value) (l : List Int) (w : World) (h : IntsAt w v l) : Calls Tryz.prog 90 #[v, .func (.func 64) #[] #[]] w fun e w' => e = .returned (.bool (l.all Md.numB)) ∧ w' = w := by
  obtain ⟨a, cap, rfl, hm, hc⟩ := h
  unfold maxLen at hm
  have HC : Hid (0 < l.length → ∃ b off, a = some ⟨b, off, none⟩ ∧ b < w.heap.size ∧ ∀ j (h : j < l.length), w.cell? ⟨b, off + j, none⟩ = some (.int .i64 l[j])) := hc
  have H0 : Hid ((l.take 0).all Md.numB = true) := by show _ = _; simp
  clear hc
  go_enter Tryz.func90, Tryz.ntmps90
  go_wp2
  go_loop [9] (fun iv => ∃ k : Nat, iv = .int .i64 (k : Int) ∧ k ≤ l.length ∧ Hid ((l.take k).all Md.numB = true)) (fun iv => l.length - (intOf iv).toNat)
  case atStart => exact ⟨0, rfl, Nat.zero_le _, H0⟩
  case round =>
    obtain ⟨k, rfl, hk, hA⟩ := hrel
    clear H0
    by_cases hlt : k < l.length
    · obtain ⟨b, off, rfl, hb, hc⟩ := HC.out (by omega)
      have hcell := hc k hlt
      have hkI : (k : Int) < (l.length : Int) := by omega
      clear hc
      cases hp : Md.numB l[k]
      · have hres : Hid (l.all Md.numB = false) := Md.all_stop hlt hp
        generalize l[k] = x at *
        go_wp2_with (go_at_call 64; refine (isNumber_any _ _).mono ?_; rintro e w' ⟨rfl, rfl⟩)
        go_ret
        exact ⟨ret_bool hres.out.symm, rfl⟩
      · have hres : Hid ((l.take (k + 1)).all Md.numB = true) := Md.all_next hA.out hlt hp
        generalize l[k] = x at *
        go_wp2_with (go_at_call 64; refine (isNumber_any _ _).mono ?_; rintro e w' ⟨rfl, rfl⟩)
        go_round
        case rel => exact ⟨k + 1, by go_num, by omega, hres⟩
        case measure => simp [intOf]; omega
    · have hkI : ¬ (k : Int) < (l.length : Int) := by omega
      have hres : Hid (l.all Md.numB = true) := Md.all_done hA.out (by omega)
      go_wp2
      go_ret
      exact ⟨ret_bool hres.out.symm, rfl⟩
end Go.Proofs.YtdfbmfikhccajaaGreatDoor
