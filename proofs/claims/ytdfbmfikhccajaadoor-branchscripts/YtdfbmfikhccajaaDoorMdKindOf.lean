/-
  Package model: kindOf.
-/
import Derived.Test.YtdfbmfikhccajaaDoorMdKinds
namespace Go.Proofs.YtdfbmfikhccajaaDoor
open Go.RowKit

/-- What a kind asks for. -/
def kdVal (o h : Nat) (b : Bool) (m0 m1 m2 m3 : Nat) : Value := .agg #[.func (.func o) #[] #[], .bool b, .int .i64 (m0 : Int), .int .i64 (m1 : Int), .int .i64 (m2 : Int), .int .i64 (m3 : Int), .func (.func h) #[] #[]]

set_option maxRecDepth 10000 in
set_option maxHeartbeats 400000 in
theorem kindOf_none (k : Int) (w : World) (h : k < 1 ∨ 9 < k) : Calls Tryd.prog 34 #[.int .i64 k] w fun e w' => e = .returned (.tuple #[.agg #[.nilFunc, .bool false, .int .i64 0, .int .i64 0, .int .i64 0, .int .i64 0, .nilFunc], .bool false]) ∧ Below w.heap.size w w' := by
  rcases h with h | h
  · go_enter Tryd.func34, Tryd.ntmps34
    go_wp2
    exact bodyPost_ret (v := .tuple #[.agg #[.nilFunc, .bool false, .int .i64 0, .int .i64 0, .int .i64 0, .int .i64 0, .nilFunc], .bool false]) (by simp [results, Tryd.results34, go_sem]) rfl ⟨rfl, (Below.refl _ _).alloc (Nat.le_refl _) _⟩
  · have h1 : ¬ k < 1 := by omega
    go_enter Tryd.func34, Tryd.ntmps34
    go_wp2
    exact bodyPost_ret (v := .tuple #[.agg #[.nilFunc, .bool false, .int .i64 0, .int .i64 0, .int .i64 0, .int .i64 0, .nilFunc], .bool false]) (by simp [results, Tryd.results34, go_sem]) rfl ⟨rfl, (Below.refl _ _).alloc (Nat.le_refl _) _⟩

theorem index_1 (w : World) : (Instr.index 99 (.agg kindCells) (.int .i64 1)).run Tryd.prog w = .ok (.agg #[.func (.func 65) #[] #[], .bool true, .int .i64 64, .int .i64 0, .int .i64 0, .int .i64 0, .func (.func 64) #[] #[]]) w := by kernel_rfl
set_option maxRecDepth 10000 in
set_option maxHeartbeats 400000 in
theorem kindOf_1 (w : World) : Calls Tryd.prog 34 #[.int .i64 1] w fun e w' => e = .returned (.tuple #[kdVal 65 64 true 64 0 0 0, .bool true]) ∧ Below w.heap.size w w' := by
  go_enter Tryd.func34, Tryd.ntmps34
  go_wp2_with fail
  refine (allKinds_any _).mono ?_
  rintro e w1 ⟨rfl, hb1⟩
  obtain ⟨hc, hf⟩ := bcell hb1
  have hb2 : Below w.heap.size w w1 := ((Below.refl _ _).alloc (Nat.le_refl _) _).trans (hb1.mono (by simp))
  have h0 := (hb1.block w.heap.size (by simp)).trans (heap_alloc_new w _)
  have hidx := index_1
  go_wp2
  exact bodyPost_ret (v := .tuple #[kdVal 65 64 true 64 0 0 0, .bool true]) (by simp [results, Tryd.results34, go_sem, kdVal, World.cell?, World.setCell, Array.getElem?_modify, h0]) rfl ⟨rfl, (((((((hb2).setCell (p := ⟨w.heap.size, 0, none⟩) (Nat.le_refl _) _).setCell (p := ⟨w.heap.size, 1, none⟩) (Nat.le_refl _) _).setCell (p := ⟨w.heap.size, 2, none⟩) (Nat.le_refl _) _).setCell (p := ⟨w.heap.size, 3, none⟩) (Nat.le_refl _) _).setCell (p := ⟨w.heap.size, 4, none⟩) (Nat.le_refl _) _).setCell (p := ⟨w.heap.size, 5, none⟩) (Nat.le_refl _) _).setCell (p := ⟨w.heap.size, 6, none⟩) (Nat.le_refl _) _⟩

theorem index_2 (w : World) : (Instr.index 99 (.agg kindCells) (.int .i64 2)).run Tryd.prog w = .ok (.agg #[.func (.func 67) #[] #[], .bool false, .int .i64 0, .int .i64 0, .int .i64 0, .int .i64 0, .func (.func 66) #[] #[]]) w := by kernel_rfl
set_option maxRecDepth 10000 in
set_option maxHeartbeats 400000 in
theorem kindOf_2 (w : World) : Calls Tryd.prog 34 #[.int .i64 2] w fun e w' => e = .returned (.tuple #[kdVal 67 66 false 0 0 0 0, .bool true]) ∧ Below w.heap.size w w' := by
  go_enter Tryd.func34, Tryd.ntmps34
  go_wp2_with fail
  refine (allKinds_any _).mono ?_
  rintro e w1 ⟨rfl, hb1⟩
  obtain ⟨hc, hf⟩ := bcell hb1
  have hb2 : Below w.heap.size w w1 := ((Below.refl _ _).alloc (Nat.le_refl _) _).trans (hb1.mono (by simp))
  have h0 := (hb1.block w.heap.size (by simp)).trans (heap_alloc_new w _)
  have hidx := index_2
  go_wp2
  exact bodyPost_ret (v := .tuple #[kdVal 67 66 false 0 0 0 0, .bool true]) (by simp [results, Tryd.results34, go_sem, kdVal, World.cell?, World.setCell, Array.getElem?_modify, h0]) rfl ⟨rfl, (((((((hb2).setCell (p := ⟨w.heap.size, 0, none⟩) (Nat.le_refl _) _).setCell (p := ⟨w.heap.size, 1, none⟩) (Nat.le_refl _) _).setCell (p := ⟨w.heap.size, 2, none⟩) (Nat.le_refl _) _).setCell (p := ⟨w.heap.size, 3, none⟩) (Nat.le_refl _) _).setCell (p := ⟨w.heap.size, 4, none⟩) (Nat.le_refl _) _).setCell (p := ⟨w.heap.size, 5, none⟩) (Nat.le_refl _) _).setCell (p := ⟨w.heap.size, 6, none⟩) (Nat.le_refl _) _⟩

theorem index_3 (w : World) : (Instr.index 99 (.agg kindCells) (.int .i64 3)).run Tryd.prog w = .ok (.agg #[.func (.func 63) #[] #[], .bool false, .int .i64 0, .int .i64 64, .int .i64 0, .int .i64 0, .func (.func 68) #[] #[]]) w := by kernel_rfl
set_option maxRecDepth 10000 in
set_option maxHeartbeats 400000 in
theorem kindOf_3 (w : World) : Calls Tryd.prog 34 #[.int .i64 3] w fun e w' => e = .returned (.tuple #[kdVal 63 68 false 0 64 0 0, .bool true]) ∧ Below w.heap.size w w' := by
  go_enter Tryd.func34, Tryd.ntmps34
  go_wp2_with fail
  refine (allKinds_any _).mono ?_
  rintro e w1 ⟨rfl, hb1⟩
  obtain ⟨hc, hf⟩ := bcell hb1
  have hb2 : Below w.heap.size w w1 := ((Below.refl _ _).alloc (Nat.le_refl _) _).trans (hb1.mono (by simp))
  have h0 := (hb1.block w.heap.size (by simp)).trans (heap_alloc_new w _)
  have hidx := index_3
  go_wp2
  exact bodyPost_ret (v := .tuple #[kdVal 63 68 false 0 64 0 0, .bool true]) (by simp [results, Tryd.results34, go_sem, kdVal, World.cell?, World.setCell, Array.getElem?_modify, h0]) rfl ⟨rfl, (((((((hb2).setCell (p := ⟨w.heap.size, 0, none⟩) (Nat.le_refl _) _).setCell (p := ⟨w.heap.size, 1, none⟩) (Nat.le_refl _) _).setCell (p := ⟨w.heap.size, 2, none⟩) (Nat.le_refl _) _).setCell (p := ⟨w.heap.size, 3, none⟩) (Nat.le_refl _) _).setCell (p := ⟨w.heap.size, 4, none⟩) (Nat.le_refl _) _).setCell (p := ⟨w.heap.size, 5, none⟩) (Nat.le_refl _) _).setCell (p := ⟨w.heap.size, 6, none⟩) (Nat.le_refl _) _⟩

theorem index_4 (w : World) : (Instr.index 99 (.agg kindCells) (.int .i64 4)).run Tryd.prog w = .ok (.agg #[.func (.func 70) #[] #[], .bool false, .int .i64 0, .int .i64 0, .int .i64 64, .int .i64 0, .func (.func 69) #[] #[]]) w := by kernel_rfl
set_option maxRecDepth 10000 in
set_option maxHeartbeats 400000 in
theorem kindOf_4 (w : World) : Calls Tryd.prog 34 #[.int .i64 4] w fun e w' => e = .returned (.tuple #[kdVal 70 69 false 0 0 64 0, .bool true]) ∧ Below w.heap.size w w' := by
  go_enter Tryd.func34, Tryd.ntmps34
  go_wp2_with fail
  refine (allKinds_any _).mono ?_
  rintro e w1 ⟨rfl, hb1⟩
  obtain ⟨hc, hf⟩ := bcell hb1
  have hb2 : Below w.heap.size w w1 := ((Below.refl _ _).alloc (Nat.le_refl _) _).trans (hb1.mono (by simp))
  have h0 := (hb1.block w.heap.size (by simp)).trans (heap_alloc_new w _)
  have hidx := index_4
  go_wp2
  exact bodyPost_ret (v := .tuple #[kdVal 70 69 false 0 0 64 0, .bool true]) (by simp [results, Tryd.results34, go_sem, kdVal, World.cell?, World.setCell, Array.getElem?_modify, h0]) rfl ⟨rfl, (((((((hb2).setCell (p := ⟨w.heap.size, 0, none⟩) (Nat.le_refl _) _).setCell (p := ⟨w.heap.size, 1, none⟩) (Nat.le_refl _) _).setCell (p := ⟨w.heap.size, 2, none⟩) (Nat.le_refl _) _).setCell (p := ⟨w.heap.size, 3, none⟩) (Nat.le_refl _) _).setCell (p := ⟨w.heap.size, 4, none⟩) (Nat.le_refl _) _).setCell (p := ⟨w.heap.size, 5, none⟩) (Nat.le_refl _) _).setCell (p := ⟨w.heap.size, 6, none⟩) (Nat.le_refl _) _⟩

theorem index_5 (w : World) : (Instr.index 99 (.agg kindCells) (.int .i64 5)).run Tryd.prog w = .ok (.agg #[.func (.func 62) #[] #[], .bool false, .int .i64 0, .int .i64 64, .int .i64 0, .int .i64 0, .func (.func 71) #[] #[]]) w := by kernel_rfl
set_option maxRecDepth 10000 in
set_option maxHeartbeats 400000 in
theorem kindOf_5 (w : World) : Calls Tryd.prog 34 #[.int .i64 5] w fun e w' => e = .returned (.tuple #[kdVal 62 71 false 0 64 0 0, .bool true]) ∧ Below w.heap.size w w' := by
  go_enter Tryd.func34, Tryd.ntmps34
  go_wp2_with fail
  refine (allKinds_any _).mono ?_
  rintro e w1 ⟨rfl, hb1⟩
  obtain ⟨hc, hf⟩ := bcell hb1
  have hb2 : Below w.heap.size w w1 := ((Below.refl _ _).alloc (Nat.le_refl _) _).trans (hb1.mono (by simp))
  have h0 := (hb1.block w.heap.size (by simp)).trans (heap_alloc_new w _)
  have hidx := index_5
  go_wp2
  exact bodyPost_ret (v := .tuple #[kdVal 62 71 false 0 64 0 0, .bool true]) (by simp [results, Tryd.results34, go_sem, kdVal, World.cell?, World.setCell, Array.getElem?_modify, h0]) rfl ⟨rfl, (((((((hb2).setCell (p := ⟨w.heap.size, 0, none⟩) (Nat.le_refl _) _).setCell (p := ⟨w.heap.size, 1, none⟩) (Nat.le_refl _) _).setCell (p := ⟨w.heap.size, 2, none⟩) (Nat.le_refl _) _).setCell (p := ⟨w.heap.size, 3, none⟩) (Nat.le_refl _) _).setCell (p := ⟨w.heap.size, 4, none⟩) (Nat.le_refl _) _).setCell (p := ⟨w.heap.size, 5, none⟩) (Nat.le_refl _) _).setCell (p := ⟨w.heap.size, 6, none⟩) (Nat.le_refl _) _⟩

theorem index_6 (w : World) : (Instr.index 99 (.agg kindCells) (.int .i64 6)).run Tryd.prog w = .ok (.agg #[.func (.func 62) #[] #[], .bool false, .int .i64 0, .int .i64 64, .int .i64 0, .int .i64 0, .func (.func 72) #[] #[]]) w := by kernel_rfl
set_option maxRecDepth 10000 in
set_option maxHeartbeats 400000 in
theorem kindOf_6 (w : World) : Calls Tryd.prog 34 #[.int .i64 6] w fun e w' => e = .returned (.tuple #[kdVal 62 72 false 0 64 0 0, .bool true]) ∧ Below w.heap.size w w' := by
  go_enter Tryd.func34, Tryd.ntmps34
  go_wp2_with fail
  refine (allKinds_any _).mono ?_
  rintro e w1 ⟨rfl, hb1⟩
  obtain ⟨hc, hf⟩ := bcell hb1
  have hb2 : Below w.heap.size w w1 := ((Below.refl _ _).alloc (Nat.le_refl _) _).trans (hb1.mono (by simp))
  have h0 := (hb1.block w.heap.size (by simp)).trans (heap_alloc_new w _)
  have hidx := index_6
  go_wp2
  exact bodyPost_ret (v := .tuple #[kdVal 62 72 false 0 64 0 0, .bool true]) (by simp [results, Tryd.results34, go_sem, kdVal, World.cell?, World.setCell, Array.getElem?_modify, h0]) rfl ⟨rfl, (((((((hb2).setCell (p := ⟨w.heap.size, 0, none⟩) (Nat.le_refl _) _).setCell (p := ⟨w.heap.size, 1, none⟩) (Nat.le_refl _) _).setCell (p := ⟨w.heap.size, 2, none⟩) (Nat.le_refl _) _).setCell (p := ⟨w.heap.size, 3, none⟩) (Nat.le_refl _) _).setCell (p := ⟨w.heap.size, 4, none⟩) (Nat.le_refl _) _).setCell (p := ⟨w.heap.size, 5, none⟩) (Nat.le_refl _) _).setCell (p := ⟨w.heap.size, 6, none⟩) (Nat.le_refl _) _⟩

theorem index_7 (w : World) : (Instr.index 99 (.agg kindCells) (.int .i64 7)).run Tryd.prog w = .ok (.agg #[.func (.func 74) #[] #[], .bool false, .int .i64 64, .int .i64 0, .int .i64 0, .int .i64 0, .func (.func 73) #[] #[]]) w := by kernel_rfl
set_option maxRecDepth 10000 in
set_option maxHeartbeats 400000 in
theorem kindOf_7 (w : World) : Calls Tryd.prog 34 #[.int .i64 7] w fun e w' => e = .returned (.tuple #[kdVal 74 73 false 64 0 0 0, .bool true]) ∧ Below w.heap.size w w' := by
  go_enter Tryd.func34, Tryd.ntmps34
  go_wp2_with fail
  refine (allKinds_any _).mono ?_
  rintro e w1 ⟨rfl, hb1⟩
  obtain ⟨hc, hf⟩ := bcell hb1
  have hb2 : Below w.heap.size w w1 := ((Below.refl _ _).alloc (Nat.le_refl _) _).trans (hb1.mono (by simp))
  have h0 := (hb1.block w.heap.size (by simp)).trans (heap_alloc_new w _)
  have hidx := index_7
  go_wp2
  exact bodyPost_ret (v := .tuple #[kdVal 74 73 false 64 0 0 0, .bool true]) (by simp [results, Tryd.results34, go_sem, kdVal, World.cell?, World.setCell, Array.getElem?_modify, h0]) rfl ⟨rfl, (((((((hb2).setCell (p := ⟨w.heap.size, 0, none⟩) (Nat.le_refl _) _).setCell (p := ⟨w.heap.size, 1, none⟩) (Nat.le_refl _) _).setCell (p := ⟨w.heap.size, 2, none⟩) (Nat.le_refl _) _).setCell (p := ⟨w.heap.size, 3, none⟩) (Nat.le_refl _) _).setCell (p := ⟨w.heap.size, 4, none⟩) (Nat.le_refl _) _).setCell (p := ⟨w.heap.size, 5, none⟩) (Nat.le_refl _) _).setCell (p := ⟨w.heap.size, 6, none⟩) (Nat.le_refl _) _⟩

theorem index_8 (w : World) : (Instr.index 99 (.agg kindCells) (.int .i64 8)).run Tryd.prog w = .ok (.agg #[.func (.func 63) #[] #[], .bool false, .int .i64 0, .int .i64 8, .int .i64 0, .int .i64 64, .func (.func 75) #[] #[]]) w := by kernel_rfl
set_option maxRecDepth 10000 in
set_option maxHeartbeats 400000 in
theorem kindOf_8 (w : World) : Calls Tryd.prog 34 #[.int .i64 8] w fun e w' => e = .returned (.tuple #[kdVal 63 75 false 0 8 0 64, .bool true]) ∧ Below w.heap.size w w' := by
  go_enter Tryd.func34, Tryd.ntmps34
  go_wp2_with fail
  refine (allKinds_any _).mono ?_
  rintro e w1 ⟨rfl, hb1⟩
  obtain ⟨hc, hf⟩ := bcell hb1
  have hb2 : Below w.heap.size w w1 := ((Below.refl _ _).alloc (Nat.le_refl _) _).trans (hb1.mono (by simp))
  have h0 := (hb1.block w.heap.size (by simp)).trans (heap_alloc_new w _)
  have hidx := index_8
  go_wp2
  exact bodyPost_ret (v := .tuple #[kdVal 63 75 false 0 8 0 64, .bool true]) (by simp [results, Tryd.results34, go_sem, kdVal, World.cell?, World.setCell, Array.getElem?_modify, h0]) rfl ⟨rfl, (((((((hb2).setCell (p := ⟨w.heap.size, 0, none⟩) (Nat.le_refl _) _).setCell (p := ⟨w.heap.size, 1, none⟩) (Nat.le_refl _) _).setCell (p := ⟨w.heap.size, 2, none⟩) (Nat.le_refl _) _).setCell (p := ⟨w.heap.size, 3, none⟩) (Nat.le_refl _) _).setCell (p := ⟨w.heap.size, 4, none⟩) (Nat.le_refl _) _).setCell (p := ⟨w.heap.size, 5, none⟩) (Nat.le_refl _) _).setCell (p := ⟨w.heap.size, 6, none⟩) (Nat.le_refl _) _⟩

theorem index_9 (w : World) : (Instr.index 99 (.agg kindCells) (.int .i64 9)).run Tryd.prog w = .ok (.agg #[.func (.func 77) #[] #[], .bool true, .int .i64 0, .int .i64 64, .int .i64 0, .int .i64 0, .func (.func 76) #[] #[]]) w := by kernel_rfl
set_option maxRecDepth 10000 in
set_option maxHeartbeats 400000 in
theorem kindOf_9 (w : World) : Calls Tryd.prog 34 #[.int .i64 9] w fun e w' => e = .returned (.tuple #[kdVal 77 76 true 0 64 0 0, .bool true]) ∧ Below w.heap.size w w' := by
  go_enter Tryd.func34, Tryd.ntmps34
  go_wp2_with fail
  refine (allKinds_any _).mono ?_
  rintro e w1 ⟨rfl, hb1⟩
  obtain ⟨hc, hf⟩ := bcell hb1
  have hb2 : Below w.heap.size w w1 := ((Below.refl _ _).alloc (Nat.le_refl _) _).trans (hb1.mono (by simp))
  have h0 := (hb1.block w.heap.size (by simp)).trans (heap_alloc_new w _)
  have hidx := index_9
  go_wp2
  exact bodyPost_ret (v := .tuple #[kdVal 77 76 true 0 64 0 0, .bool true]) (by simp [results, Tryd.results34, go_sem, kdVal, World.cell?, World.setCell, Array.getElem?_modify, h0]) rfl ⟨rfl, (((((((hb2).setCell (p := ⟨w.heap.size, 0, none⟩) (Nat.le_refl _) _).setCell (p := ⟨w.heap.size, 1, none⟩) (Nat.le_refl _) _).setCell (p := ⟨w.heap.size, 2, none⟩) (Nat.le_refl _) _).setCell (p := ⟨w.heap.size, 3, none⟩) (Nat.le_refl _) _).setCell (p := ⟨w.heap.size, 4, none⟩) (Nat.le_refl _) _).setCell (p := ⟨w.heap.size, 5, none⟩) (Nat.le_refl _) _).setCell (p := ⟨w.heap.size, 6, none⟩) (Nat.le_refl _) _⟩
end Go.Proofs.YtdfbmfikhccajaaDoor
