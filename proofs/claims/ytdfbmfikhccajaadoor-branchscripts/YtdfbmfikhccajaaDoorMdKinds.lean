/-
  Package model: the table of kinds.
-/
import Derived.Test.YtdfbmfikhccajaaDoorMdPlain
import Derived.Laws.Tables
namespace Go.Proofs.YtdfbmfikhccajaaDoor
open Go.RowKit

/-- The table of kinds. -/
def kindCells : Array Value := #[.nilFunc, .bool false, .int .i64 0, .int .i64 0, .int .i64 0, .int .i64 0, .nilFunc,
  .func (.func 65) #[] #[], .bool true, .int .i64 64, .int .i64 0, .int .i64 0, .int .i64 0, .func (.func 64) #[] #[],
  .func (.func 67) #[] #[], .bool false, .int .i64 0, .int .i64 0, .int .i64 0, .int .i64 0, .func (.func 66) #[] #[],
  .func (.func 63) #[] #[], .bool false, .int .i64 0, .int .i64 64, .int .i64 0, .int .i64 0, .func (.func 68) #[] #[],
  .func (.func 70) #[] #[], .bool false, .int .i64 0, .int .i64 0, .int .i64 64, .int .i64 0, .func (.func 69) #[] #[],
  .func (.func 62) #[] #[], .bool false, .int .i64 0, .int .i64 64, .int .i64 0, .int .i64 0, .func (.func 71) #[] #[],
  .func (.func 62) #[] #[], .bool false, .int .i64 0, .int .i64 64, .int .i64 0, .int .i64 0, .func (.func 72) #[] #[],
  .func (.func 74) #[] #[], .bool false, .int .i64 64, .int .i64 0, .int .i64 0, .int .i64 0, .func (.func 73) #[] #[],
  .func (.func 63) #[] #[], .bool false, .int .i64 0, .int .i64 8, .int .i64 0, .int .i64 64, .func (.func 75) #[] #[],
  .func (.func 77) #[] #[], .bool true, .int .i64 0, .int .i64 64, .int .i64 0, .int .i64 0, .func (.func 76) #[] #[]]

theorem wpList_build_to {P : Program} {ops : Array Oper} {rest : List Oper} {o : Oper} {a : Act} {w : World} {Q : Exit → Act → World → Prop} (hg : o.guard = none) (t : TypeId) (parts : Array (Nat × Operand)) (ho : o.op = .build t parts) (cells : Array Value)
    (hf : P.built t (parts.map fun (i, x) => (i, a.eval x)).toList = some cells) (h : wpList P ops Q rest (a.put o.dst (.agg cells)) w) : wpList P ops Q (o :: rest) a w :=
  wpList_build hg t parts ho (by rw [hf]; rfl) (by rw [hf]; exact h)

theorem setRow_alloc (w : World) (o c : Array Value) (t : TypeId) : (w.alloc (.cells o t)).setRow w.heap.size c = w.alloc (.cells c t) := by
  unfold World.setRow World.alloc
  congr 1
  apply Array.ext
  · simp
  · intro i h1 h2
    simp only [Array.getElem_modify, Array.getElem_push]
    split
    · rename_i h; subst h; simp
    · rename_i h
      have hi : i < w.heap.size := by simp at h2; omega
      simp [hi]

theorem kinds_size : (Tryd.prog.info? 99).map (·.size) = some kindCells.size := by kernel_rfl
theorem kinds_one : kindCells.all (·.oneCell') = true := by kernel_rfl

set_option maxRecDepth 10000 in
set_option maxHeartbeats 400000 in
theorem allKinds_any (w : World) : Calls Tryd.prog 50 #[] w fun e w' => e = .returned (.agg kindCells) ∧ Below w.heap.size w w' := by
  go_enter Tryd.func50, Tryd.ntmps50
  go_wp2_with (first
    | (refine wpList_build_to rfl 99 _ rfl kindCells (by kernel_rfl) ?_)
    | (refine wpList_store_row rfl 99 _ _ rfl w.heap.size kindCells rfl rfl 99 _ (heap_alloc_new w _) kinds_size (by rfl) kinds_one ?_; rw [setRow_alloc]))
  exact bodyPost_ret (v := .agg kindCells) (results_cell_row (p := 0) (ty := 99) rfl _ _ w.heap.size 99 kindCells (0, 0) (.array 10 85) rfl (heap_alloc_new w _) (by kernel_rfl) rfl kinds_size) rfl ⟨rfl, (Below.refl _ _).alloc (Nat.le_refl _) _⟩
end Go.Proofs.YtdfbmfikhccajaaDoor
