/-
  Package model: the table of kinds.
-/
import Derived.Test.YtakdboddbgihpaaDoorMdPlain
import Derived.Laws.Tables
namespace Go.Proofs.YtakdboddbgihpaaDoor
open Go.RowKit

/-- The table of kinds. -/
def kindCells : Array Value := #[.nilFunc, .bool false, .int .i64 0, .int .i64 0, .int .i64 0, .int .i64 0, .nilFunc,
  .func (.func 82) #[] #[], .bool true, .int .i64 64, .int .i64 0, .int .i64 0, .int .i64 0, .func (.func 81) #[] #[],
  .func (.func 84) #[] #[], .bool false, .int .i64 0, .int .i64 0, .int .i64 0, .int .i64 0, .func (.func 83) #[] #[],
  .func (.func 80) #[] #[], .bool false, .int .i64 0, .int .i64 64, .int .i64 0, .int .i64 0, .func (.func 85) #[] #[],
  .func (.func 87) #[] #[], .bool false, .int .i64 0, .int .i64 0, .int .i64 64, .int .i64 0, .func (.func 86) #[] #[],
  .func (.func 79) #[] #[], .bool false, .int .i64 0, .int .i64 64, .int .i64 0, .int .i64 0, .func (.func 88) #[] #[],
  .func (.func 79) #[] #[], .bool false, .int .i64 0, .int .i64 64, .int .i64 0, .int .i64 0, .func (.func 89) #[] #[],
  .func (.func 91) #[] #[], .bool false, .int .i64 64, .int .i64 0, .int .i64 0, .int .i64 0, .func (.func 90) #[] #[],
  .func (.func 80) #[] #[], .bool false, .int .i64 0, .int .i64 8, .int .i64 0, .int .i64 64, .func (.func 92) #[] #[],
  .func (.func 94) #[] #[], .bool true, .int .i64 0, .int .i64 64, .int .i64 0, .int .i64 0, .func (.func 93) #[] #[]]

theorem wpList_build_to {P : Program} {ops : Array Oper} {rest : List Oper} {o : Oper} {a : Act} {w : World} {Q : Exit → Act → World → Prop} (hg : o.guard = none) (t : TypeId) (parts : Array (Nat × Operand)) (ho : o.op = .build t parts) (cells : Array Value)
    (hf : P.built t (parts.map fun (i, x) => (i, a.eval x)).toList = some cells) (h : wpList P ops Q rest (a.put o.dst (.agg cells)) w) : wpList P ops Q (o :: rest) a w :=
  wpList_build hg t parts ho (by rw [hf]; rfl) (by rw [hf]; exact h)

theorem setRow_alloc (w : World) (o c : Array Value) (t : TypeId) : (w.alloc (.cells o t)).setRow w.heap.size c = w.alloc (.cells c t) := by
  unfold World.setRow World.alloc
  congr 1
  apply Array.ext
  · simp
  · intro i h1 h2
    simp only [Array.getElem_modify, Array.getElem_push]
    split
    · rename_i h; subst h; simp
    · rename_i h
      have hi : i < w.heap.size := by simp at h2; omega
      simp [hi]

theorem kinds_size : (Tryd.prog.info? 107).map (·.size) = some kindCells.size := by kernel_rfl
theorem kinds_one : kindCells.all (·.oneCell') = true := by kernel_rfl

set_option maxRecDepth 10000 in
set_option maxHeartbeats 400000 in
theorem allKinds_any (w : World) : Calls Tryd.prog 70 #[] w fun e w' => e = .returned (.agg kindCells) ∧ Below w.heap.size w w' := by
  go_enter Tryd.func70, Tryd.ntmps70
  go_wp2_with (first
    | (refine wpList_build_to rfl 107 _ rfl kindCells (by kernel_rfl) ?_)
    | (refine wpList_store_row rfl 107 _ _ rfl w.heap.size kindCells rfl rfl 107 _ (heap_alloc_new w _) kinds_size (by rfl) kinds_one ?_; rw [setRow_alloc]))
  exact bodyPost_ret (v := .agg kindCells) (results_cell_row (p := 0) (ty := 107) rfl _ _ w.heap.size 107 kindCells (0, 0) (.array 10 93) rfl (heap_alloc_new w _) (by kernel_rfl) rfl kinds_size) rfl ⟨rfl, (Below.refl _ _).alloc (Nat.le_refl _) _⟩
end Go.Proofs.YtakdboddbgihpaaDoor
