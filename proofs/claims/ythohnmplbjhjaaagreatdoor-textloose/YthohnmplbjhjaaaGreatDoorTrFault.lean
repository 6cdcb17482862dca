/-
  A fault of a text; what the law sees of it.
-/
import Derived.Test.YthohnmplbjhjaaaGreatDoorTrReadA
namespace Go.Proofs.YthohnmplbjhjaaaGreatDoor
open Go Go.RowKit Go.Shelf Go.Lib

theorem results_row_tmp {P : Program} {fn : Func} {p u : Tmp} {ty : TypeId} (h : fn.results = #[.cell p ty, .tmp u]) (tmps : Array Value) (w : World) (g : Nat) (t : TypeId) (cs : Array Value) (fr : Nat × Nat) (d : TypeDesc)
    (hp : tmps.getD p undef = .pointer (some ⟨g, 0, none⟩)) (hg : w.heap[g]? = some (.cells cs t fr))
    (hu : P.underlying ty = some d) (hd : (match d with | .struct _ | .array _ _ => true | _ => false) = true) (hi : (P.info? ty).map (·.size) = some cs.size) :
    (results fn tmps).run P w = .ok (.tuple #[.agg cs, tmps.getD u undef]) w := by
  rw [results_cell_tmp h, hp]
  simp [asAddr, run_loadVar_row w g t ty cs fr d hg hu hd hi, Result.andThen]
def moZ : Array Value := #[.slice none 0 0, .slice none 0 0, .bool false, .slice none 0 0]
theorem mo_size (a b c d : Value) : (Tryz.prog.info? 26).map (·.size) = some (#[a, b, c, d] : Array Value).size := by
  show _ = some 4
  kernel_rfl
theorem ft_size (a b c : Value) : (Tryz.prog.info? 44).map (·.size) = some (#[a, b, c] : Array Value).size := by
  show _ = some 3
  kernel_rfl

set_option maxRecDepth 10000 in
set_option maxHeartbeats 1000000 in
theorem fault_made (n e : Int) (w : World) : Calls Tryz.prog 26 #[.int .i64 n, .int .i64 e] w fun en w' => ∃ F, en = .returned (.tuple #[.agg #[.slice none 0 0, .slice none 0 0, .bool false, .slice none 0 0], .iface 91 (.pointer (some ⟨F, 0, none⟩))]) ∧ w'.heap[F]? = some (.cells #[.int .i64 1, .int .i64 n, .int .i64 e] 44 (0, 0)) ∧ w.heap.size ≤ F ∧ Below w.heap.size w w' := by
  go_enter Tryz.func26, Tryz.ntmps26
  go_wp2_with fail
  refine bodyPost_ret (results_row_tmp (p := 4) (u := 5) (ty := 26) rfl _ _ w.heap.size 26 _ (0, 0) _ rfl (heap_alloc2_old w _ _) Tryz.underlying26 rfl (mo_size _ _ _ _)) rfl ?_
  exact ⟨w.heap.size + 1, rfl, heap_alloc2_new w _ _, by omega, ((Below.refl _ _).alloc (Nat.le_refl _) _).alloc (by simp) _⟩

theorem run_assert (p : Value) (w : World) : (Instr.typeAssert (.iface 91 p) 35 91 true).run Tryz.prog w = .ok (.tuple #[p, .bool true]) w := by kernel_rfl
attribute [local go_sem] run_assert

set_option maxRecDepth 10000 in
set_option maxHeartbeats 1000000 in
theorem law_fault (F : Nat) (n e : Int) (w : World) (h : w.heap[F]? = some (.cells #[.int .i64 1, .int .i64 n, .int .i64 e] 44 (0, 0))) (he : e ≠ 0) : Calls Tryz.prog 17 #[.iface 91 (.pointer (some ⟨F, 0, none⟩))] w fun en w' => en = .returned (.tuple #[.agg #[.int .i64 1, .int .i64 n, .int .i64 e], .bool true]) ∧ Below w.heap.size w w' := by
  obtain ⟨W, hW⟩ : ∃ W, w.alloc (.cells #[.int .i64 0, .int .i64 0, .int .i64 0] 44) = W := ⟨_, rfl⟩
  have hb : Below w.heap.size w W := hW ▸ (Below.refl _ _).alloc (Nat.le_refl _) _
  have hF : W.heap[F]? = some (.cells #[.int .i64 1, .int .i64 n, .int .i64 e] 44 (0, 0)) := (hb.block F (Array.getElem?_eq_some_iff.1 h).1).trans h
  have hR : W.heap[w.heap.size]? = some (.cells #[.int .i64 0, .int .i64 0, .int .i64 0] 44 (0, 0)) := hW ▸ heap_alloc_new w _
  have c0 : W.cell? ⟨F, 0, none⟩ = some (.int .i64 1) := by rw [cell_of hF 0]; rfl
  have c1 : W.cell? ⟨F, 1, none⟩ = some (.int .i64 n) := by rw [cell_of hF 1]; rfl
  have c2 : W.cell? ⟨F, 2, none⟩ = some (.int .i64 e) := by rw [cell_of hF 2]; rfl
  have he' : (e == 0) = false := by simp [he]
  have HB : Hid (Below w.heap.size w W) := hb
  clear hb hF h he
  go_enter Tryz.func17, Tryz.ntmps17
  go_wp2_with (refine wpList_store_row rfl 44 _ _ rfl w.heap.size #[.int .i64 1, .int .i64 n, .int .i64 e] rfl rfl 44 _ hR (ft_size _ _ _) (by rfl) (by kernel_rfl) ?_)
  refine bodyPost_ret (results_row_tmp (p := 2) (u := 3) (ty := 44) rfl _ _ w.heap.size 44 _ (0, 0) _ rfl (setRow_heap _ _ _ _ _ _ hR) Tryz.underlying44 rfl (ft_size _ _ _)) rfl ?_
  exact ⟨rfl, below_setRow HB.out (Nat.le_refl _) _⟩

set_option maxRecDepth 10000 in
set_option maxHeartbeats 1000000 in
theorem law_none (w : World) : Calls Tryz.prog 17 #[.nilIface] w fun en w' => en = .returned (.tuple #[.agg #[.int .i64 0, .int .i64 0, .int .i64 0], .bool true]) ∧ Below w.heap.size w w' := by
  obtain ⟨W, hW⟩ : ∃ W, w.alloc (.cells #[.int .i64 0, .int .i64 0, .int .i64 0] 44) = W := ⟨_, rfl⟩
  have hb : Below w.heap.size w W := hW ▸ (Below.refl _ _).alloc (Nat.le_refl _) _
  have hR : W.heap[w.heap.size]? = some (.cells #[.int .i64 0, .int .i64 0, .int .i64 0] 44 (0, 0)) := hW ▸ heap_alloc_new w _
  have HB : Hid (Below w.heap.size w W) := hb
  clear hb
  go_enter Tryz.func17, Tryz.ntmps17
  go_wp2_with (first
    | (refine wpList_build_to rfl 44 _ rfl #[.int .i64 0, .int .i64 0, .int .i64 0] (by kernel_rfl) ?_)
    | (refine wpList_store_row rfl 44 _ _ rfl w.heap.size #[.int .i64 0, .int .i64 0, .int .i64 0] rfl rfl 44 _ hR (ft_size _ _ _) (by rfl) (by kernel_rfl) ?_))
  refine bodyPost_ret (results_row_tmp (p := 2) (u := 3) (ty := 44) rfl _ _ w.heap.size 44 _ (0, 0) _ rfl (setRow_heap _ _ _ _ _ _ hR) Tryz.underlying44 rfl (ft_size _ _ _)) rfl ?_
  exact ⟨rfl, below_setRow HB.out (Nat.le_refl _) _⟩
end Go.Proofs.YthohnmplbjhjaaaGreatDoor
