/-
  Arrays and structs held against one another.
-/
import Derived.Test.YtkgeknlmkkoobaaOdNew
import Derived.ChangeKeysEq
import Derived.Laws.StructEq
namespace Go.Proofs.Ytkgeknlmkkoobaa
open Go.RowKit

theorem u79 : Try.prog.underlying 79 = some (.array 2 4) := by kernel_rfl
theorem u104 : Try.prog.underlying 104 = some (.array 8 3) := by kernel_rfl
theorem under4 : Try.prog.underlying 4 = some .bool := by kernel_rfl
theorem cells3' : Try.prog.cellsOf 3 = 1 := by kernel_rfl
theorem cells4' : Try.prog.cellsOf 4 = 1 := by kernel_rfl
theorem info4' : (Try.prog.info? 4).map (fun i => (i.zero, i.size, i.bytes)) = some (some (.bool false), 1, 1) := by kernel_rfl
theorem range2 : List.range 2 = [0, 1] := rfl
theorem range8 : List.range 8 = [0, 1, 2, 3, 4, 5, 6, 7] := rfl
theorem part2 (a0 a1 : Value) (w : World) : (part 4 #[a0, a1] 0).run Try.prog w = .ok a0 w ∧ (part 4 #[a0, a1] 1).run Try.prog w = .ok a1 w := ⟨by kernel_rfl, by kernel_rfl⟩
theorem part8 (a0 a1 a2 a3 a4 a5 a6 a7 : Value) (w : World) : (part 3 #[a0, a1, a2, a3, a4, a5, a6, a7] 0).run Try.prog w = .ok a0 w ∧ (part 3 #[a0, a1, a2, a3, a4, a5, a6, a7] 1).run Try.prog w = .ok a1 w ∧ (part 3 #[a0, a1, a2, a3, a4, a5, a6, a7] 2).run Try.prog w = .ok a2 w ∧ (part 3 #[a0, a1, a2, a3, a4, a5, a6, a7] 3).run Try.prog w = .ok a3 w ∧ (part 3 #[a0, a1, a2, a3, a4, a5, a6, a7] 4).run Try.prog w = .ok a4 w ∧ (part 3 #[a0, a1, a2, a3, a4, a5, a6, a7] 5).run Try.prog w = .ok a5 w ∧ (part 3 #[a0, a1, a2, a3, a4, a5, a6, a7] 6).run Try.prog w = .ok a6 w ∧ (part 3 #[a0, a1, a2, a3, a4, a5, a6, a7] 7).run Try.prog w = .ok a7 w :=
  ⟨by kernel_rfl, by kernel_rfl, by kernel_rfl, by kernel_rfl, by kernel_rfl, by kernel_rfl, by kernel_rfl, by kernel_rfl⟩
theorem mark_neq (a b c d : Bool) (w : World) : (binOp .neq 79 (.agg #[.bool a, .bool b]) (.agg #[.bool c, .bool d])).run Try.prog w = .ok (.bool (!(a == c && b == d))) w := by
  obtain ⟨i, hi, _⟩ := info_of info4'
  rw [run_neq_struct, run_equalIn_array (P := Try.prog) w 9999 _ _ u79 hi]
  have pa := part2 (.bool a) (.bool b) w
  have pb := part2 (.bool c) (.bool d) w
  have eq := fun a b => run_equalIn_bool (P := Try.prog) w 9998 4 a b under4
  simp only [range2, Op.eqItems, cells4', Nat.zero_mul, Nat.one_mul, Sem.run_bind, pa, pb, eq, Result.andThen_ok, Sem.run_ite, Sem.run_pure]
  cases a == c <;> cases b == d <;> simp [Result.andThen]
theorem ent_eql (a0 a1 a2 a3 a4 a5 a6 a7 b0 b1 b2 b3 b4 b5 b6 b7 : Int) (w : World) :
    (binOp .eql 104 (.agg #[.int .i64 a0, .int .i64 a1, .int .i64 a2, .int .i64 a3, .int .i64 a4, .int .i64 a5, .int .i64 a6, .int .i64 a7]) (.agg #[.int .i64 b0, .int .i64 b1, .int .i64 b2, .int .i64 b3, .int .i64 b4, .int .i64 b5, .int .i64 b6, .int .i64 b7])).run Try.prog w
      = .ok (.bool (a0 == b0 && a1 == b1 && a2 == b2 && a3 == b3 && a4 == b4 && a5 == b5 && a6 == b6 && a7 == b7)) w := by
  obtain ⟨i, hi, _⟩ := info_of info3'
  rw [run_eql_struct, run_equalIn_array (P := Try.prog) w 9999 _ _ u104 hi]
  have pa := part8 (.int .i64 a0) (.int .i64 a1) (.int .i64 a2) (.int .i64 a3) (.int .i64 a4) (.int .i64 a5) (.int .i64 a6) (.int .i64 a7) w
  have pb := part8 (.int .i64 b0) (.int .i64 b1) (.int .i64 b2) (.int .i64 b3) (.int .i64 b4) (.int .i64 b5) (.int .i64 b6) (.int .i64 b7) w
  have eq := fun a b => run_equalIn_int (P := Try.prog) w 9998 3 .i64 .i64 a b under3
  simp only [range8, Op.eqItems, cells3', Nat.zero_mul, Nat.one_mul, Nat.reduceMul, Sem.run_bind, pa, pb, eq, Result.andThen_ok, Sem.run_ite, Sem.run_pure]
  cases a0 == b0 <;> cases a1 == b1 <;> cases a2 == b2 <;> cases a3 == b3 <;> cases a4 == b4 <;> cases a5 == b5 <;> cases a6 == b6 <;> cases a7 == b7 <;> simp [Result.andThen]

/-- What a number says. -/
structure Mn where
  x : Int
  v : Int
  is : Bool
  con : Int
  row : Int
  pick : Bool
def mnVal (m : Mn) : Value := .agg #[.int .i64 m.x, .int .i64 m.v, .bool m.is, .int .i64 m.con, .int .i64 m.row, .bool m.pick]
theorem mean_fields : (Try.prog.fieldsOf 42).toList.map (fun f => (f.name, f.type, f.offset)) = [("X", 3, 0), ("V", 3, 1), ("Is", 4, 2), ("Con", 3, 3), ("Row", 3, 4), ("Pick", 4, 5)] := by kernel_rfl
theorem part6m (a1 a2 a3 a4 a5 a6 : Value) (w : World) : (part 3 #[a1, a2, a3, a4, a5, a6] 0).run Try.prog w = .ok a1 w ∧ (part 3 #[a1, a2, a3, a4, a5, a6] 1).run Try.prog w = .ok a2 w ∧ (part 4 #[a1, a2, a3, a4, a5, a6] 2).run Try.prog w = .ok a3 w ∧
    (part 3 #[a1, a2, a3, a4, a5, a6] 3).run Try.prog w = .ok a4 w ∧ (part 3 #[a1, a2, a3, a4, a5, a6] 4).run Try.prog w = .ok a5 w ∧ (part 4 #[a1, a2, a3, a4, a5, a6] 5).run Try.prog w = .ok a6 w :=
  ⟨by kernel_rfl, by kernel_rfl, by kernel_rfl, by kernel_rfl, by kernel_rfl, by kernel_rfl⟩
theorem mean_equal (m k : Mn) (w : World) : (Op.equalIn 10000 42 (mnVal m) (mnVal k)).run Try.prog w = .ok (m.x == k.x && m.v == k.v && m.is == k.is && m.con == k.con && m.row == k.row && m.pick == k.pick) w := by
  obtain ⟨a1, a2, a3, a4, a5, a6⟩ := m
  obtain ⟨b1, b2, b3, b4, b5, b6⟩ := k
  unfold mnVal
  simp only
  rw [run_equalIn_struct (d := 9999) (ht := by kernel_rfl) (hp := by kernel_rfl)]
  have hf := mean_fields
  generalize (Try.prog.fieldsOf 42).toList = l at *
  simp only [List.map_eq_cons_iff, List.map_eq_nil_iff, Prod.mk.injEq] at hf
  obtain ⟨f1, l1, rfl, ⟨n1, t1, o1⟩, f2, l2, rfl, ⟨n2, t2, o2⟩, f3, l3, rfl, ⟨n3, t3, o3⟩, f4, l4, rfl, ⟨n4, t4, o4⟩, f5, l5, rfl, ⟨n5, t5, o5⟩, f6, l6, rfl, ⟨n6, t6, o6⟩, rfl⟩ := hf
  have pa := part6m (.int .i64 a1) (.int .i64 a2) (.bool a3) (.int .i64 a4) (.int .i64 a5) (.bool a6) w
  have pb := part6m (.int .i64 b1) (.int .i64 b2) (.bool b3) (.int .i64 b4) (.int .i64 b5) (.bool b6) w
  have eq := fun a b => run_equalIn_int (P := Try.prog) w 9998 3 .i64 .i64 a b under3
  have eb := fun a b => run_equalIn_bool (P := Try.prog) w 9998 4 a b under4
  simp only [Op.eqFields, n1, n2, n3, n4, n5, n6, t1, t2, t3, t4, t5, t6, o1, o2, o3, o4, o5, o6, Sem.run_bind, pa, pb, eq, eb, Result.andThen_ok, Sem.run_ite, Sem.run_pure]
  cases a1 == b1 <;> cases a2 == b2 <;> cases a3 == b3 <;> cases a4 == b4 <;> cases a5 == b5 <;> cases a6 == b6 <;> simp
theorem mean_same (m : Mn) (w : World) : (binOp .neq 42 (mnVal m) (mnVal m)).run Try.prog w = .ok (.bool false) w ∧ (binOp .eql 42 (mnVal m) (mnVal m)).run Try.prog w = .ok (.bool true) w := by
  have h := mean_equal m m w
  simp only [beq_self_eq_true, Bool.and_true] at h
  unfold mnVal at *
  rw [run_neq_struct, run_eql_struct, h]
  exact ⟨rfl, rfl⟩
end Go.Proofs.Ytkgeknlmkkoobaa
