/-
  Pieces and operations held against one another.
-/
import Derived.Test.YtgckmkdmlaocmaaGreatDoorJ24
import Derived.Test.YtgckmkdmlaocmaaGreatDoorJ25
import Derived.ChangeKeysEq
import Derived.Laws.StructEq
namespace Go.Proofs.YtgckmkdmlaocmaaGreatDoor
open Go.RowKit

theorem pc_fields : (Tryz.prog.fieldsOf 111).toList.map (fun f => (f.name, f.type, f.offset)) = [("C", 9, 0), ("L", 3, 1)] := by kernel_rfl
theorem op_fields : (Tryz.prog.fieldsOf 109).toList.map (fun f => (f.name, f.type, f.offset)) = [("Kind", 3, 0), ("N", 9, 1), ("L", 3, 2)] := by kernel_rfl
theorem pc_parts (a b : Value) (w : World) : (part 9 #[a, b] 0).run Tryz.prog w = .ok a w ∧ (part 3 #[a, b] 1).run Tryz.prog w = .ok b w := ⟨by kernel_rfl, by kernel_rfl⟩
theorem op_parts (a b c : Value) (w : World) : (part 3 #[a, b, c] 0).run Tryz.prog w = .ok a w ∧ (part 9 #[a, b, c] 1).run Tryz.prog w = .ok b w ∧ (part 3 #[a, b, c] 2).run Tryz.prog w = .ok c w := ⟨by kernel_rfl, by kernel_rfl, by kernel_rfl⟩
theorem pc_equal (s t : ByteArray) (m n : Int) (w : World) : (Op.equalIn 10000 111 (.agg #[.string s, .int .i64 m]) (.agg #[.string t, .int .i64 n])).run Tryz.prog w = .ok (s.toList == t.toList && m == n) w := by
  rw [run_equalIn_struct (d := 9999) (ht := by kernel_rfl) (hp := by kernel_rfl)]
  have hf := pc_fields
  generalize (Tryz.prog.fieldsOf 111).toList = l at *
  simp only [List.map_eq_cons_iff, List.map_eq_nil_iff, Prod.mk.injEq] at hf
  obtain ⟨f1, l1, rfl, ⟨n1, t1, o1⟩, f2, l2, rfl, ⟨n2, t2, o2⟩, rfl⟩ := hf
  have pa := pc_parts (.string s) (.int .i64 m) w
  have pb := pc_parts (.string t) (.int .i64 n) w
  have eq := fun a b => run_equalIn_int (P := Tryz.prog) w 9998 3 .i64 .i64 a b Tryz.underlying3
  have es := fun a b => run_equalIn_string (P := Tryz.prog) w 9998 9 a b Tryz.underlying9
  simp only [Op.eqFields, n1, n2, t1, t2, o1, o2, Sem.run_bind, pa, pb, eq, es, Result.andThen_ok, Sem.run_ite, Sem.run_pure]
  cases s.toList == t.toList <;> cases m == n <;> simp
theorem op_equal (a c : Int) (s t : ByteArray) (m n : Int) (w : World) : (Op.equalIn 10000 109 (.agg #[.int .i64 a, .string s, .int .i64 m]) (.agg #[.int .i64 c, .string t, .int .i64 n])).run Tryz.prog w = .ok (a == c && s.toList == t.toList && m == n) w := by
  rw [run_equalIn_struct (d := 9999) (ht := by kernel_rfl) (hp := by kernel_rfl)]
  have hf := op_fields
  generalize (Tryz.prog.fieldsOf 109).toList = l at *
  simp only [List.map_eq_cons_iff, List.map_eq_nil_iff, Prod.mk.injEq] at hf
  obtain ⟨f1, l1, rfl, ⟨n1, t1, o1⟩, f2, l2, rfl, ⟨n2, t2, o2⟩, f3, l3, rfl, ⟨n3, t3, o3⟩, rfl⟩ := hf
  have pa := op_parts (.int .i64 a) (.string s) (.int .i64 m) w
  have pb := op_parts (.int .i64 c) (.string t) (.int .i64 n) w
  have eq := fun a b => run_equalIn_int (P := Tryz.prog) w 9998 3 .i64 .i64 a b Tryz.underlying3
  have es := fun a b => run_equalIn_string (P := Tryz.prog) w 9998 9 a b Tryz.underlying9
  simp only [Op.eqFields, n1, n2, n3, t1, t2, t3, o1, o2, o3, Sem.run_bind, pa, pb, eq, es, Result.andThen_ok, Sem.run_ite, Sem.run_pure]
  cases a == c <;> cases s.toList == t.toList <;> cases m == n <;> simp
theorem pc_neq (s t : ByteArray) (m n : Int) (w : World) : (binOp .neq 111 (.agg #[.string s, .int .i64 m]) (.agg #[.string t, .int .i64 n])).run Tryz.prog w = .ok (.bool (!(s.toList == t.toList && m == n))) w := by
  rw [run_neq_struct, pc_equal]
  rfl
theorem op_neq (a c : Int) (s t : ByteArray) (m n : Int) (w : World) : (binOp .neq 109 (.agg #[.int .i64 a, .string s, .int .i64 m]) (.agg #[.int .i64 c, .string t, .int .i64 n])).run Tryz.prog w = .ok (.bool (!(a == c && s.toList == t.toList && m == n))) w := by
  rw [run_neq_struct, op_equal]
  rfl
theorem op_eql (a c : Int) (s t : ByteArray) (m n : Int) (w : World) : (binOp .eql 109 (.agg #[.int .i64 a, .string s, .int .i64 m]) (.agg #[.int .i64 c, .string t, .int .i64 n])).run Tryz.prog w = .ok (.bool (a == c && s.toList == t.toList && m == n)) w := by
  rw [run_eql_struct, op_equal]
  rfl
end Go.Proofs.YtgckmkdmlaocmaaGreatDoor
