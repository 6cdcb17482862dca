/-
  Put together: AwEq, AwLaw.
-/
import Derived.Test.YtgckmkdmlaocmaaGreatDoorJ47
import Derived.ChangeKeysEq
import Derived.Laws.StructEq
namespace Go.Proofs.YtgckmkdmlaocmaaGreatDoor
open Go Go.RowKit

theorem wd_fields : (Tryz.prog.fieldsOf 24).toList.map (fun f => (f.name, f.type, f.offset)) = [("Lines", 3, 0), ("Bytes", 3, 1), ("Rows", 3, 2), ("Gone", 3, 3), ("Peak", 3, 4), ("Longest", 3, 5), ("Kinds", 22, 6)] := by kernel_rfl
theorem wd_parts (f : Nat → Int) (w : World) : (part 3 (wdC f) 0).run Tryz.prog w = .ok (.int .i64 (f 0)) w ∧ (part 3 (wdC f) 1).run Tryz.prog w = .ok (.int .i64 (f 1)) w ∧ (part 3 (wdC f) 2).run Tryz.prog w = .ok (.int .i64 (f 2)) w ∧ (part 3 (wdC f) 3).run Tryz.prog w = .ok (.int .i64 (f 3)) w ∧ (part 3 (wdC f) 4).run Tryz.prog w = .ok (.int .i64 (f 4)) w ∧ (part 3 (wdC f) 5).run Tryz.prog w = .ok (.int .i64 (f 5)) w ∧ (part 22 (wdC f) 6).run Tryz.prog w = .ok (.agg #[.int .i64 (f 6), .int .i64 (f 7), .int .i64 (f 8), .int .i64 (f 9), .int .i64 (f 10), .int .i64 (f 11), .int .i64 (f 12), .int .i64 (f 13), .int .i64 (f 14), .int .i64 (f 15), .int .i64 (f 16), .int .i64 (f 17), .int .i64 (f 18)]) w := ⟨by kernel_rfl, by kernel_rfl, by kernel_rfl, by kernel_rfl, by kernel_rfl, by kernel_rfl, by kernel_rfl⟩
theorem wd_items (f : Nat → Int) (w : World) : (part 3 #[.int .i64 (f 6), .int .i64 (f 7), .int .i64 (f 8), .int .i64 (f 9), .int .i64 (f 10), .int .i64 (f 11), .int .i64 (f 12), .int .i64 (f 13), .int .i64 (f 14), .int .i64 (f 15), .int .i64 (f 16), .int .i64 (f 17), .int .i64 (f 18)] 0).run Tryz.prog w = .ok (.int .i64 (f 6)) w ∧ (part 3 #[.int .i64 (f 6), .int .i64 (f 7), .int .i64 (f 8), .int .i64 (f 9), .int .i64 (f 10), .int .i64 (f 11), .int .i64 (f 12), .int .i64 (f 13), .int .i64 (f 14), .int .i64 (f 15), .int .i64 (f 16), .int .i64 (f 17), .int .i64 (f 18)] 1).run Tryz.prog w = .ok (.int .i64 (f 7)) w ∧ (part 3 #[.int .i64 (f 6), .int .i64 (f 7), .int .i64 (f 8), .int .i64 (f 9), .int .i64 (f 10), .int .i64 (f 11), .int .i64 (f 12), .int .i64 (f 13), .int .i64 (f 14), .int .i64 (f 15), .int .i64 (f 16), .int .i64 (f 17), .int .i64 (f 18)] 2).run Tryz.prog w = .ok (.int .i64 (f 8)) w ∧ (part 3 #[.int .i64 (f 6), .int .i64 (f 7), .int .i64 (f 8), .int .i64 (f 9), .int .i64 (f 10), .int .i64 (f 11), .int .i64 (f 12), .int .i64 (f 13), .int .i64 (f 14), .int .i64 (f 15), .int .i64 (f 16), .int .i64 (f 17), .int .i64 (f 18)] 3).run Tryz.prog w = .ok (.int .i64 (f 9)) w ∧ (part 3 #[.int .i64 (f 6), .int .i64 (f 7), .int .i64 (f 8), .int .i64 (f 9), .int .i64 (f 10), .int .i64 (f 11), .int .i64 (f 12), .int .i64 (f 13), .int .i64 (f 14), .int .i64 (f 15), .int .i64 (f 16), .int .i64 (f 17), .int .i64 (f 18)] 4).run Tryz.prog w = .ok (.int .i64 (f 10)) w ∧ (part 3 #[.int .i64 (f 6), .int .i64 (f 7), .int .i64 (f 8), .int .i64 (f 9), .int .i64 (f 10), .int .i64 (f 11), .int .i64 (f 12), .int .i64 (f 13), .int .i64 (f 14), .int .i64 (f 15), .int .i64 (f 16), .int .i64 (f 17), .int .i64 (f 18)] 5).run Tryz.prog w = .ok (.int .i64 (f 11)) w ∧ (part 3 #[.int .i64 (f 6), .int .i64 (f 7), .int .i64 (f 8), .int .i64 (f 9), .int .i64 (f 10), .int .i64 (f 11), .int .i64 (f 12), .int .i64 (f 13), .int .i64 (f 14), .int .i64 (f 15), .int .i64 (f 16), .int .i64 (f 17), .int .i64 (f 18)] 6).run Tryz.prog w = .ok (.int .i64 (f 12)) w ∧ (part 3 #[.int .i64 (f 6), .int .i64 (f 7), .int .i64 (f 8), .int .i64 (f 9), .int .i64 (f 10), .int .i64 (f 11), .int .i64 (f 12), .int .i64 (f 13), .int .i64 (f 14), .int .i64 (f 15), .int .i64 (f 16), .int .i64 (f 17), .int .i64 (f 18)] 7).run Tryz.prog w = .ok (.int .i64 (f 13)) w ∧ (part 3 #[.int .i64 (f 6), .int .i64 (f 7), .int .i64 (f 8), .int .i64 (f 9), .int .i64 (f 10), .int .i64 (f 11), .int .i64 (f 12), .int .i64 (f 13), .int .i64 (f 14), .int .i64 (f 15), .int .i64 (f 16), .int .i64 (f 17), .int .i64 (f 18)] 8).run Tryz.prog w = .ok (.int .i64 (f 14)) w ∧ (part 3 #[.int .i64 (f 6), .int .i64 (f 7), .int .i64 (f 8), .int .i64 (f 9), .int .i64 (f 10), .int .i64 (f 11), .int .i64 (f 12), .int .i64 (f 13), .int .i64 (f 14), .int .i64 (f 15), .int .i64 (f 16), .int .i64 (f 17), .int .i64 (f 18)] 9).run Tryz.prog w = .ok (.int .i64 (f 15)) w ∧ (part 3 #[.int .i64 (f 6), .int .i64 (f 7), .int .i64 (f 8), .int .i64 (f 9), .int .i64 (f 10), .int .i64 (f 11), .int .i64 (f 12), .int .i64 (f 13), .int .i64 (f 14), .int .i64 (f 15), .int .i64 (f 16), .int .i64 (f 17), .int .i64 (f 18)] 10).run Tryz.prog w = .ok (.int .i64 (f 16)) w ∧ (part 3 #[.int .i64 (f 6), .int .i64 (f 7), .int .i64 (f 8), .int .i64 (f 9), .int .i64 (f 10), .int .i64 (f 11), .int .i64 (f 12), .int .i64 (f 13), .int .i64 (f 14), .int .i64 (f 15), .int .i64 (f 16), .int .i64 (f 17), .int .i64 (f 18)] 11).run Tryz.prog w = .ok (.int .i64 (f 17)) w ∧ (part 3 #[.int .i64 (f 6), .int .i64 (f 7), .int .i64 (f 8), .int .i64 (f 9), .int .i64 (f 10), .int .i64 (f 11), .int .i64 (f 12), .int .i64 (f 13), .int .i64 (f 14), .int .i64 (f 15), .int .i64 (f 16), .int .i64 (f 17), .int .i64 (f 18)] 12).run Tryz.prog w = .ok (.int .i64 (f 18)) w := ⟨by kernel_rfl, by kernel_rfl, by kernel_rfl, by kernel_rfl, by kernel_rfl, by kernel_rfl, by kernel_rfl, by kernel_rfl, by kernel_rfl, by kernel_rfl, by kernel_rfl, by kernel_rfl, by kernel_rfl⟩
theorem und_kinds : Tryz.prog.underlying 22 = some (.array 13 3) := by kernel_rfl
theorem inf_kinds : ∃ i, Tryz.prog.info? 3 = some i := by
  have h : (Tryz.prog.info? 3).isSome = true := by kernel_rfl
  exact Option.isSome_iff_exists.1 h
theorem cells_int : Tryz.prog.cellsOf 3 = 1 := by kernel_rfl
theorem items_same {P : Program} (d : Nat) (e : TypeId) (c : Nat) (xs : Array Value) (w : World) (is : List Nat) (h : ∀ i ∈ is, ∃ v, (part e xs (i * c)).run P w = .ok v w ∧ (Op.equalIn d e v v).run P w = .ok true w) : (Op.eqItems d e c xs xs is).run P w = .ok true w := by
  induction is with
  | nil => simp [Op.eqItems, Sem.run_pure]
  | cons i is ih =>
    obtain ⟨v, h1, h2⟩ := h i (by simp)
    have h3 := ih fun j hj => h j (by simp [hj])
    simp only [Op.eqItems, Sem.run_bind, h1, h2, Result.andThen_ok, Bool.not_true, Bool.false_eq_true, if_false, h3]
theorem fields_same {P : Program} (d : Nat) (xs : Array Value) (w : World) (fs : List Field) (h : ∀ f ∈ fs, ∃ v, (part f.type xs f.offset).run P w = .ok v w ∧ (Op.equalIn d f.type v v).run P w = .ok true w) : (Op.eqFields d xs xs fs).run P w = .ok true w := by
  induction fs with
  | nil => simp [Op.eqFields, Sem.run_pure]
  | cons f fs ih =>
    obtain ⟨v, h1, h2⟩ := h f (by simp)
    have h3 := ih fun j hj => h j (by simp [hj])
    unfold Op.eqFields
    split
    · simp only [Sem.run_bind, h1, h2, Result.andThen_ok, Bool.not_true, Bool.false_eq_true, if_false, h3]
    · exact h3
theorem int_same (d : Nat) (a : Int) (w : World) : (Op.equalIn (d + 1) 3 (.int .i64 a) (.int .i64 a)).run Tryz.prog w = .ok true w := by
  rw [run_equalIn_int (P := Tryz.prog) w d 3 .i64 .i64 a a Tryz.underlying3, beq_self_eq_true]
def kdC (f : Nat → Int) : Array Value := #[.int .i64 (f 6), .int .i64 (f 7), .int .i64 (f 8), .int .i64 (f 9), .int .i64 (f 10), .int .i64 (f 11), .int .i64 (f 12), .int .i64 (f 13), .int .i64 (f 14), .int .i64 (f 15), .int .i64 (f 16), .int .i64 (f 17), .int .i64 (f 18)]
set_option maxRecDepth 10000 in
theorem kinds_same (f : Nat → Int) (w : World) : (Op.equalIn 9999 22 (.agg (kdC f)) (.agg (kdC f))).run Tryz.prog w = .ok true w := by
  obtain ⟨i, hi⟩ := inf_kinds
  rw [run_equalIn_array (P := Tryz.prog) w 9998 _ _ und_kinds hi, cells_int]
  refine items_same 9998 3 1 (kdC f) w _ fun i hi => ?_
  have hi' := List.mem_range.1 hi
  obtain ⟨p0, p1, p2, p3, p4, p5, p6, p7, p8, p9, p10, p11, p12⟩ := wd_items f w
  match i, hi' with
  | 0, _ => exact ⟨_, p0, int_same 9997 _ w⟩
  | 1, _ => exact ⟨_, p1, int_same 9997 _ w⟩
  | 2, _ => exact ⟨_, p2, int_same 9997 _ w⟩
  | 3, _ => exact ⟨_, p3, int_same 9997 _ w⟩
  | 4, _ => exact ⟨_, p4, int_same 9997 _ w⟩
  | 5, _ => exact ⟨_, p5, int_same 9997 _ w⟩
  | 6, _ => exact ⟨_, p6, int_same 9997 _ w⟩
  | 7, _ => exact ⟨_, p7, int_same 9997 _ w⟩
  | 8, _ => exact ⟨_, p8, int_same 9997 _ w⟩
  | 9, _ => exact ⟨_, p9, int_same 9997 _ w⟩
  | 10, _ => exact ⟨_, p10, int_same 9997 _ w⟩
  | 11, _ => exact ⟨_, p11, int_same 9997 _ w⟩
  | 12, _ => exact ⟨_, p12, int_same 9997 _ w⟩
  | n + 13, h => exact absurd h (by omega)
theorem wd_same (f : Nat → Int) (w : World) : (Op.equalIn 10000 24 (.agg (wdC f)) (.agg (wdC f))).run Tryz.prog w = .ok true w := by
  rw [run_equalIn_struct (d := 9999) (ht := by kernel_rfl) (hp := by kernel_rfl)]
  refine fields_same 9999 (wdC f) w _ fun q hq => ?_
  have hf := wd_fields
  have hm : (q.name, q.type, q.offset) ∈ [("Lines", 3, 0), ("Bytes", 3, 1), ("Rows", 3, 2), ("Gone", 3, 3), ("Peak", 3, 4), ("Longest", 3, 5), ("Kinds", 22, 6)] := by rw [← hf]; exact List.mem_map_of_mem hq
  obtain ⟨p0, p1, p2, p3, p4, p5, p6⟩ := wd_parts f w
  have ek := kinds_same f w
  simp only [List.mem_cons, List.not_mem_nil, or_false, Prod.mk.injEq] at hm
  rcases hm with ⟨_, h1, h2⟩ | ⟨_, h1, h2⟩ | ⟨_, h1, h2⟩ | ⟨_, h1, h2⟩ | ⟨_, h1, h2⟩ | ⟨_, h1, h2⟩ | ⟨_, h1, h2⟩
  · rw [h1, h2]; exact ⟨_, p0, int_same 9998 _ w⟩
  · rw [h1, h2]; exact ⟨_, p1, int_same 9998 _ w⟩
  · rw [h1, h2]; exact ⟨_, p2, int_same 9998 _ w⟩
  · rw [h1, h2]; exact ⟨_, p3, int_same 9998 _ w⟩
  · rw [h1, h2]; exact ⟨_, p4, int_same 9998 _ w⟩
  · rw [h1, h2]; exact ⟨_, p5, int_same 9998 _ w⟩
  · rw [h1, h2]; exact ⟨_, p6, ek⟩
theorem wd_neq (f : Nat → Int) (w : World) : (binOp .neq 24 (.agg (wdC f)) (.agg (wdC f))).run Tryz.prog w = .ok (.bool false) w := by
  rw [run_neq_struct, wd_same]
  simp [Result.andThen]

end Go.Proofs.YtgckmkdmlaocmaaGreatDoor

namespace Go.Proofs.YtgckmkdmlaocmaaGreatDoor
open Go Go.RowKit

theorem yields_row {P : Program} {ops : Array Oper} {S : World → Prop} {o : Oper} {a : Act} (ty : TypeId) (x : Operand) (ho : o.op = .load ty x) (g : Nat) (hx : a.eval x = .pointer (some ⟨g, 0, none⟩)) (t : TypeId) (cs : Array Value) (fr : Nat × Nat) (d : TypeDesc) (hS : ∀ w, S w → w.heap[g]? = some (.cells cs t fr))
    (hu : P.underlying ty = some d) (hd : (match d with | .struct _ | .array _ _ => true | _ => false) = true) (hi : (P.info? ty).map (·.size) = some cs.size) (hw : Region.wanted o (yielded ops a.tmps) = true) : YieldsIf P ops S o (.agg cs) a :=
  .inl ⟨hw, fun w h => by
    have hg := hS w h
    unfold execOp
    simp only [ho, hx, Instr.loadAt, Instr.sureAddr, Sem.run_bind, Sem.run_pure, Result.andThen_ok, run_loadVar_row w g t ty cs fr d hg hu hd hi]⟩
theorem und_pf : Tryz.prog.underlying 33 = some (.pointer 37) := by kernel_rfl
theorem run_assert (p : Value) (w : World) : (Instr.typeAssert (.iface 33 p) 30 33 true).run Tryz.prog w = .ok (.tuple #[p, .bool true]) w := by
  kernel_rfl
theorem first_er (L : List (List UInt8)) : (∀ x ∈ L, er x = 0) ∨ ∃ pre x post, L = pre ++ x :: post ∧ (∀ y ∈ pre, er y = 0) ∧ er x ≠ 0 := by
  induction L with
  | nil => exact .inl (fun x h => absurd h (by simp))
  | cons x L ih =>
    by_cases hx : er x = 0
    · rcases ih with h | ⟨pre, z, post, e, h1, h2⟩
      · exact .inl fun y hy => by
          rcases List.mem_cons.1 hy with rfl | hy
          · exact hx
          · exact h y hy
      · exact .inr ⟨x :: pre, z, post, by rw [e]; rfl, fun y hy => by
          rcases List.mem_cons.1 hy with rfl | hy
          · exact hx
          · exact h1 y hy, h2⟩
    · exact .inr ⟨[], x, L, rfl, fun y hy => absurd hy (by simp), hx⟩
theorem first_one {L pre pre' post post' : List (List UInt8)} {x x' : List UInt8} (h : L = pre ++ x :: post) (h' : L = pre' ++ x' :: post') (q : ∀ y ∈ pre, er y = 0) (q' : ∀ y ∈ pre', er y = 0) (n : er x ≠ 0) (n' : er x' ≠ 0) : pre.length = pre'.length ∧ x = x' := by
  have e : pre ++ x :: post = pre' ++ x' :: post' := h.symm.trans h'
  clear h h'
  induction pre generalizing pre' with
  | nil =>
    cases pre' with
    | nil => exact ⟨rfl, (List.cons.inj e).1⟩
    | cons y r =>
      have : x = y := (List.cons.inj e).1
      exact absurd (q' y (by simp)) (this ▸ n)
  | cons z r ih =>
    cases pre' with
    | nil =>
      have : z = x' := (List.cons.inj e).1
      exact absurd (q z (by simp)) (this ▸ n')
    | cons y r' =>
      have := ih (fun k hk => q k (List.mem_cons_of_mem _ hk)) (fun k hk => q' k (List.mem_cons_of_mem _ hk)) (List.cons.inj e).2
      exact ⟨by rw [List.length_cons, List.length_cons, this.1], this.2⟩
/-- What both answer. -/
theorem both_weigh (xs : List (List UInt8)) (hn : xs.length ≤ 1000000) (y : Int) : ∃ (f : Nat → Int) (n m : Int), (∀ w e W, DgO xs y w e W → Below w.heap.size w W ∧ e = .returned (.tuple #[.agg (wdC f), .agg #[.int .i64 n, .int .i64 m]])) ∧
    ((m = 0 ∧ ∀ w e W, WgO xs y w e W → Below w.heap.size w W ∧ e = .returned (.tuple #[.agg (wdC f), .nilIface])) ∨
     (m ≠ 0 ∧ ∀ w e W, WgO xs y w e W → Below w.heap.size w W ∧ ∃ g, e = .returned (.tuple #[.agg (wdC f), .iface 33 (.pointer (some ⟨g, 0, none⟩))]) ∧ W.heap[g]? = some (.cells #[.int .i64 2, .int .i64 n, .int .i64 m] 37 (0, 0)))) := by
  rcases first_er xs with hall | ⟨pre, x, post, hsp, hpre, hx⟩
  · refine ⟨dcS y xs, 0, 0, fun w e W h => ?_, .inl ⟨rfl, fun w e W h => ?_⟩⟩
    · obtain ⟨hb, h⟩ := h
      rcases h with ⟨_, rfl⟩ | ⟨pre, x, post, hsp, _, hx, _⟩
      · exact ⟨hb, rfl⟩
      · exact absurd (hall x (by rw [hsp]; simp)) hx
    · obtain ⟨hb, h⟩ := h
      rcases h with ⟨_, rfl⟩ | ⟨pre, x, post, f, hsp, _, hx, _⟩
      · exact ⟨hb, by rw [weights_same y xs hn]⟩
      · exact absurd (hall x (by rw [hsp]; simp)) hx
  · refine ⟨fun _ => 0, pre.length + 1, er x, fun w e W h => ?_, .inr ⟨hx, fun w e W h => ?_⟩⟩
    · obtain ⟨hb, h⟩ := h
      rcases h with ⟨hall, _⟩ | ⟨pre', x', post', hsp', hpre', hx', rfl⟩
      · exact absurd (hall x (by rw [hsp]; simp)) hx
      · obtain ⟨e1, e2⟩ := first_one hsp hsp' hpre hpre' hx hx'
        exact ⟨hb, by rw [e1, e2]; rfl⟩
    · obtain ⟨hb, h⟩ := h
      rcases h with ⟨hall, _⟩ | ⟨pre', x', post', f, hsp', hpre', hx', rfl, hf⟩
      · exact absurd (hall x (by rw [hsp]; simp)) hx
      · obtain ⟨e1, e2⟩ := first_one hsp hsp' hpre hpre' hx hx'
        refine ⟨hb, f, rfl, ?_⟩
        rw [e1, e2]
        exact hf

set_option maxRecDepth 100000 in
set_option maxHeartbeats 4000000 in
theorem weighs_any (s : ByteArray) (w : World) (hg : Gl w) : Calls Tryz.prog 3 #[.string s] w fun e w' => e = .returned (.bool true) ∧ Below w.heap.size w w' := by
  by_cases hs : (s.size : Int) > 100000
  · go_enter Tryz.func3, Tryz.ntmps3
    go_wp2_with fail
    go_ret
    exact ⟨rfl, Below.refl _ _⟩
  have hs4 : s.size ≤ 400000 := by omega
  have hc := lns_count s.data.toList []
  have hsz : s.data.toList.length = s.size := by show s.data.toList.length = s.data.size; exact Array.length_toList
  obtain ⟨f, n, m, hD, hP⟩ := both_weigh (lns s.data.toList []) (by omega) s.size
  have HD : Hid (∀ w', Calls Tryz.prog 4 #[.string s] w' fun e W => Below w'.heap.size w' W ∧ e = .returned (.tuple #[.agg (wdC f), .agg #[.int .i64 n, .int .i64 m]])) := fun w' => (rweigh_any s w' hs4).mono fun e W h => hD w' e W h
  have HP : Hid (∀ w', Gl w' → Calls Tryz.prog 5 #[.string s] w' (WgO (lns s.data.toList []) s.size w')) := fun w' hg => weigh_any s w' hs4 hg
  have HPc : Hid ((m = 0 ∧ ∀ w e W, WgO (lns s.data.toList []) s.size w e W → Below w.heap.size w W ∧ e = .returned (.tuple #[.agg (wdC f), .nilIface])) ∨
     (m ≠ 0 ∧ ∀ w e W, WgO (lns s.data.toList []) s.size w e W → Below w.heap.size w W ∧ ∃ g, e = .returned (.tuple #[.agg (wdC f), .iface 33 (.pointer (some ⟨g, 0, none⟩))]) ∧ W.heap[g]? = some (.cells #[.int .i64 2, .int .i64 n, .int .i64 m] 37 (0, 0)))) := hP
  have HG : Hid (∀ w', Below w.heap.size w w' → Gl w') := fun w' hb => hg.next hb
  clear hD hP hs4 hc hsz hg
  go_enter Tryz.func3, Tryz.ntmps3
  go_wp2_with fail
  refine calls_at (HD.out w) (by with_reducible rfl) (by with_reducible rfl) ?_
  rintro e w1 ⟨hb1, rfl⟩
  obtain ⟨A1, hA1⟩ : ∃ A, w1.alloc (.cells #[.int .i64 0, .int .i64 0, .int .i64 0, .int .i64 0, .int .i64 0, .int .i64 0, .int .i64 0, .int .i64 0, .int .i64 0, .int .i64 0, .int .i64 0, .int .i64 0, .int .i64 0, .int .i64 0, .int .i64 0, .int .i64 0, .int .i64 0, .int .i64 0, .int .i64 0] 24) = A := ⟨_, rfl⟩
  obtain ⟨A2, hA2⟩ : ∃ A, A1.alloc (.cells #[.int .i64 0, .int .i64 0] 26) = A := ⟨_, rfl⟩
  have g1 : A1.heap[w1.heap.size]? = some (.cells zW 24 (0, 0)) := by rw [← hA1]; exact heap_alloc_new w1 _
  have z1 : A1.heap.size = w1.heap.size + 1 := by rw [← hA1]; exact Array.size_push _
  have b1 : Below w1.heap.size w1 A1 := by rw [← hA1]; exact (Below.refl _ _).alloc (Nat.le_refl _) _
  have g2 : A2.heap[w1.heap.size + 1]? = some (.cells #[.int .i64 0, .int .i64 0] 26 (0, 0)) := by rw [← hA2, ← z1]; exact heap_alloc_new A1 _
  have b2 : Below A1.heap.size A1 A2 := by rw [← hA2]; exact (Below.refl _ _).alloc (Nat.le_refl _) _
  have HZ1 : Hid (A2.heap[w1.heap.size]? = some (.cells zW 24 (0, 0))) := (b2.block _ (by omega)).trans g1
  obtain ⟨A3, hA3⟩ : ∃ A, A2.setRow w1.heap.size (wdC f) = A := ⟨_, rfl⟩
  have HZ2 : Hid (A3.heap[w1.heap.size + 1]? = some (.cells #[.int .i64 0, .int .i64 0] 26 (0, 0))) := by rw [← hA3]; exact (setRow_other A2 _ _ _ (by omega)).trans g2
  obtain ⟨A4, hA4⟩ : ∃ A, A3.setRow (w1.heap.size + 1) #[.int .i64 n, .int .i64 m] = A := ⟨_, rfl⟩
  have HW1 : Hid (A4.heap[w1.heap.size]? = some (.cells (wdC f) 24 (0, 0))) := by rw [← hA4, ← hA3]; exact (setRow_other _ _ _ _ (by omega)).trans (setRow_heap A2 _ _ _ _ _ HZ1.out)
  have HF1 : Hid (A4.heap[w1.heap.size + 1]? = some (.cells #[.int .i64 n, .int .i64 m] 26 (0, 0))) := by rw [← hA4]; exact setRow_heap A3 _ _ _ _ _ HZ2.out
  have HB4 : Hid (Below w.heap.size w A4) := by
    have hb := bl_next (bl_next hb1 b1) b2
    rw [← hA4, ← hA3]
    refine hb.trans ⟨rfl, rfl, rfl, by simp [World.setRow], fun k hk => ?_⟩
    have := hb1.size
    exact (setRow_other _ _ k _ (by omega)).trans (setRow_other A2 _ k _ (by omega))
  clear hb1 g1 b1 g2 b2 HD
  go_wp2_with (first | (refine wpList_store_row rfl 24 (.tmp 3) (.tmp 15) rfl w1.heap.size (wdC f) (by rfl) (by rfl) 24 zW HZ1.out infW rfl (by simp [wdC, Value.oneCell']) ?_; rw [hA3]) | (refine wpList_store_row rfl 26 (.tmp 4) (.tmp 16) rfl (w1.heap.size + 1) #[.int .i64 n, .int .i64 m] (by rfl) (by rfl) 26 #[.int .i64 0, .int .i64 0] HZ2.out infF rfl (by simp [Value.oneCell']) ?_; rw [hA4]))
  refine calls_at (HP.out A4 (HG.out A4 HB4.out)) (by with_reducible rfl) (by with_reducible rfl) ?_
  intro e w5 h5
  clear HP hA1 hA2 hA3 hA4 HZ1 HZ2 z1
  rcases HPc.out with ⟨hm, hq⟩ | ⟨hm, hq⟩
  · obtain ⟨hb5, rfl⟩ := hq A4 e w5 h5
    clear h5 hq HPc HG
    obtain ⟨B1, hB1⟩ : ∃ B, w5.alloc (.cells #[.int .i64 0, .int .i64 0, .int .i64 0, .int .i64 0, .int .i64 0, .int .i64 0, .int .i64 0, .int .i64 0, .int .i64 0, .int .i64 0, .int .i64 0, .int .i64 0, .int .i64 0, .int .i64 0, .int .i64 0, .int .i64 0, .int .i64 0, .int .i64 0, .int .i64 0] 24) = B := ⟨_, rfl⟩
    have gB : B1.heap[w5.heap.size]? = some (.cells zW 24 (0, 0)) := by rw [← hB1]; exact heap_alloc_new w5 _
    have bB : Below w5.heap.size w5 B1 := by rw [← hB1]; exact (Below.refl _ _).alloc (Nat.le_refl _) _
    have HZB : Hid (B1.heap[w5.heap.size]? = some (.cells zW 24 (0, 0))) := gB
    obtain ⟨B2, hB2⟩ : ∃ B, B1.setRow w5.heap.size (wdC f) = B := ⟨_, rfl⟩
    have sA : A4.heap.size ≤ w5.heap.size := hb5.size
    have hA0 : w1.heap.size + 1 < A4.heap.size := (Array.getElem?_eq_some_iff.1 HF1.out).1
    have HB2 : Hid (Below w.heap.size w B2 ∧ B2.heap[w5.heap.size]? = some (.cells (wdC f) 24 (0, 0)) ∧ B2.heap[w1.heap.size]? = some (.cells (wdC f) 24 (0, 0)) ∧ B2.heap[w1.heap.size + 1]? = some (.cells #[.int .i64 n, .int .i64 m] 26 (0, 0))) := by
      rw [← hB2]
      refine ⟨(bl_next (bl_next HB4.out hb5) bB).trans ⟨rfl, rfl, rfl, by simp [World.setRow], fun k hk => setRow_other B1 _ k _ (by have := HB4.out.size; omega)⟩, setRow_heap B1 _ _ _ _ _ gB, ?_, ?_⟩
      · exact (setRow_other B1 _ _ _ (by omega)).trans ((bB.block _ (by omega)).trans ((hb5.block _ (by omega)).trans HW1.out))
      · exact (setRow_other B1 _ _ _ (by omega)).trans ((bB.block _ (by omega)).trans ((hb5.block _ (by omega)).trans HF1.out))
    clear gB bB sA hA0 hb5
    go_wp2_with (refine wpList_store_row rfl 24 (.tmp 5) (.tmp 20) rfl w5.heap.size (wdC f) (by rfl) (by rfl) 24 zW HZB.out infW rfl (by simp [wdC, Value.oneCell']) ?_; rw [hB2])
    have hNe := fun W => wd_neq f W
    have hmb : (m == 0) = true := by simpa using hm
    refine wp_region_T (fun w' => w'.heap[w5.heap.size]? = some (.cells (wdC f) 24 (0, 0)) ∧ w'.heap[w1.heap.size]? = some (.cells (wdC f) 24 (0, 0)) ∧ w'.cell? ⟨w1.heap.size + 1, 1, none⟩ = some (.int .i64 m)) (fun _ => True) [] (by kernel_rfl) ⟨⟨HB2.out.2.1, HB2.out.2.2.1, cell_of HB2.out.2.2.2 1⟩, trivial⟩ (fun hHeld => ?_)
    refine wpAnyT_takeB (i := 0) (oi := ⟨some 22, .load 24 (.tmp 5), _, _, _, _⟩) (v := .agg (wdC f)) rfl (by kernel_rfl) (by kernel_rfl) (by kernel_rfl) (by kernel_rfl) (fun _ _ _ h => h) (yields_row 24 (.tmp 5) rfl w5.heap.size (by rfl) 24 (wdC f) (0, 0) _ (fun w h => h.1) Tryz.underlying24 rfl infW (by rfl)) (by assumption) ?restR5c1x0
    try simp only [Act.put, List.setIfInBounds_toArray, List.set_cons_zero, List.set_cons_succ]
    refine wpAnyT_takeB (i := 1) (oi := ⟨some 23, .load 24 (.tmp 3), _, _, _, _⟩) (v := .agg (wdC f)) rfl (by kernel_rfl) (by kernel_rfl) (by kernel_rfl) (by kernel_rfl) (fun _ _ _ h => h) (yields_row 24 (.tmp 3) rfl w1.heap.size (by rfl) 24 (wdC f) (0, 0) _ (fun w h => h.2.1) Tryz.underlying24 rfl infW (by rfl)) (by assumption) ?restR5c1x1
    try simp only [Act.put, List.setIfInBounds_toArray, List.set_cons_zero, List.set_cons_succ]
    refine wpAnyT_takeB (i := 2) (oi := ⟨some 24, .binOp .neq 24 (.tmp 22) (.tmp 23) 24, _, _, _, _⟩) (v := ?vR5c1x2) rfl (by kernel_rfl) (by kernel_rfl) (by kernel_rfl) (by kernel_rfl) (fun _ _ _ h => h) (Or.inl ⟨by rfl, ?hyR5c1x2⟩) (by assumption) ?restR5c1x2
    case hyR5c1x2 => (intro w hSw; (try dsimp only at hSw); go_simp; try (with_reducible rfl))
    try simp only [Act.put, List.setIfInBounds_toArray, List.set_cons_zero, List.set_cons_succ]
    refine wpAnyT_takeB (i := 3) (oi := ⟨some 25, .move (.tmp 24), _, _, _, _⟩) (v := ?vR5c1x3) rfl (by kernel_rfl) (by kernel_rfl) (by kernel_rfl) (by kernel_rfl) (fun _ _ _ h => h) (Or.inl ⟨by rfl, ?hyR5c1x3⟩) (by assumption) ?restR5c1x3
    case hyR5c1x3 => (intro w hSw; (try dsimp only at hSw); go_simp; try (with_reducible rfl))
    try simp only [Act.put, List.setIfInBounds_toArray, List.set_cons_zero, List.set_cons_succ]
    refine wpAnyT_takeB (i := 4) (oi := ⟨some 26, .move (.tmp 6), _, _, _, _⟩) (v := ?vR5c1x4) rfl (by kernel_rfl) (by kernel_rfl) (by kernel_rfl) (by kernel_rfl) (fun _ _ _ h => h) (Or.inl ⟨by rfl, ?hyR5c1x4⟩) (by assumption) ?restR5c1x4
    case hyR5c1x4 => (intro w hSw; (try dsimp only at hSw); go_simp; try (with_reducible rfl))
    try simp only [Act.put, List.setIfInBounds_toArray, List.set_cons_zero, List.set_cons_succ]
    refine wpAnyT_takeB (i := 5) (oi := ⟨some 27, .binOp .eql 30 (.tmp 26) ((.const .nilIface)) 30, _, _, _, _⟩) (v := ?vR5c1x5) rfl (by kernel_rfl) (by kernel_rfl) (by kernel_rfl) (by kernel_rfl) (fun _ _ _ h => h) (Or.inl ⟨by rfl, ?hyR5c1x5⟩) (by assumption) ?restR5c1x5
    case hyR5c1x5 => (intro w hSw; (try dsimp only at hSw); go_simp; try (with_reducible rfl))
    try simp only [Act.put, List.setIfInBounds_toArray, List.set_cons_zero, List.set_cons_succ]
    refine wpAnyT_takeB (i := 6) (oi := ⟨some 28, .fieldAddr 26 (.tmp 4) 1, _, _, _, _⟩) (v := ?vR5c1x6) rfl (by kernel_rfl) (by kernel_rfl) (by kernel_rfl) (by kernel_rfl) (fun _ _ _ h => h) (Or.inl ⟨by rfl, ?hyR5c1x6⟩) (by assumption) ?restR5c1x6
    case hyR5c1x6 => (intro w hSw; (try dsimp only at hSw); go_simp; try (with_reducible rfl))
    try simp only [Act.put, List.setIfInBounds_toArray, List.set_cons_zero, List.set_cons_succ]
    refine wpAnyT_takeB (i := 7) (oi := ⟨some 29, .load 3 (.tmp 28), _, _, _, _⟩) (v := ?vR5c1x7) rfl (by kernel_rfl) (by kernel_rfl) (by kernel_rfl) (by kernel_rfl) (fun _ _ _ h => h) (Or.inl ⟨by rfl, ?hyR5c1x7⟩) (by assumption) ?restR5c1x7
    case hyR5c1x7 => (intro w hSw; (try dsimp only at hSw); go_simp; try (with_reducible rfl))
    try simp only [Act.put, List.setIfInBounds_toArray, List.set_cons_zero, List.set_cons_succ]
    refine wpAnyT_takeB (i := 8) (oi := ⟨some 30, .binOp .eql 3 (.tmp 29) ((.const (.int .i64 0))) 3, _, _, _, _⟩) (v := ?vR5c1x8) rfl (by kernel_rfl) (by kernel_rfl) (by kernel_rfl) (by kernel_rfl) (fun _ _ _ h => h) (Or.inl ⟨by rfl, ?hyR5c1x8⟩) (by assumption) ?restR5c1x8
    case hyR5c1x8 => (intro w hSw; (try dsimp only at hSw); go_simp; try (with_reducible rfl))
    try simp only [Act.put, List.setIfInBounds_toArray, List.set_cons_zero, List.set_cons_succ]
    refine wpAnyT_takeB (i := 9) (oi := ⟨some 31, .binOp .neq 4 (.tmp 27) (.tmp 30) 4, _, _, _, _⟩) (v := ?vR5c1x9) rfl (by kernel_rfl) (by kernel_rfl) (by kernel_rfl) (by kernel_rfl) (fun _ _ _ h => h) (Or.inl ⟨by rfl, ?hyR5c1x9⟩) (by assumption) ?restR5c1x9
    case hyR5c1x9 => (intro w hSw; (try dsimp only at hSw); go_simp; try (with_reducible rfl))
    try simp only [Act.put, List.setIfInBounds_toArray, List.set_cons_zero, List.set_cons_succ]
    refine wpAnyT_takeB (i := 10) (oi := ⟨some 32, .pick (.tmp 25) ((.const (.bool true))) (.tmp 31), _, _, _, _⟩) (v := ?vR5c1x10) rfl (by kernel_rfl) (by kernel_rfl) (by kernel_rfl) (by kernel_rfl) (fun _ _ _ h => h) (Or.inl ⟨by rfl, ?hyR5c1x10⟩) (by assumption) ?restR5c1x10
    case hyR5c1x10 => (intro w hSw; (try dsimp only at hSw); go_simp; try (with_reducible rfl))
    try simp only [Act.put, List.setIfInBounds_toArray, List.set_cons_zero, List.set_cons_succ]
    refine wpAnyT_done (by kernel_rfl) ?_ _
    go_wp2_with fail
    go_ret
    exact ⟨rfl, HB2.out.1.drew⟩
  · obtain ⟨hb5, g, rfl, hg5⟩ := hq A4 e w5 h5
    clear h5 hq HPc HG
    obtain ⟨B1, hB1⟩ : ∃ B, w5.alloc (.cells #[.int .i64 0, .int .i64 0, .int .i64 0, .int .i64 0, .int .i64 0, .int .i64 0, .int .i64 0, .int .i64 0, .int .i64 0, .int .i64 0, .int .i64 0, .int .i64 0, .int .i64 0, .int .i64 0, .int .i64 0, .int .i64 0, .int .i64 0, .int .i64 0, .int .i64 0] 24) = B := ⟨_, rfl⟩
    have gB : B1.heap[w5.heap.size]? = some (.cells zW 24 (0, 0)) := by rw [← hB1]; exact heap_alloc_new w5 _
    have bB : Below w5.heap.size w5 B1 := by rw [← hB1]; exact (Below.refl _ _).alloc (Nat.le_refl _) _
    have HZB : Hid (B1.heap[w5.heap.size]? = some (.cells zW 24 (0, 0))) := gB
    obtain ⟨B2, hB2⟩ : ∃ B, B1.setRow w5.heap.size (wdC f) = B := ⟨_, rfl⟩
    have sA : A4.heap.size ≤ w5.heap.size := hb5.size
    have hA0 : w1.heap.size + 1 < A4.heap.size := (Array.getElem?_eq_some_iff.1 HF1.out).1
    have HB2 : Hid (Below w.heap.size w B2 ∧ B2.heap[w5.heap.size]? = some (.cells (wdC f) 24 (0, 0)) ∧ B2.heap[w1.heap.size]? = some (.cells (wdC f) 24 (0, 0)) ∧ B2.heap[w1.heap.size + 1]? = some (.cells #[.int .i64 n, .int .i64 m] 26 (0, 0))) := by
      rw [← hB2]
      refine ⟨(bl_next (bl_next HB4.out hb5) bB).trans ⟨rfl, rfl, rfl, by simp [World.setRow], fun k hk => setRow_other B1 _ k _ (by have := HB4.out.size; omega)⟩, setRow_heap B1 _ _ _ _ _ gB, ?_, ?_⟩
      · exact (setRow_other B1 _ _ _ (by omega)).trans ((bB.block _ (by omega)).trans ((hb5.block _ (by omega)).trans HW1.out))
      · exact (setRow_other B1 _ _ _ (by omega)).trans ((bB.block _ (by omega)).trans ((hb5.block _ (by omega)).trans HF1.out))
    have HFg : Hid (B2.heap[g]? = some (.cells #[.int .i64 2, .int .i64 n, .int .i64 m] 37 (0, 0))) := by
      have hgl : g < w5.heap.size := (Array.getElem?_eq_some_iff.1 hg5).1
      rw [← hB2]
      exact (setRow_other B1 _ _ _ (by omega)).trans ((bB.block _ hgl).trans hg5)
    clear gB bB sA hA0 hb5 hg5
    go_wp2_with (refine wpList_store_row rfl 24 (.tmp 5) (.tmp 20) rfl w5.heap.size (wdC f) (by rfl) (by rfl) 24 zW HZB.out infW rfl (by simp [wdC, Value.oneCell']) ?_; rw [hB2])
    have hNe := fun W => wd_neq f W
    have hmb : (m == 0) = false := by simpa using hm
    refine wp_region_T (fun w' => w'.heap[w5.heap.size]? = some (.cells (wdC f) 24 (0, 0)) ∧ w'.heap[w1.heap.size]? = some (.cells (wdC f) 24 (0, 0)) ∧ w'.cell? ⟨w1.heap.size + 1, 1, none⟩ = some (.int .i64 m)) (fun _ => True) [] (by kernel_rfl) ⟨⟨HB2.out.2.1, HB2.out.2.2.1, cell_of HB2.out.2.2.2 1⟩, trivial⟩ (fun hHeld => ?_)
    refine wpAnyT_takeB (i := 0) (oi := ⟨some 22, .load 24 (.tmp 5), _, _, _, _⟩) (v := .agg (wdC f)) rfl (by kernel_rfl) (by kernel_rfl) (by kernel_rfl) (by kernel_rfl) (fun _ _ _ h => h) (yields_row 24 (.tmp 5) rfl w5.heap.size (by rfl) 24 (wdC f) (0, 0) _ (fun w h => h.1) Tryz.underlying24 rfl infW (by rfl)) (by assumption) ?restR5c2x0
    try simp only [Act.put, List.setIfInBounds_toArray, List.set_cons_zero, List.set_cons_succ]
    refine wpAnyT_takeB (i := 1) (oi := ⟨some 23, .load 24 (.tmp 3), _, _, _, _⟩) (v := .agg (wdC f)) rfl (by kernel_rfl) (by kernel_rfl) (by kernel_rfl) (by kernel_rfl) (fun _ _ _ h => h) (yields_row 24 (.tmp 3) rfl w1.heap.size (by rfl) 24 (wdC f) (0, 0) _ (fun w h => h.2.1) Tryz.underlying24 rfl infW (by rfl)) (by assumption) ?restR5c2x1
    try simp only [Act.put, List.setIfInBounds_toArray, List.set_cons_zero, List.set_cons_succ]
    refine wpAnyT_takeB (i := 2) (oi := ⟨some 24, .binOp .neq 24 (.tmp 22) (.tmp 23) 24, _, _, _, _⟩) (v := ?vR5c2x2) rfl (by kernel_rfl) (by kernel_rfl) (by kernel_rfl) (by kernel_rfl) (fun _ _ _ h => h) (Or.inl ⟨by rfl, ?hyR5c2x2⟩) (by assumption) ?restR5c2x2
    case hyR5c2x2 => (intro w hSw; (try dsimp only at hSw); go_simp; try (with_reducible rfl))
    try simp only [Act.put, List.setIfInBounds_toArray, List.set_cons_zero, List.set_cons_succ]
    refine wpAnyT_takeB (i := 3) (oi := ⟨some 25, .move (.tmp 24), _, _, _, _⟩) (v := ?vR5c2x3) rfl (by kernel_rfl) (by kernel_rfl) (by kernel_rfl) (by kernel_rfl) (fun _ _ _ h => h) (Or.inl ⟨by rfl, ?hyR5c2x3⟩) (by assumption) ?restR5c2x3
    case hyR5c2x3 => (intro w hSw; (try dsimp only at hSw); go_simp; try (with_reducible rfl))
    try simp only [Act.put, List.setIfInBounds_toArray, List.set_cons_zero, List.set_cons_succ]
    refine wpAnyT_takeB (i := 4) (oi := ⟨some 26, .move (.tmp 6), _, _, _, _⟩) (v := ?vR5c2x4) rfl (by kernel_rfl) (by kernel_rfl) (by kernel_rfl) (by kernel_rfl) (fun _ _ _ h => h) (Or.inl ⟨by rfl, ?hyR5c2x4⟩) (by assumption) ?restR5c2x4
    case hyR5c2x4 => (intro w hSw; (try dsimp only at hSw); go_simp; try (with_reducible rfl))
    try simp only [Act.put, List.setIfInBounds_toArray, List.set_cons_zero, List.set_cons_succ]
    refine wpAnyT_takeB (i := 5) (oi := ⟨some 27, .binOp .eql 30 (.tmp 26) ((.const .nilIface)) 30, _, _, _, _⟩) (v := ?vR5c2x5) rfl (by kernel_rfl) (by kernel_rfl) (by kernel_rfl) (by kernel_rfl) (fun _ _ _ h => h) (Or.inl ⟨by rfl, ?hyR5c2x5⟩) (by assumption) ?restR5c2x5
    case hyR5c2x5 => (intro w hSw; (try dsimp only at hSw); go_simp; try (with_reducible rfl))
    try simp only [Act.put, List.setIfInBounds_toArray, List.set_cons_zero, List.set_cons_succ]
    refine wpAnyT_takeB (i := 6) (oi := ⟨some 28, .fieldAddr 26 (.tmp 4) 1, _, _, _, _⟩) (v := ?vR5c2x6) rfl (by kernel_rfl) (by kernel_rfl) (by kernel_rfl) (by kernel_rfl) (fun _ _ _ h => h) (Or.inl ⟨by rfl, ?hyR5c2x6⟩) (by assumption) ?restR5c2x6
    case hyR5c2x6 => (intro w hSw; (try dsimp only at hSw); go_simp; try (with_reducible rfl))
    try simp only [Act.put, List.setIfInBounds_toArray, List.set_cons_zero, List.set_cons_succ]
    refine wpAnyT_takeB (i := 7) (oi := ⟨some 29, .load 3 (.tmp 28), _, _, _, _⟩) (v := ?vR5c2x7) rfl (by kernel_rfl) (by kernel_rfl) (by kernel_rfl) (by kernel_rfl) (fun _ _ _ h => h) (Or.inl ⟨by rfl, ?hyR5c2x7⟩) (by assumption) ?restR5c2x7
    case hyR5c2x7 => (intro w hSw; (try dsimp only at hSw); go_simp; try (with_reducible rfl))
    try simp only [Act.put, List.setIfInBounds_toArray, List.set_cons_zero, List.set_cons_succ]
    refine wpAnyT_takeB (i := 8) (oi := ⟨some 30, .binOp .eql 3 (.tmp 29) ((.const (.int .i64 0))) 3, _, _, _, _⟩) (v := ?vR5c2x8) rfl (by kernel_rfl) (by kernel_rfl) (by kernel_rfl) (by kernel_rfl) (fun _ _ _ h => h) (Or.inl ⟨by rfl, ?hyR5c2x8⟩) (by assumption) ?restR5c2x8
    case hyR5c2x8 => (intro w hSw; (try dsimp only at hSw); go_simp; try (with_reducible rfl))
    try simp only [Act.put, List.setIfInBounds_toArray, List.set_cons_zero, List.set_cons_succ]
    refine wpAnyT_takeB (i := 9) (oi := ⟨some 31, .binOp .neq 4 (.tmp 27) (.tmp 30) 4, _, _, _, _⟩) (v := ?vR5c2x9) rfl (by kernel_rfl) (by kernel_rfl) (by kernel_rfl) (by kernel_rfl) (fun _ _ _ h => h) (Or.inl ⟨by rfl, ?hyR5c2x9⟩) (by assumption) ?restR5c2x9
    case hyR5c2x9 => (intro w hSw; (try dsimp only at hSw); go_simp; try (with_reducible rfl))
    try simp only [Act.put, List.setIfInBounds_toArray, List.set_cons_zero, List.set_cons_succ]
    refine wpAnyT_takeB (i := 10) (oi := ⟨some 32, .pick (.tmp 25) ((.const (.bool true))) (.tmp 31), _, _, _, _⟩) (v := ?vR5c2x10) rfl (by kernel_rfl) (by kernel_rfl) (by kernel_rfl) (by kernel_rfl) (fun _ _ _ h => h) (Or.inl ⟨by rfl, ?hyR5c2x10⟩) (by assumption) ?restR5c2x10
    case hyR5c2x10 => (intro w hSw; (try dsimp only at hSw); go_simp; try (with_reducible rfl))
    try simp only [Act.put, List.setIfInBounds_toArray, List.set_cons_zero, List.set_cons_succ]
    refine wpAnyT_done (by kernel_rfl) ?_ _
    have HC : Hid (Below w.heap.size w B2.drew ∧ B2.drew.heap[w1.heap.size + 1]? = some (.cells #[.int .i64 n, .int .i64 m] 26 (0, 0)) ∧ B2.drew.heap[g]? = some (.cells #[.int .i64 2, .int .i64 n, .int .i64 m] 37 (0, 0))) := ⟨HB2.out.1.drew, HB2.out.2.2.2, HFg.out⟩
    clear hHeld
    generalize B2.drew = C at HC ⊢
    have hAs := fun p W => run_assert p W
    go_wp2_with fail
    refine wp_region_T (fun w' => w'.cell? ⟨g, 0, none⟩ = some (.int .i64 2) ∧ w'.cell? ⟨g, 1, none⟩ = some (.int .i64 n) ∧ w'.cell? ⟨g, 2, none⟩ = some (.int .i64 m) ∧ w'.cell? ⟨w1.heap.size + 1, 0, none⟩ = some (.int .i64 n) ∧ w'.cell? ⟨w1.heap.size + 1, 1, none⟩ = some (.int .i64 m)) (fun _ => True) [] (by kernel_rfl) ⟨⟨cell_of HC.out.2.2 0, cell_of HC.out.2.2 1, cell_of HC.out.2.2 2, cell_of HC.out.2.1 0, cell_of HC.out.2.1 1⟩, trivial⟩ (fun hHeld => ?_)
    refine wpAnyT_takeB (i := 0) (oi := ⟨some 40, .move (.tmp 8), _, _, _, _⟩) (v := ?vR10c3x0) rfl (by kernel_rfl) (by kernel_rfl) (by kernel_rfl) (by kernel_rfl) (fun _ _ _ h => h) (Or.inl ⟨by rfl, ?hyR10c3x0⟩) (by assumption) ?restR10c3x0
    case hyR10c3x0 => (intro w hSw; (try dsimp only at hSw); go_simp; try (with_reducible rfl))
    try simp only [Act.put, List.setIfInBounds_toArray, List.set_cons_zero, List.set_cons_succ]
    refine wpAnyT_takeB (i := 1) (oi := ⟨some 41, .move (.tmp 40), _, _, _, _⟩) (v := ?vR10c3x1) rfl (by kernel_rfl) (by kernel_rfl) (by kernel_rfl) (by kernel_rfl) (fun _ _ _ h => h) (Or.inl ⟨by rfl, ?hyR10c3x1⟩) (by assumption) ?restR10c3x1
    case hyR10c3x1 => (intro w hSw; (try dsimp only at hSw); go_simp; try (with_reducible rfl))
    try simp only [Act.put, List.setIfInBounds_toArray, List.set_cons_zero, List.set_cons_succ]
    refine wpAnyT_takeB (i := 2) (oi := ⟨some 42, .move (.tmp 7), _, _, _, _⟩) (v := ?vR10c3x2) rfl (by kernel_rfl) (by kernel_rfl) (by kernel_rfl) (by kernel_rfl) (fun _ _ _ h => h) (Or.inl ⟨by rfl, ?hyR10c3x2⟩) (by assumption) ?restR10c3x2
    case hyR10c3x2 => (intro w hSw; (try dsimp only at hSw); go_simp; try (with_reducible rfl))
    try simp only [Act.put, List.setIfInBounds_toArray, List.set_cons_zero, List.set_cons_succ]
    refine wpAnyT_takeB (i := 3) (oi := ⟨some 43, .binOp .neq 33 (.tmp 42) ((.const (.pointer none))) 33, _, _, _, _⟩) (v := ?vR10c3x3) rfl (by kernel_rfl) (by kernel_rfl) (by kernel_rfl) (by kernel_rfl) (fun _ _ _ h => h) (Or.inl ⟨by rfl, ?hyR10c3x3⟩) (by assumption) ?restR10c3x3
    case hyR10c3x3 => (intro w hSw; (try dsimp only at hSw); go_simp; try (with_reducible rfl))
    try simp only [Act.put, List.setIfInBounds_toArray, List.set_cons_zero, List.set_cons_succ]
    refine wpAnyT_takeB (i := 4) (oi := ⟨some 44, .pick (.tmp 41) (.tmp 43) ((.const (.bool false))), _, _, _, _⟩) (v := ?vR10c3x4) rfl (by kernel_rfl) (by kernel_rfl) (by kernel_rfl) (by kernel_rfl) (fun _ _ _ h => h) (Or.inl ⟨by rfl, ?hyR10c3x4⟩) (by assumption) ?restR10c3x4
    case hyR10c3x4 => (intro w hSw; (try dsimp only at hSw); go_simp; try (with_reducible rfl))
    try simp only [Act.put, List.setIfInBounds_toArray, List.set_cons_zero, List.set_cons_succ]
    refine wpAnyT_takeB (i := 5) (oi := ⟨some 45, .move (.tmp 44), _, _, _, _⟩) (v := ?vR10c3x5) rfl (by kernel_rfl) (by kernel_rfl) (by kernel_rfl) (by kernel_rfl) (fun _ _ _ h => h) (Or.inl ⟨by rfl, ?hyR10c3x5⟩) (by assumption) ?restR10c3x5
    case hyR10c3x5 => (intro w hSw; (try dsimp only at hSw); go_simp; try (with_reducible rfl))
    try simp only [Act.put, List.setIfInBounds_toArray, List.set_cons_zero, List.set_cons_succ]
    refine wpAnyT_takeB (i := 6) (oi := ⟨some 46, .move (.tmp 7), _, _, _, _⟩) (v := ?vR10c3x6) rfl (by kernel_rfl) (by kernel_rfl) (by kernel_rfl) (by kernel_rfl) (fun _ _ _ h => h) (Or.inl ⟨by rfl, ?hyR10c3x6⟩) (by assumption) ?restR10c3x6
    case hyR10c3x6 => (intro w hSw; (try dsimp only at hSw); go_simp; try (with_reducible rfl))
    try simp only [Act.put, List.setIfInBounds_toArray, List.set_cons_zero, List.set_cons_succ]
    refine wpAnyT_takeB (i := 7) (oi := ⟨some 47, .nilCheck (.tmp 46), _, _, _, _⟩) (v := ?vR10c3x7) rfl (by kernel_rfl) (by kernel_rfl) (by kernel_rfl) (by kernel_rfl) (fun _ _ _ h => h) (Or.inl ⟨by rfl, ?hyR10c3x7⟩) (by assumption) ?restR10c3x7
    case hyR10c3x7 => (intro w hSw; (try dsimp only at hSw); go_simp; try (with_reducible rfl))
    try simp only [Act.put, List.setIfInBounds_toArray, List.set_cons_zero, List.set_cons_succ]
    refine wpAnyT_takeB (i := 8) (oi := ⟨some 48, .fieldAddr 37 (.tmp 47) 0, _, _, _, _⟩) (v := ?vR10c3x8) rfl (by kernel_rfl) (by kernel_rfl) (by kernel_rfl) (by kernel_rfl) (fun _ _ _ h => h) (Or.inl ⟨by rfl, ?hyR10c3x8⟩) (by assumption) ?restR10c3x8
    case hyR10c3x8 => (intro w hSw; (try dsimp only at hSw); go_simp; try (with_reducible rfl))
    try simp only [Act.put, List.setIfInBounds_toArray, List.set_cons_zero, List.set_cons_succ]
    refine wpAnyT_takeB (i := 9) (oi := ⟨some 49, .load 3 (.tmp 48), _, _, _, _⟩) (v := ?vR10c3x9) rfl (by kernel_rfl) (by kernel_rfl) (by kernel_rfl) (by kernel_rfl) (fun _ _ _ h => h) (Or.inl ⟨by rfl, ?hyR10c3x9⟩) (by assumption) ?restR10c3x9
    case hyR10c3x9 => (intro w hSw; (try dsimp only at hSw); go_simp; try (with_reducible rfl))
    try simp only [Act.put, List.setIfInBounds_toArray, List.set_cons_zero, List.set_cons_succ]
    refine wpAnyT_takeB (i := 10) (oi := ⟨some 50, .binOp .eql 3 (.tmp 49) ((.const (.int .i64 2))) 3, _, _, _, _⟩) (v := ?vR10c3x10) rfl (by kernel_rfl) (by kernel_rfl) (by kernel_rfl) (by kernel_rfl) (fun _ _ _ h => h) (Or.inl ⟨by rfl, ?hyR10c3x10⟩) (by assumption) ?restR10c3x10
    case hyR10c3x10 => (intro w hSw; (try dsimp only at hSw); go_simp; try (with_reducible rfl))
    try simp only [Act.put, List.setIfInBounds_toArray, List.set_cons_zero, List.set_cons_succ]
    refine wpAnyT_takeB (i := 11) (oi := ⟨some 51, .pick (.tmp 45) (.tmp 50) ((.const (.bool false))), _, _, _, _⟩) (v := ?vR10c3x11) rfl (by kernel_rfl) (by kernel_rfl) (by kernel_rfl) (by kernel_rfl) (fun _ _ _ h => h) (Or.inl ⟨by rfl, ?hyR10c3x11⟩) (by assumption) ?restR10c3x11
    case hyR10c3x11 => (intro w hSw; (try dsimp only at hSw); go_simp; try (with_reducible rfl))
    try simp only [Act.put, List.setIfInBounds_toArray, List.set_cons_zero, List.set_cons_succ]
    refine wpAnyT_takeB (i := 12) (oi := ⟨some 52, .move (.tmp 51), _, _, _, _⟩) (v := ?vR10c3x12) rfl (by kernel_rfl) (by kernel_rfl) (by kernel_rfl) (by kernel_rfl) (fun _ _ _ h => h) (Or.inl ⟨by rfl, ?hyR10c3x12⟩) (by assumption) ?restR10c3x12
    case hyR10c3x12 => (intro w hSw; (try dsimp only at hSw); go_simp; try (with_reducible rfl))
    try simp only [Act.put, List.setIfInBounds_toArray, List.set_cons_zero, List.set_cons_succ]
    refine wpAnyT_takeB (i := 13) (oi := ⟨some 53, .move (.tmp 7), _, _, _, _⟩) (v := ?vR10c3x13) rfl (by kernel_rfl) (by kernel_rfl) (by kernel_rfl) (by kernel_rfl) (fun _ _ _ h => h) (Or.inl ⟨by rfl, ?hyR10c3x13⟩) (by assumption) ?restR10c3x13
    case hyR10c3x13 => (intro w hSw; (try dsimp only at hSw); go_simp; try (with_reducible rfl))
    try simp only [Act.put, List.setIfInBounds_toArray, List.set_cons_zero, List.set_cons_succ]
    refine wpAnyT_takeB (i := 14) (oi := ⟨some 54, .nilCheck (.tmp 53), _, _, _, _⟩) (v := ?vR10c3x14) rfl (by kernel_rfl) (by kernel_rfl) (by kernel_rfl) (by kernel_rfl) (fun _ _ _ h => h) (Or.inl ⟨by rfl, ?hyR10c3x14⟩) (by assumption) ?restR10c3x14
    case hyR10c3x14 => (intro w hSw; (try dsimp only at hSw); go_simp; try (with_reducible rfl))
    try simp only [Act.put, List.setIfInBounds_toArray, List.set_cons_zero, List.set_cons_succ]
    refine wpAnyT_takeB (i := 15) (oi := ⟨some 55, .fieldAddr 37 (.tmp 54) 1, _, _, _, _⟩) (v := ?vR10c3x15) rfl (by kernel_rfl) (by kernel_rfl) (by kernel_rfl) (by kernel_rfl) (fun _ _ _ h => h) (Or.inl ⟨by rfl, ?hyR10c3x15⟩) (by assumption) ?restR10c3x15
    case hyR10c3x15 => (intro w hSw; (try dsimp only at hSw); go_simp; try (with_reducible rfl))
    try simp only [Act.put, List.setIfInBounds_toArray, List.set_cons_zero, List.set_cons_succ]
    refine wpAnyT_takeB (i := 16) (oi := ⟨some 56, .load 3 (.tmp 55), _, _, _, _⟩) (v := ?vR10c3x16) rfl (by kernel_rfl) (by kernel_rfl) (by kernel_rfl) (by kernel_rfl) (fun _ _ _ h => h) (Or.inl ⟨by rfl, ?hyR10c3x16⟩) (by assumption) ?restR10c3x16
    case hyR10c3x16 => (intro w hSw; (try dsimp only at hSw); go_simp; try (with_reducible rfl))
    try simp only [Act.put, List.setIfInBounds_toArray, List.set_cons_zero, List.set_cons_succ]
    refine wpAnyT_takeB (i := 17) (oi := ⟨some 57, .fieldAddr 26 (.tmp 4) 0, _, _, _, _⟩) (v := ?vR10c3x17) rfl (by kernel_rfl) (by kernel_rfl) (by kernel_rfl) (by kernel_rfl) (fun _ _ _ h => h) (Or.inl ⟨by rfl, ?hyR10c3x17⟩) (by assumption) ?restR10c3x17
    case hyR10c3x17 => (intro w hSw; (try dsimp only at hSw); go_simp; try (with_reducible rfl))
    try simp only [Act.put, List.setIfInBounds_toArray, List.set_cons_zero, List.set_cons_succ]
    refine wpAnyT_takeB (i := 18) (oi := ⟨some 58, .load 3 (.tmp 57), _, _, _, _⟩) (v := ?vR10c3x18) rfl (by kernel_rfl) (by kernel_rfl) (by kernel_rfl) (by kernel_rfl) (fun _ _ _ h => h) (Or.inl ⟨by rfl, ?hyR10c3x18⟩) (by assumption) ?restR10c3x18
    case hyR10c3x18 => (intro w hSw; (try dsimp only at hSw); go_simp; try (with_reducible rfl))
    try simp only [Act.put, List.setIfInBounds_toArray, List.set_cons_zero, List.set_cons_succ]
    refine wpAnyT_takeB (i := 19) (oi := ⟨some 59, .binOp .eql 3 (.tmp 56) (.tmp 58) 3, _, _, _, _⟩) (v := ?vR10c3x19) rfl (by kernel_rfl) (by kernel_rfl) (by kernel_rfl) (by kernel_rfl) (fun _ _ _ h => h) (Or.inl ⟨by rfl, ?hyR10c3x19⟩) (by assumption) ?restR10c3x19
    case hyR10c3x19 => (intro w hSw; (try dsimp only at hSw); go_simp; try (with_reducible rfl))
    try simp only [Act.put, List.setIfInBounds_toArray, List.set_cons_zero, List.set_cons_succ]
    refine wpAnyT_takeB (i := 20) (oi := ⟨some 60, .pick (.tmp 52) (.tmp 59) ((.const (.bool false))), _, _, _, _⟩) (v := ?vR10c3x20) rfl (by kernel_rfl) (by kernel_rfl) (by kernel_rfl) (by kernel_rfl) (fun _ _ _ h => h) (Or.inl ⟨by rfl, ?hyR10c3x20⟩) (by assumption) ?restR10c3x20
    case hyR10c3x20 => (intro w hSw; (try dsimp only at hSw); go_simp; try (with_reducible rfl))
    try simp only [Act.put, List.setIfInBounds_toArray, List.set_cons_zero, List.set_cons_succ]
    refine wpAnyT_takeB (i := 21) (oi := ⟨some 61, .move (.tmp 60), _, _, _, _⟩) (v := ?vR10c3x21) rfl (by kernel_rfl) (by kernel_rfl) (by kernel_rfl) (by kernel_rfl) (fun _ _ _ h => h) (Or.inl ⟨by rfl, ?hyR10c3x21⟩) (by assumption) ?restR10c3x21
    case hyR10c3x21 => (intro w hSw; (try dsimp only at hSw); go_simp; try (with_reducible rfl))
    try simp only [Act.put, List.setIfInBounds_toArray, List.set_cons_zero, List.set_cons_succ]
    refine wpAnyT_takeB (i := 22) (oi := ⟨some 62, .move (.tmp 7), _, _, _, _⟩) (v := ?vR10c3x22) rfl (by kernel_rfl) (by kernel_rfl) (by kernel_rfl) (by kernel_rfl) (fun _ _ _ h => h) (Or.inl ⟨by rfl, ?hyR10c3x22⟩) (by assumption) ?restR10c3x22
    case hyR10c3x22 => (intro w hSw; (try dsimp only at hSw); go_simp; try (with_reducible rfl))
    try simp only [Act.put, List.setIfInBounds_toArray, List.set_cons_zero, List.set_cons_succ]
    refine wpAnyT_takeB (i := 23) (oi := ⟨some 63, .nilCheck (.tmp 62), _, _, _, _⟩) (v := ?vR10c3x23) rfl (by kernel_rfl) (by kernel_rfl) (by kernel_rfl) (by kernel_rfl) (fun _ _ _ h => h) (Or.inl ⟨by rfl, ?hyR10c3x23⟩) (by assumption) ?restR10c3x23
    case hyR10c3x23 => (intro w hSw; (try dsimp only at hSw); go_simp; try (with_reducible rfl))
    try simp only [Act.put, List.setIfInBounds_toArray, List.set_cons_zero, List.set_cons_succ]
    refine wpAnyT_takeB (i := 24) (oi := ⟨some 64, .fieldAddr 37 (.tmp 63) 2, _, _, _, _⟩) (v := ?vR10c3x24) rfl (by kernel_rfl) (by kernel_rfl) (by kernel_rfl) (by kernel_rfl) (fun _ _ _ h => h) (Or.inl ⟨by rfl, ?hyR10c3x24⟩) (by assumption) ?restR10c3x24
    case hyR10c3x24 => (intro w hSw; (try dsimp only at hSw); go_simp; try (with_reducible rfl))
    try simp only [Act.put, List.setIfInBounds_toArray, List.set_cons_zero, List.set_cons_succ]
    refine wpAnyT_takeB (i := 25) (oi := ⟨some 65, .load 35 (.tmp 64), _, _, _, _⟩) (v := ?vR10c3x25) rfl (by kernel_rfl) (by kernel_rfl) (by kernel_rfl) (by kernel_rfl) (fun _ _ _ h => h) (Or.inl ⟨by rfl, ?hyR10c3x25⟩) (by assumption) ?restR10c3x25
    case hyR10c3x25 => (intro w hSw; (try dsimp only at hSw); go_simp; try (with_reducible rfl))
    try simp only [Act.put, List.setIfInBounds_toArray, List.set_cons_zero, List.set_cons_succ]
    refine wpAnyT_takeB (i := 26) (oi := ⟨some 66, .fieldAddr 26 (.tmp 4) 1, _, _, _, _⟩) (v := ?vR10c3x26) rfl (by kernel_rfl) (by kernel_rfl) (by kernel_rfl) (by kernel_rfl) (fun _ _ _ h => h) (Or.inl ⟨by rfl, ?hyR10c3x26⟩) (by assumption) ?restR10c3x26
    case hyR10c3x26 => (intro w hSw; (try dsimp only at hSw); go_simp; try (with_reducible rfl))
    try simp only [Act.put, List.setIfInBounds_toArray, List.set_cons_zero, List.set_cons_succ]
    refine wpAnyT_takeB (i := 27) (oi := ⟨some 67, .load 3 (.tmp 66), _, _, _, _⟩) (v := ?vR10c3x27) rfl (by kernel_rfl) (by kernel_rfl) (by kernel_rfl) (by kernel_rfl) (fun _ _ _ h => h) (Or.inl ⟨by rfl, ?hyR10c3x27⟩) (by assumption) ?restR10c3x27
    case hyR10c3x27 => (intro w hSw; (try dsimp only at hSw); go_simp; try (with_reducible rfl))
    try simp only [Act.put, List.setIfInBounds_toArray, List.set_cons_zero, List.set_cons_succ]
    refine wpAnyT_takeB (i := 28) (oi := ⟨some 68, .binOp .eql 3 (.tmp 65) (.tmp 67) 3, _, _, _, _⟩) (v := ?vR10c3x28) rfl (by kernel_rfl) (by kernel_rfl) (by kernel_rfl) (by kernel_rfl) (fun _ _ _ h => h) (Or.inl ⟨by rfl, ?hyR10c3x28⟩) (by assumption) ?restR10c3x28
    case hyR10c3x28 => (intro w hSw; (try dsimp only at hSw); go_simp; try (with_reducible rfl))
    try simp only [Act.put, List.setIfInBounds_toArray, List.set_cons_zero, List.set_cons_succ]
    refine wpAnyT_takeB (i := 29) (oi := ⟨some 69, .pick (.tmp 61) (.tmp 68) ((.const (.bool false))), _, _, _, _⟩) (v := ?vR10c3x29) rfl (by kernel_rfl) (by kernel_rfl) (by kernel_rfl) (by kernel_rfl) (fun _ _ _ h => h) (Or.inl ⟨by rfl, ?hyR10c3x29⟩) (by assumption) ?restR10c3x29
    case hyR10c3x29 => (intro w hSw; (try dsimp only at hSw); go_simp; try (with_reducible rfl))
    try simp only [Act.put, List.setIfInBounds_toArray, List.set_cons_zero, List.set_cons_succ]
    refine wpAnyT_takeB (i := 30) (oi := ⟨some 2, .assign (.tmp 69), _, _, _, _⟩) (v := ?vR10c3x30) rfl (by kernel_rfl) (by kernel_rfl) (by kernel_rfl) (by kernel_rfl) (fun _ _ _ h => h) (Or.inl ⟨by rfl, ?hyR10c3x30⟩) (by assumption) ?restR10c3x30
    case hyR10c3x30 => (intro w hSw; (try dsimp only at hSw); go_simp; try (with_reducible rfl))
    try simp only [Act.put, List.setIfInBounds_toArray, List.set_cons_zero, List.set_cons_succ]
    refine wpAnyT_done (by kernel_rfl) ?_ _
    go_wp2_with fail
    go_ret
    exact ⟨rfl, HC.out.1.drew⟩

end Go.Proofs.YtgckmkdmlaocmaaGreatDoor
