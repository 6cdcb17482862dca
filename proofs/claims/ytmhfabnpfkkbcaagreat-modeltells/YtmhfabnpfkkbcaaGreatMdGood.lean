/-
  A room holds its marks.
-/
import Derived.Test.YtmhfabnpfkkbcaaGreatMdConJ
import Derived.Test.YtmhfabnpfkkbcaaGreatMdFault
namespace Go.Proofs.YtmhfabnpfkkbcaaGreat
open Go.RowKit

/-- Two lists, place by place. -/
def All2 (E : Value → Value → Prop) : List Value → List Value → Prop
  | [], [] => True
  | x :: X, a :: A => E x a ∧ All2 E X A
  | _, _ => False
theorem All2.len {E : Value → Value → Prop} : ∀ {X A : List Value}, All2 E X A → X.length = A.length
  | [], [], _ => rfl
  | _ :: X, _ :: A, h => by simp [All2.len h.2]
  | [], _ :: _, h => h.elim
  | _ :: _, [], h => h.elim
theorem All2.get {E : Value → Value → Prop} : ∀ {X A : List Value}, All2 E X A → ∀ i (h1 : i < X.length) (h2 : i < A.length), E X[i] A[i]
  | x :: X, a :: A, h, 0, _, _ => h.1
  | x :: X, a :: A, h, i + 1, h1, h2 => All2.get h.2 i (by simpa using h1) (by simpa using h2)
  | [], _, _, i, h1, _ => by simp at h1
  | _ :: _, [], h, _, _, _ => h.elim
theorem All2.append {E : Value → Value → Prop} : ∀ {X A Y B : List Value}, All2 E X A → All2 E Y B → All2 E (X ++ Y) (A ++ B)
  | [], [], _, _, _, h => h
  | _ :: _, _ :: _, _, _, h, k => ⟨h.1, All2.append h.2 k⟩
  | [], _ :: _, _, _, h, _ => h.elim
  | _ :: _, [], _, _, h, _ => h.elim
theorem All2.imp {E E' : Value → Value → Prop} (hE : ∀ x a, E x a → E' x a) : ∀ {X A : List Value}, All2 E X A → All2 E' X A
  | [], [], _ => trivial
  | _ :: _, _ :: _, h => ⟨hE _ _ h.1, All2.imp hE h.2⟩
  | [], _ :: _, h => h.elim
  | _ :: _, [], h => h.elim

/-- A list of ints, and how much of it is no room: its marks are there. -/
def EntI (w : World) (x a : Value) : Prop := ∃ b n room cap : Nat, x = .slice (some ⟨b, 0, none⟩) (n + room) cap ∧ a = .int .i64 (n : Int) ∧ n ≤ 100000 ∧ room ≤ 40 ∧ ∀ j, j < room → w.cell? ⟨b, n + j, none⟩ = some (.int .i64 (lotI j))
def EntT (w : World) (x a : Value) : Prop := ∃ b n room cap : Nat, x = .slice (some ⟨b, 0, none⟩) (n + room) cap ∧ a = .int .i64 (n : Int) ∧ n ≤ 100000 ∧ room ≤ 40 ∧ ∀ j, j < room → w.cell? ⟨b, (n + j) * 2, none⟩ = some (.int .i64 (lotI j)) ∧ w.cell? ⟨b, (n + j) * 2 + 1, none⟩ = some (.int .i64 0)
def EntL (w : World) (x a : Value) : Prop := ∃ b n room cap : Nat, x = .slice (some ⟨b, 0, none⟩) (n + room) cap ∧ a = .int .i64 (n : Int) ∧ n ≤ 100000 ∧ room ≤ 40 ∧ ∀ j, j < room → ∃ m, w.cell? ⟨b, n + j, none⟩ = some (.slice (some ⟨m, 0, none⟩) 1 1) ∧ w.cell? ⟨m, 0, none⟩ = some (.int .i64 (lotI j))

theorem DataI.ent {S : Lab} {w : World} {b : Nat} {l : List Int} {room : Nat} (h : DataI S w b l room) (hl : l.length ≤ 100000) (hr : room ≤ 40) (cap : Nat) : EntI w (.slice (some ⟨b, 0, none⟩) (l.length + room) cap) (.int .i64 (l.length : Int)) := by
  refine ⟨b, l.length, room, cap, rfl, rfl, hl, hr, fun j hj => h.cells _ _ ?_⟩
  unfold laidInts
  rw [List.getElem?_append_right (by simp), List.getElem?_map]
  simp [hj]
theorem DataT.ent {S : Lab} {w : World} {b : Nat} {l : List (Int × Int)} {room : Nat} (h : DataT S w b l room) (hl : l.length ≤ 100000) (hr : room ≤ 40) (cap : Nat) : EntT w (.slice (some ⟨b, 0, none⟩) (l.length + room) cap) (.int .i64 (l.length : Int)) := by
  refine ⟨b, l.length, room, cap, rfl, rfl, hl, hr, fun j hj => ?_⟩
  have hlen := termCells_length l
  have hg := termCells_get ((List.range room).map fun j => (lotI j, (0 : Int))) j (by simpa using hj)
  simp only [List.getElem_map, List.getElem_range] at hg
  refine ⟨h.cells _ _ ?_, h.cells _ _ ?_⟩
  · unfold laidTerms
    rw [List.getElem?_append_right (by omega), ← hg.1]; congr 1; omega
  · unfold laidTerms
    rw [List.getElem?_append_right (by omega), ← hg.2]; congr 1; omega
theorem DataL.ent {S : Lab} {w : World} {b : Nat} {l : List (List Int)} {D : List Row1} {M : List Nat} {room : Nat} (h : DataL S w b l D M room) (hl : l.length ≤ 100000) (hr : room ≤ 40) (cap : Nat) : EntL w (.slice (some ⟨b, 0, none⟩) (l.length + room) cap) (.int .i64 (l.length : Int)) := by
  have hD : D.length = l.length := by have := congrArg List.length h.rows; simpa using this
  refine ⟨b, l.length, room, cap, rfl, rfl, hl, hr, fun j hj => ?_⟩
  have hjM : j < M.length := by rw [h.len]; exact hj
  refine ⟨M[j], h.cells _ _ ?_, (h.marks j hjM).2.2⟩
  rw [List.getElem?_append_right (by simp; omega)]
  simp only [List.length_map, List.getElem?_map]
  rw [show l.length + j - D.length = j by omega, List.getElem?_eq_getElem hjM]; rfl
theorem rows_ent {S : Lab} {w : World} : ∀ {D : List Row1}, (∀ r ∈ D, DataI S w r.b r.l 4) → (∀ r ∈ D, r.l.length ≤ 100000) → All2 (EntI w) (D.map Row1.ent) (D.map Row1.at_)
  | [], _, _ => trivial
  | r :: D, h, hl => ⟨(h r (by simp)).ent (hl r (by simp)) (by decide) r.cap, rows_ent (fun x hx => h x (by simp [hx])) (fun x hx => hl x (by simp [hx]))⟩

theorem term_fields : (Tryz.prog.fieldsOf 107).toList.map (fun f => (f.name, f.type, f.offset)) = [("C", 3, 0), ("X", 3, 1)] := by kernel_rfl
theorem part2 (a1 a2 : Value) (w : World) : (part 3 #[a1, a2] 0).run Tryz.prog w = .ok a1 w ∧ (part 3 #[a1, a2] 1).run Tryz.prog w = .ok a2 w := ⟨by kernel_rfl, by kernel_rfl⟩
set_option maxHeartbeats 400000 in
theorem term_neq (a1 a2 b1 b2 : Int) (w : World) : (binOp .neq 107 (.agg #[.int .i64 a1, .int .i64 a2]) (.agg #[.int .i64 b1, .int .i64 b2])).run Tryz.prog w = .ok (.bool (!(a1 == b1 && a2 == b2))) w := by
  rw [run_neq_struct, run_equalIn_struct (d := 9999) (ht := by kernel_rfl) (hp := by kernel_rfl)]
  have hf := term_fields
  generalize (Tryz.prog.fieldsOf 107).toList = l at *
  simp only [List.map_eq_cons_iff, List.map_eq_nil_iff, Prod.mk.injEq] at hf
  obtain ⟨f1, l1, rfl, ⟨n1, t1, o1⟩, f2, l2, rfl, ⟨n2, t2, o2⟩, rfl⟩ := hf
  have pa := part2 (.int .i64 a1) (.int .i64 a2) w
  have pb := part2 (.int .i64 b1) (.int .i64 b2) w
  have eq := fun a b => run_equalIn_int (P := Tryz.prog) w 9998 3 .i64 .i64 a b under3
  simp only [Op.eqFields, n1, n2, t1, t2, o1, o2, Sem.run_bind, pa, pb, eq, Result.andThen_ok, Sem.run_ite, Sem.run_pure]
  cases a1 == b1 <;> cases a2 == b2 <;> simp [Result.andThen]

/-- What holdInts, holdTerms, holdLists are asked of. -/
theorem row_cell {w : World} {base : Nat} {e : TypeId} {a : Option Addr} {n c : Nat} {xs : List Value} (h : w.ownsRow base e 1 (.slice a n c) n xs) (i : Nat) (hi : i < xs.length) : ∃ g, a = some ⟨g, 0, none⟩ ∧ w.cell? ⟨g, i, none⟩ = some xs[i] := by
  rcases h.2 with ⟨h1, h2⟩ | ⟨g, cap, cur, h1, _⟩
  · have := h.1; omega
  · injection h1 with e1 e2 e3
    subst e1
    refine ⟨g, rfl, ?_⟩
    have := h.cells (g := g) rfl i xs[i] (List.getElem?_eq_getElem hi)
    rwa [addr_none, Nat.zero_add] at this
end Go.Proofs.YtmhfabnpfkkbcaaGreat
