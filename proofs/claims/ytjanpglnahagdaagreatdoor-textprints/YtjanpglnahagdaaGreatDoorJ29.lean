/-
  Put together: MdGood, MdCount, MdCountC, MdFew.
-/
import Derived.Test.YtjanpglnahagdaaGreatDoorJ06
import Derived.Test.YtjanpglnahagdaaGreatDoorMdFault
namespace Go.Proofs.YtjanpglnahagdaaGreatDoor
open Go.RowKit

/-- Two lists, place by place. -/
def All2 (E : Value → Value → Prop) : List Value → List Value → Prop
  | [], [] => True
  | x :: X, a :: A => E x a ∧ All2 E X A
  | _, _ => False
theorem All2.len {E : Value → Value → Prop} : ∀ {X A : List Value}, All2 E X A → X.length = A.length
  | [], [], _ => rfl
  | _ :: X, _ :: A, h => by simp [All2.len h.2]
  | [], _ :: _, h => h.elim
  | _ :: _, [], h => h.elim
theorem All2.get {E : Value → Value → Prop} : ∀ {X A : List Value}, All2 E X A → ∀ i (h1 : i < X.length) (h2 : i < A.length), E X[i] A[i]
  | x :: X, a :: A, h, 0, _, _ => h.1
  | x :: X, a :: A, h, i + 1, h1, h2 => All2.get h.2 i (by simpa using h1) (by simpa using h2)
  | [], _, _, i, h1, _ => by simp at h1
  | _ :: _, [], h, _, _, _ => h.elim
theorem All2.append {E : Value → Value → Prop} : ∀ {X A Y B : List Value}, All2 E X A → All2 E Y B → All2 E (X ++ Y) (A ++ B)
  | [], [], _, _, _, h => h
  | _ :: _, _ :: _, _, _, h, k => ⟨h.1, All2.append h.2 k⟩
  | [], _ :: _, _, _, h, _ => h.elim
  | _ :: _, [], _, _, h, _ => h.elim
theorem All2.imp {E E' : Value → Value → Prop} (hE : ∀ x a, E x a → E' x a) : ∀ {X A : List Value}, All2 E X A → All2 E' X A
  | [], [], _ => trivial
  | _ :: _, _ :: _, h => ⟨hE _ _ h.1, All2.imp hE h.2⟩
  | [], _ :: _, h => h.elim
  | _ :: _, [], h => h.elim

/-- A list of ints, and how much of it is no room: its marks are there. -/
def EntI (w : World) (x a : Value) : Prop := ∃ b n room cap : Nat, x = .slice (some ⟨b, 0, none⟩) (n + room) cap ∧ a = .int .i64 (n : Int) ∧ n ≤ 100000 ∧ room ≤ 40 ∧ ∀ j, j < room → w.cell? ⟨b, n + j, none⟩ = some (.int .i64 (lotI j))
def EntT (w : World) (x a : Value) : Prop := ∃ b n room cap : Nat, x = .slice (some ⟨b, 0, none⟩) (n + room) cap ∧ a = .int .i64 (n : Int) ∧ n ≤ 100000 ∧ room ≤ 40 ∧ ∀ j, j < room → w.cell? ⟨b, (n + j) * 2, none⟩ = some (.int .i64 (lotI j)) ∧ w.cell? ⟨b, (n + j) * 2 + 1, none⟩ = some (.int .i64 0)
def EntL (w : World) (x a : Value) : Prop := ∃ b n room cap : Nat, x = .slice (some ⟨b, 0, none⟩) (n + room) cap ∧ a = .int .i64 (n : Int) ∧ n ≤ 100000 ∧ room ≤ 40 ∧ ∀ j, j < room → ∃ m, w.cell? ⟨b, n + j, none⟩ = some (.slice (some ⟨m, 0, none⟩) 1 1) ∧ w.cell? ⟨m, 0, none⟩ = some (.int .i64 (lotI j))

theorem DataI.ent {S : Lab} {w : World} {b : Nat} {l : List Int} {room : Nat} (h : DataI S w b l room) (hl : l.length ≤ 100000) (hr : room ≤ 40) (cap : Nat) : EntI w (.slice (some ⟨b, 0, none⟩) (l.length + room) cap) (.int .i64 (l.length : Int)) := by
  refine ⟨b, l.length, room, cap, rfl, rfl, hl, hr, fun j hj => h.cells _ _ ?_⟩
  unfold laidInts
  rw [List.getElem?_append_right (by simp), List.getElem?_map]
  simp [hj]
theorem DataT.ent {S : Lab} {w : World} {b : Nat} {l : List (Int × Int)} {room : Nat} (h : DataT S w b l room) (hl : l.length ≤ 100000) (hr : room ≤ 40) (cap : Nat) : EntT w (.slice (some ⟨b, 0, none⟩) (l.length + room) cap) (.int .i64 (l.length : Int)) := by
  refine ⟨b, l.length, room, cap, rfl, rfl, hl, hr, fun j hj => ?_⟩
  have hlen := termCells_length l
  have hg := termCells_get ((List.range room).map fun j => (lotI j, (0 : Int))) j (by simpa using hj)
  simp only [List.getElem_map, List.getElem_range] at hg
  refine ⟨h.cells _ _ ?_, h.cells _ _ ?_⟩
  · unfold laidTerms
    rw [List.getElem?_append_right (by omega), ← hg.1]; congr 1; omega
  · unfold laidTerms
    rw [List.getElem?_append_right (by omega), ← hg.2]; congr 1; omega
theorem DataL.ent {S : Lab} {w : World} {b : Nat} {l : List (List Int)} {D : List Row1} {M : List Nat} {room : Nat} (h : DataL S w b l D M room) (hl : l.length ≤ 100000) (hr : room ≤ 40) (cap : Nat) : EntL w (.slice (some ⟨b, 0, none⟩) (l.length + room) cap) (.int .i64 (l.length : Int)) := by
  have hD : D.length = l.length := by have := congrArg List.length h.rows; simpa using this
  refine ⟨b, l.length, room, cap, rfl, rfl, hl, hr, fun j hj => ?_⟩
  have hjM : j < M.length := by rw [h.len]; exact hj
  refine ⟨M[j], h.cells _ _ ?_, (h.marks j hjM).2.2⟩
  rw [List.getElem?_append_right (by simp; omega)]
  simp only [List.length_map, List.getElem?_map]
  rw [show l.length + j - D.length = j by omega, List.getElem?_eq_getElem hjM]; rfl
theorem rows_ent {S : Lab} {w : World} : ∀ {D : List Row1}, (∀ r ∈ D, DataI S w r.b r.l 4) → (∀ r ∈ D, r.l.length ≤ 100000) → All2 (EntI w) (D.map Row1.ent) (D.map Row1.at_)
  | [], _, _ => trivial
  | r :: D, h, hl => ⟨(h r (by simp)).ent (hl r (by simp)) (by decide) r.cap, rows_ent (fun x hx => h x (by simp [hx])) (fun x hx => hl x (by simp [hx]))⟩

theorem term_fields : (Tryz.prog.fieldsOf 101).toList.map (fun f => (f.name, f.type, f.offset)) = [("C", 3, 0), ("X", 3, 1)] := by kernel_rfl
theorem part2 (a1 a2 : Value) (w : World) : (part 3 #[a1, a2] 0).run Tryz.prog w = .ok a1 w ∧ (part 3 #[a1, a2] 1).run Tryz.prog w = .ok a2 w := ⟨by kernel_rfl, by kernel_rfl⟩
set_option maxHeartbeats 400000 in
theorem term_neq (a1 a2 b1 b2 : Int) (w : World) : (binOp .neq 101 (.agg #[.int .i64 a1, .int .i64 a2]) (.agg #[.int .i64 b1, .int .i64 b2])).run Tryz.prog w = .ok (.bool (!(a1 == b1 && a2 == b2))) w := by
  rw [run_neq_struct, run_equalIn_struct (d := 9999) (ht := by kernel_rfl) (hp := by kernel_rfl)]
  have hf := term_fields
  generalize (Tryz.prog.fieldsOf 101).toList = l at *
  simp only [List.map_eq_cons_iff, List.map_eq_nil_iff, Prod.mk.injEq] at hf
  obtain ⟨f1, l1, rfl, ⟨n1, t1, o1⟩, f2, l2, rfl, ⟨n2, t2, o2⟩, rfl⟩ := hf
  have pa := part2 (.int .i64 a1) (.int .i64 a2) w
  have pb := part2 (.int .i64 b1) (.int .i64 b2) w
  have eq := fun a b => run_equalIn_int (P := Tryz.prog) w 9998 3 .i64 .i64 a b under3
  simp only [Op.eqFields, n1, n2, t1, t2, o1, o2, Sem.run_bind, pa, pb, eq, Result.andThen_ok, Sem.run_ite, Sem.run_pure]
  cases a1 == b1 <;> cases a2 == b2 <;> simp [Result.andThen]

/-- What holdInts, holdTerms, holdLists are asked of. -/
theorem row_cell {w : World} {base : Nat} {e : TypeId} {a : Option Addr} {n c : Nat} {xs : List Value} (h : w.ownsRow base e 1 (.slice a n c) n xs) (i : Nat) (hi : i < xs.length) : ∃ g, a = some ⟨g, 0, none⟩ ∧ w.cell? ⟨g, i, none⟩ = some xs[i] := by
  rcases h.2 with ⟨h1, h2⟩ | ⟨g, cap, cur, h1, _⟩
  · have := h.1; omega
  · injection h1 with e1 e2 e3
    subst e1
    refine ⟨g, rfl, ?_⟩
    have := h.cells (g := g) rfl i xs[i] (List.getElem?_eq_getElem hi)
    rwa [addr_none, Nat.zero_add] at this
end Go.Proofs.YtjanpglnahagdaaGreatDoor

namespace Go.Proofs.YtjanpglnahagdaaGreatDoor
open Go.RowKit

/-- A count, in its block. -/
def CountAt (w : World) (P : Nat) (left : Int) : Prop := w.heap[P]? = some (.cells #[.int .i64 left] 58 (0, 0))
theorem CountAt.cell {w : World} {P : Nat} {left : Int} (h : CountAt w P left) : w.cell? ⟨P, 0, none⟩ = some (.int .i64 left) ∧ w.frozen? ⟨P, 0, none⟩ = false := by
  unfold CountAt at h
  simp [World.cell?, World.frozen?, h]
theorem CountAt.lt {w : World} {P : Nat} {left : Int} (h : CountAt w P left) : P < w.heap.size := (Array.getElem?_eq_some_iff.1 h).1
theorem CountAt.below {w w' : World} {P : Nat} {left : Int} (h : CountAt w P left) (hb : Below w.heap.size w w') : CountAt w' P left := (hb.block P h.lt).trans h

/-- What was counted: no more than what was left, where some is left. -/
structure Took (P : Nat) (left : Int) (cost : Int) (w w' : World) : Prop where
  out : ∃ left', CountAt w' P left' ∧ left' ≤ 20000 ∧ -9223372036854775807 ≤ left' ∧ (0 ≤ left' → left' + cost ≤ left)
  grown : w.grownBy w' (some P)

/-- A Boolean comes back. -/
def IsBool (e : Ending) : Prop := ∃ b, e = .returned (.bool b)
theorem grownBy_refl (w : World) (row : Option Nat) : w.grownBy w row := ⟨rfl, rfl, rfl, Nat.le_refl _, fun _ _ _ => rfl⟩
theorem grownBy_trans {w w1 w2 : World} {row : Option Nat} (h : w.grownBy w1 row) (k : w1.grownBy w2 row) : w.grownBy w2 row :=
  ⟨k.os.trans h.os, k.tape.trans h.tape, k.output.trans h.output, Nat.le_trans h.size k.size, fun i hi hne => (k.block i (Nat.lt_of_lt_of_le hi h.size) hne).trans (h.block i hi hne)⟩
theorem grownBy_below {w w1 : World} {row : Option Nat} (h : Below w.heap.size w w1) : w.grownBy w1 row := ⟨h.os, h.tape, h.output, h.size, fun i hi _ => h.block i hi⟩

set_option maxHeartbeats 400000 in
theorem ok_any (P : Nat) (left : Int) (w : World) (h : CountAt w P left) : Calls Tryz.prog 6 #[.pointer (some ⟨P, 0, none⟩)] w fun e w' => e = .returned (.bool (decide (0 ≤ left))) ∧ w' = w := by
  obtain ⟨h1, _⟩ := h.cell
  clear h
  go_enter Tryz.func6, Tryz.ntmps6
  go_wp2
  go_ret
  exact ⟨rfl, rfl⟩

set_option maxHeartbeats 400000 in
theorem add_any (P : Nat) (left : Int) (n : Nat) (w : World) (h : CountAt w P left) (hl : left ≤ 20000) (hl2 : -9223372036854775807 ≤ left) (hn : n ≤ maxLen) : Calls Tryz.prog 14 #[.pointer (some ⟨P, 0, none⟩), .int .i64 (n : Int)] w fun e w' => IsBool e ∧ Took P left n w w' := by
  obtain ⟨h1, h2⟩ := h.cell
  have hlt := h.lt
  unfold maxLen at hn
  by_cases h0 : 0 ≤ left
  · have hb : w.heap[P]? = some (.cells #[.int .i64 left] 58 (0, 0)) := h
    have HB : Hid (w.heap[P]? = some (.cells #[.int .i64 left] 58 (0, 0))) := hb
    have hw : wrap64 (left - (n : Int)) = left - (n : Int) := by unfold wrap64; omega
    obtain ⟨V, hV⟩ : ∃ V, w.setCell ⟨P, 0, none⟩ (.int .i64 (left - (n : Int))) = V := ⟨_, rfl⟩
    have hc : CountAt V P (left - n) := by
      rw [← hV]; unfold CountAt
      simp [World.setCell, Array.getElem?_modify, hb]
    have hg : w.grownBy V (some P) := by
      rw [← hV]
      exact ⟨rfl, rfl, rfl, by simp [World.setCell], fun k _ hne => Below.heap_setCell w ⟨P, 0, none⟩ _ k (fun e => hne (by rw [e]))⟩
    obtain ⟨h3, h4⟩ := hc.cell
    have HT : Hid (Took P left n w V) := ⟨⟨_, hc, by omega, by omega, fun _ => by omega⟩, hg⟩
    clear hb h hc hg
    go_enter Tryz.func14, Tryz.ntmps14
    go_wp2
    go_ret
    exact ⟨⟨_, rfl⟩, HT.out⟩
  · have HT : Hid (Took P left n w w) := ⟨⟨left, h, hl, hl2, fun h => absurd h h0⟩, grownBy_refl _ _⟩
    clear h
    go_enter Tryz.func14, Tryz.ntmps14
    go_wp2
    go_ret
    exact ⟨⟨_, rfl⟩, HT.out⟩

theorem add_one (P : Nat) (left : Int) (w : World) (h : CountAt w P left) (hl : left ≤ 20000) (hl2 : -9223372036854775807 ≤ left) : Calls Tryz.prog 14 #[.pointer (some ⟨P, 0, none⟩), .int .i64 1] w fun e w' => IsBool e ∧ Took P left 1 w w' := add_any P left 1 w h hl hl2 (by decide)
/-- How many parts lists have. -/
def costL : List (List Int) → Nat
  | [] => 0
  | r :: l => r.length + 1 + costL l
theorem costL_append (a b : List (List Int)) : costL (a ++ b) = costL a + costL b := by
  induction a with
  | nil => simp [costL]
  | cons r a ih => simp only [List.cons_append, costL, ih]; omega
theorem costL_next {l : List (List Int)} {k : Nat} (h : k < l.length) : costL (l.take (k + 1)) = costL (l.take k) + (l[k].length + 1) := by
  rw [List.take_succ_eq_append_getElem h, costL_append]; simp [costL]
theorem costL_mem {l : List (List Int)} {r : List Int} (h : r ∈ l) : r.length + 1 ≤ costL l := by
  induction l with
  | nil => cases h
  | cons x l ih =>
    rcases List.mem_cons.1 h with rfl | h
    · simp only [costL]; omega
    · have := ih h; simp only [costL]; omega
theorem costL_len (l : List (List Int)) : l.length ≤ costL l := by
  induction l with
  | nil => simp
  | cons r l ih => simp only [costL, List.length_cons]; omega

set_option maxRecDepth 10000 in
set_option maxHeartbeats 1000000 in
theorem lists_count (P : Nat) (left : Int) (v : Value) (l : List (List Int)) (w : World) (h : CountAt w P left) (hl : left ≤ 20000) (hl2 : -9223372036854775807 ≤ left) (hv : ∀ w', w.grownBy w' (some P) → RowsAt w' v l) :
    Calls Tryz.prog 42 #[.pointer (some ⟨P, 0, none⟩), v] w fun e w' => e = .returned (.tuple #[]) ∧ Took P left (costL l) w w' := by
  have HV : Hid (∀ w', w.grownBy w' (some P) → RowsAt w' v l) := hv
  obtain ⟨a, cap, rfl, hm⟩ := (hv w (grownBy_refl _ _)).form
  unfold maxLen at hm
  have H0 : Hid (CountAt w P left) := h
  clear hv h
  go_enter Tryz.func42, Tryz.ntmps42
  go_wp2_with fail
  go_loopw [4] (fun iv wr => ∃ (k : Nat) (lf : Int), iv = .int .i64 (k : Int) ∧ k ≤ l.length ∧ Hid (CountAt wr P lf) ∧ lf ≤ 20000 ∧ -9223372036854775807 ≤ lf ∧ Hid (0 ≤ lf → lf + costL (l.take k) ≤ left) ∧ Hid (w.grownBy wr (some P))) (fun iv _ => l.length - (intOf iv).toNat)
  case atStart => exact ⟨0, left, rfl, Nat.zero_le _, H0, hl, hl2, (fun _ => by simp [costL]), grownBy_refl _ _⟩
  case round =>
    obtain ⟨k, lf, rfl, hk, hC, h1, h2, hT, hG⟩ := hrel
    clear H0
    by_cases hlt : k < l.length
    · have hkI : (k : Int) < (l.length : Int) := by omega
      by_cases h0 : 0 ≤ lf
      · have hd : decide (0 ≤ lf) = true := by simpa using h0
        obtain ⟨ra, rc, hre, _, hro⟩ := HV.out _ hG.out
        injection hre with e1 e2 e3
        subst e1 e3
        obtain ⟨b0, o0, ha, hb0, hcs⟩ := hro (by omega)
        subst ha
        have HRO : Hid (∀ w', w.grownBy w' (some P) → ∃ u, w'.cell? ⟨b0, o0 + k, none⟩ = some u ∧ IntsAt w' u l[k]) := fun w' hw' => by
          obtain ⟨ra', rc', hre', _, hro'⟩ := HV.out _ hw'
          injection hre' with e1' e2' e3'
          obtain ⟨b0', o0', ha', _, hcs'⟩ := hro' (by omega)
          rw [← e1'] at ha'
          injection ha' with ha'
          injection ha' with h1' h2' _
          subst h1' h2'
          exact hcs' k hlt
        have hnx := costL_next hlt
        have HNX : Hid (costL (l.take (k + 1)) = costL (l.take k) + (l[k].length + 1)) := hnx
        clear hro hcs e2 hnx
        go_wp2_with (first
          | (go_at_call 6; refine (ok_any P lf _ hC.out).mono ?_; rintro e w' ⟨rfl, hww⟩; rw [hww])
          | (go_at_call 14; refine calls_at (add_one P lf _ hC.out h1 h2) (by with_reducible rfl) (by with_reducible rfl) ?_; rintro e w1 ⟨⟨bb, rfl⟩, ⟨⟨lf1, hC1, h11, h12, hT1⟩, hG1⟩⟩;
             have hg1 := grownBy_trans hG.out hG1;
             obtain ⟨u, hu, hI⟩ := HRO.out _ hg1;
             obtain ⟨ua, uc, hue, hum⟩ := hI.form;
             subst hue;
             have HC1 : Hid (CountAt w1 P lf1) := hC1;
             have HT1 : Hid (0 ≤ lf1 → lf1 + 1 ≤ lf) := hT1;
             have HG1 : Hid (w.grownBy w1 (some P)) := hg1;
             clear hC1 hT1 hG1 hg1 hI)
          | (go_at_call 14; refine calls_at (add_any P lf1 (l[k]).length _ HC1.out h11 h12 hum) (by with_reducible rfl) (by with_reducible rfl) ?_; rintro e w2 ⟨⟨bc, rfl⟩, ⟨⟨lf2, hC2, h21, h22, hT2⟩, hG2⟩⟩;
             have HC2 : Hid (CountAt w2 P lf2) := hC2;
             have HT2 : Hid (0 ≤ lf2 → lf2 + ((l[k]).length : Int) ≤ lf1) := hT2;
             have HG2 : Hid (w.grownBy w2 (some P)) := grownBy_trans HG1.out hG2;
             clear hC2 hT2 hG2))
        go_roundw
        case rel => exact ⟨k + 1, lf2, by go_num, by omega, HC2, h21, h22, (fun h => by have a1 := HT2.out h; have a2 := HT1.out (by omega); have a3 := hT.out (by omega); rw [HNX.out]; omega), HG2⟩
        case measure => simp [intOf]; omega
      · have hd : decide (0 ≤ lf) = false := by simpa using h0
        have HD : Hid (Took P left (costL l) w _) := ⟨⟨lf, hC.out, h1, h2, fun h => absurd h h0⟩, hG.out⟩
        go_wp2_with (go_at_call 6; refine (ok_any P lf _ hC.out).mono ?_; rintro e w' ⟨rfl, hww⟩; rw [hww])
        go_end0
        exact ⟨rfl, HD.out⟩
    · have hkI : ¬ (k : Int) < (l.length : Int) := by omega
      have HD : Hid (Took P left (costL l) w _) := ⟨⟨lf, hC.out, h1, h2, fun h => by have := hT.out h; rwa [List.take_of_length_le (by omega)] at this⟩, hG.out⟩
      go_wp2_with fail
      go_end0
      exact ⟨rfl, HD.out⟩
end Go.Proofs.YtjanpglnahagdaaGreatDoor

namespace Go.Proofs.YtjanpglnahagdaaGreatDoor
open Go.RowKit

/-- How many parts a constraint has. -/
def costC (c : Md.Cn) : Nat := 1 + c.terms.length + c.xs.length + c.table.length + costL c.rows

set_option maxRecDepth 10000 in
set_option maxHeartbeats 1000000 in
theorem con_count (P : Nat) (left : Int) (c : Md.Cn) (vt vx vb vr : Value) (w : World) (h : CountAt w P left) (hl : left ≤ 20000) (hl2 : -9223372036854775807 ≤ left) (hC : ∀ w', w.grownBy w' (some P) → CnAt w' c vt vx vb vr) :
    Calls Tryz.prog 13 #[.pointer (some ⟨P, 0, none⟩), cnVal c vt vx vb vr] w fun e w' => e = .returned (.tuple #[]) ∧ Took P left (costC c) w w' := by
  have h0 := hC w (grownBy_refl _ _)
  obtain ⟨ta, tc, rfl, htm⟩ := h0.t.form
  obtain ⟨xa, xc, rfl, hxm⟩ := h0.x.form
  obtain ⟨ba, bc, rfl, hbm⟩ := h0.b.form
  obtain ⟨ra, rc, rfl, hrm⟩ := h0.r.form
  have HC : Hid (∀ w', w.grownBy w' (some P) → CnAt w' c (.slice ta c.terms.length tc) (.slice xa c.xs.length xc) (.slice ba c.table.length bc) (.slice ra c.rows.length rc)) := hC
  have hP := h.lt
  obtain ⟨W, hW⟩ : ∃ W, w.alloc (.cells #[.int .i64 c.kind, .int .i64 c.op, .slice ta c.terms.length tc, .int .i64 c.k, .int .i64 c.v, .int .i64 c.x, .int .i64 c.y, .slice xa c.xs.length xc, .slice ba c.table.length bc, .slice ra c.rows.length rc] 64) = W := ⟨_, rfl⟩
  have hbW : Below w.heap.size w W := by rw [← hW]; exact (Below.refl _ _).alloc (Nat.le_refl _) _
  have hN : W.heap[w.heap.size]? = some (.cells #[.int .i64 c.kind, .int .i64 c.op, .slice ta c.terms.length tc, .int .i64 c.k, .int .i64 c.v, .int .i64 c.x, .int .i64 c.y, .slice xa c.xs.length xc, .slice ba c.table.length bc, .slice ra c.rows.length rc] 64) := by rw [← hW]; exact heap_alloc_new w _
  have hNl : w.heap.size < W.heap.size := (Array.getElem?_eq_some_iff.1 hN).1
  have HN : Hid (∀ w', W.grownBy w' (some P) → w'.heap[w.heap.size]? = some (.cells #[.int .i64 c.kind, .int .i64 c.op, .slice ta c.terms.length tc, .int .i64 c.k, .int .i64 c.v, .int .i64 c.x, .int .i64 c.y, .slice xa c.xs.length xc, .slice ba c.table.length bc, .slice ra c.rows.length rc] 64)) := fun w' hg => (hg.block _ hNl (fun e => by injection e with e; omega)).trans hN
  have HG0 : Hid (w.grownBy W (some P)) := grownBy_below hbW
  have HC0 : Hid (CountAt W P left) := h.below hbW
  obtain ⟨⟨p0, p1, p2, p3, p4, p5, p6, p7, p8, p9⟩, _⟩ := box10 hN
  clear h0 hC h hbW hN
  unfold cnVal
  go_enter Tryz.func13, Tryz.ntmps13
  go_wp2_with (first
    | (go_at_call 14; refine calls_at (add_one P left _ HC0.out hl hl2) (by with_reducible rfl) (by with_reducible rfl) ?_; rintro e w1 ⟨⟨b1, rfl⟩, ⟨⟨l1, hC1, h11, h12, hT1⟩, hG1⟩⟩;
       have HC1 : Hid (CountAt w1 P l1) := hC1; have HT1 : Hid (0 ≤ l1 → l1 + 1 ≤ left) := hT1; have HG1 : Hid (W.grownBy w1 (some P)) := hG1;
       clear hC1 hT1 hG1 p0 p1 p2 p3 p4 p5 p6 p7 p8 p9;
       obtain ⟨⟨p0, p1, p2, p3, p4, p5, p6, p7, p8, p9⟩, _⟩ := box10 (HN.out _ HG1.out))
    | (go_at_call 14; refine calls_at (add_any P l1 c.terms.length _ HC1.out h11 h12 htm) (by with_reducible rfl) (by with_reducible rfl) ?_; rintro e w2 ⟨⟨b2, rfl⟩, ⟨⟨l2, hC1, h21, h22, hT1⟩, hG1⟩⟩;
       have HC2 : Hid (CountAt w2 P l2) := hC1; have HT2 : Hid (0 ≤ l2 → l2 + (c.terms.length : Int) ≤ l1) := hT1; have HG2 : Hid (W.grownBy w2 (some P)) := grownBy_trans HG1.out hG1;
       clear hC1 hT1 hG1 p0 p1 p2 p3 p4 p5 p6 p7 p8 p9 HC1;
       obtain ⟨⟨p0, p1, p2, p3, p4, p5, p6, p7, p8, p9⟩, _⟩ := box10 (HN.out _ HG2.out))
    | (go_at_call 14; refine calls_at (add_any P l2 c.xs.length _ HC2.out h21 h22 hxm) (by with_reducible rfl) (by with_reducible rfl) ?_; rintro e w3 ⟨⟨b3, rfl⟩, ⟨⟨l3, hC1, h31, h32, hT1⟩, hG1⟩⟩;
       have HC3 : Hid (CountAt w3 P l3) := hC1; have HT3 : Hid (0 ≤ l3 → l3 + (c.xs.length : Int) ≤ l2) := hT1; have HG3 : Hid (W.grownBy w3 (some P)) := grownBy_trans HG2.out hG1;
       clear hC1 hT1 hG1 p0 p1 p2 p3 p4 p5 p6 p7 p8 p9 HC2;
       obtain ⟨⟨p0, p1, p2, p3, p4, p5, p6, p7, p8, p9⟩, _⟩ := box10 (HN.out _ HG3.out))
    | (go_at_call 14; refine calls_at (add_any P l3 c.table.length _ HC3.out h31 h32 hbm) (by with_reducible rfl) (by with_reducible rfl) ?_; rintro e w4 ⟨⟨b4, rfl⟩, ⟨⟨l4, hC1, h41, h42, hT1⟩, hG1⟩⟩;
       have HC4 : Hid (CountAt w4 P l4) := hC1; have HT4 : Hid (0 ≤ l4 → l4 + (c.table.length : Int) ≤ l3) := hT1; have HG4 : Hid (W.grownBy w4 (some P)) := grownBy_trans HG3.out hG1;
       clear hC1 hT1 hG1 p0 p1 p2 p3 p4 p5 p6 p7 p8 p9 HC3;
       obtain ⟨⟨p0, p1, p2, p3, p4, p5, p6, p7, p8, p9⟩, _⟩ := box10 (HN.out _ HG4.out))
    | (go_at_call 42; refine calls_at (lists_count P l4 _ c.rows _ HC4.out h41 h42 (fun w' hg => (HC.out w' (grownBy_trans HG0.out (grownBy_trans HG4.out hg))).r)) (by with_reducible rfl) (by with_reducible rfl) ?_; rintro e w5 ⟨rfl, ⟨⟨l5, hC1, h51, h52, hT1⟩, hG1⟩⟩;
       have HC5 : Hid (CountAt w5 P l5) := hC1; have HT5 : Hid (0 ≤ l5 → l5 + (costL c.rows : Int) ≤ l4) := hT1; have HG5 : Hid (W.grownBy w5 (some P)) := grownBy_trans HG4.out hG1;
       clear hC1 hT1 hG1 p0 p1 p2 p3 p4 p5 p6 p7 p8 p9 HC4))
  go_end0
  refine ⟨rfl, ⟨⟨l5, HC5.out, h51, h52, fun h => ?_⟩, grownBy_trans HG0.out HG5.out⟩⟩
  have a5 := HT5.out h
  have a4 := HT4.out (by omega)
  have a3 := HT3.out (by omega)
  have a2 := HT2.out (by omega)
  have a1 := HT1.out (by omega)
  unfold costC
  omega

set_option maxRecDepth 10000 in
set_option maxHeartbeats 1000000 in
theorem model_count1 (P q : Nat) (left : Int) (c : Md.Cn) (vt vx vb vr : Value) (w : World) (h : CountAt w P left) (hl : left ≤ 20000) (hl2 : -9223372036854775807 ≤ left) (hC : ∀ w', w.grownBy w' (some P) → CnAt w' c vt vx vb vr) (hq : q ≠ P) (hqc : w.heap[q]? = some (.cells #[.int .i64 c.kind, .int .i64 c.op, vt, .int .i64 c.k, .int .i64 c.v, .int .i64 c.x, .int .i64 c.y, vx, vb, vr] 64)) :
    Calls Tryz.prog 5 #[.pointer (some ⟨P, 0, none⟩), .agg #[.slice none 0 0, .slice (some ⟨q, 0, none⟩) 1 1, .bool false, .slice none 0 0]] w fun e w' => e = .returned (.tuple #[]) ∧ Took P left (costC c) w w' := by
  have h0 := hC w (grownBy_refl _ _)
  obtain ⟨ta, tc, rfl, htm⟩ := h0.t.form
  obtain ⟨xa, xc, rfl, hxm⟩ := h0.x.form
  obtain ⟨ba, bc, rfl, hbm⟩ := h0.b.form
  obtain ⟨ra, rc, rfl, hrm⟩ := h0.r.form
  have HC : Hid (∀ w', w.grownBy w' (some P) → CnAt w' c (.slice ta c.terms.length tc) (.slice xa c.xs.length xc) (.slice ba c.table.length bc) (.slice ra c.rows.length rc)) := hC
  have hP := h.lt
  have hql : q < w.heap.size := (Array.getElem?_eq_some_iff.1 hqc).1
  obtain ⟨W, hW⟩ : ∃ W, w.alloc (.cells #[.slice none 0 0, .slice (some ⟨q, 0, none⟩) 1 1, .bool false, .slice none 0 0] 26) = W := ⟨_, rfl⟩
  have hbW : Below w.heap.size w W := by rw [← hW]; exact (Below.refl _ _).alloc (Nat.le_refl _) _
  have hN : W.heap[w.heap.size]? = some (.cells #[.slice none 0 0, .slice (some ⟨q, 0, none⟩) 1 1, .bool false, .slice none 0 0] 26) := by rw [← hW]; exact heap_alloc_new w _
  have hNl : w.heap.size < W.heap.size := (Array.getElem?_eq_some_iff.1 hN).1
  have HN : Hid (∀ w', W.grownBy w' (some P) → w'.cell? ⟨w.heap.size, 0, none⟩ = some (.slice none 0 0) ∧ w'.cell? ⟨w.heap.size, 1, none⟩ = some (.slice (some ⟨q, 0, none⟩) 1 1) ∧ w'.cell? ⟨w.heap.size, 3, none⟩ = some (.slice none 0 0)) := fun w' hg => by
    have := (hg.block _ hNl (fun e => by injection e with e; omega)).trans hN
    simp [World.cell?, this]
  have HQ : Hid (∀ w', W.grownBy w' (some P) → w'.heap[q]? = some (.cells #[.int .i64 c.kind, .int .i64 c.op, .slice ta c.terms.length tc, .int .i64 c.k, .int .i64 c.v, .int .i64 c.x, .int .i64 c.y, .slice xa c.xs.length xc, .slice ba c.table.length bc, .slice ra c.rows.length rc] 64)) := fun w' hg => (hg.block q (Nat.lt_of_lt_of_le hql hbW.size) (fun e => by injection e with e; exact hq e)).trans ((hbW.block q hql).trans hqc)
  have HG0 : Hid (w.grownBy W (some P)) := grownBy_below hbW
  have HC0 : Hid (CountAt W P left) := h.below hbW
  obtain ⟨m0, m1, m3⟩ := HN.out W (grownBy_refl _ _)
  have H78 : Hid (∀ w' l, CountAt w' P l → l ≤ 20000 → -9223372036854775807 ≤ l → w.grownBy w' (some P) → Calls Tryz.prog 13 #[.pointer (some ⟨P, 0, none⟩), cnVal c (.slice ta c.terms.length tc) (.slice xa c.xs.length xc) (.slice ba c.table.length bc) (.slice ra c.rows.length rc)] w' fun e w'' => e = .returned (.tuple #[]) ∧ Took P l (costC c) w' w'') := fun w' l h1 h2 h3 hg => con_count P l c _ _ _ _ w' h1 h2 h3 (fun w'' hg' => HC.out w'' (grownBy_trans hg hg'))
  unfold cnVal at H78
  clear h0 hC h hbW hN hqc
  go_enter Tryz.func5, Tryz.ntmps5
  go_wp2_with fail
  go_loop [4] (fun iv => iv = .int .i64 0) (fun _ => 0)
  case atStart => rfl
  case round =>
    subst hrel
    go_wp2_with fail
    go_loopw [5] (fun iv wr => ∃ (k : Nat) (lf : Int), iv = .int .i64 (k : Int) ∧ k ≤ 1 ∧ Hid (CountAt wr P lf) ∧ lf ≤ 20000 ∧ -9223372036854775807 ≤ lf ∧ Hid (0 ≤ lf → lf + (if k = 0 then 0 else (costC c : Int)) ≤ left) ∧ Hid (W.grownBy wr (some P)) ∧ Hid (k = 1 ∨ k = 0)) (fun iv _ => 1 - (intOf iv).toNat)
    case atStart => exact ⟨0, left, rfl, Nat.zero_le _, HC0, hl, hl2, (fun _ => by simp), grownBy_refl _ _, .inr rfl⟩
    case round =>
      obtain ⟨k, lf, rfl, hk, hCw, h1, h2, hT, hG, hk01⟩ := hrel
      clear m0 m1 m3
      obtain ⟨m0, m1, m3⟩ := HN.out _ hG.out
      rcases hk01.out with rfl | rfl
      · have H28 : Hid (Calls Tryz.prog 14 #[.pointer (some ⟨P, 0, none⟩), .int .i64 0] _ fun e w' => IsBool e ∧ Took P lf 0 _ w') := add_any P lf 0 _ hCw.out h1 h2 (by decide)
        go_wp2_with (go_at_call 14; refine calls_at H28.out (by with_reducible rfl) (by with_reducible rfl) ?_; rintro e w1 ⟨⟨b1, rfl⟩, ⟨⟨l1, hC1, h11, h12, hT1⟩, hG1⟩⟩)
        go_end0
        exact ⟨rfl, ⟨⟨l1, hC1, h11, h12, fun h => by have a1 := hT1 h; have a2 := hT.out (by omega); simp at a2; omega⟩, grownBy_trans HG0.out (grownBy_trans hG.out hG1)⟩⟩
      · by_cases h0 : 0 ≤ lf
        · have hd : decide (0 ≤ lf) = true := by simpa using h0
          obtain ⟨⟨p0, p1, p2, p3, p4, p5, p6, p7, p8, p9⟩, _⟩ := box10 (HQ.out _ hG.out)
          go_wp2_with (first
            | (go_at_call 6; refine (ok_any P lf _ hCw.out).mono ?_; rintro e w' ⟨rfl, hww⟩; rw [hww])
            | (go_at_call 13; refine calls_at (H78.out _ lf hCw.out h1 h2 (grownBy_trans HG0.out hG.out)) (by with_reducible rfl) (by with_reducible rfl) ?_; rintro e w1 ⟨rfl, ⟨⟨l1, hC1, h11, h12, hT1⟩, hG1⟩⟩))
          go_roundw
          case rel => exact ⟨1, l1, by rfl, by decide, hC1, h11, h12, (fun h => by have a1 := hT1 h; have a2 := hT.out (by omega); simp at a2 ⊢; omega), grownBy_trans hG.out hG1, .inl rfl⟩
          case measure => simp [intOf]
        · have hd : decide (0 ≤ lf) = false := by simpa using h0
          have H28 : Hid (Calls Tryz.prog 14 #[.pointer (some ⟨P, 0, none⟩), .int .i64 0] _ fun e w' => IsBool e ∧ Took P lf 0 _ w') := add_any P lf 0 _ hCw.out h1 h2 (by decide)
          go_wp2_with (first
            | (go_at_call 6; refine (ok_any P lf _ hCw.out).mono ?_; rintro e w' ⟨rfl, hww⟩; rw [hww])
            | (go_at_call 14; refine calls_at H28.out (by with_reducible rfl) (by with_reducible rfl) ?_; rintro e w1 ⟨⟨b1, rfl⟩, ⟨⟨l1, hC1, h11, h12, hT1⟩, hG1⟩⟩))
          go_end0
          exact ⟨rfl, ⟨⟨l1, hC1, h11, h12, fun h => by have a1 := hT1 h; omega⟩, grownBy_trans HG0.out (grownBy_trans hG.out hG1)⟩⟩
end Go.Proofs.YtjanpglnahagdaaGreatDoor

namespace Go.Proofs.YtjanpglnahagdaaGreatDoor
open Go.RowKit

set_option maxHeartbeats 400000 in
theorem manyCount_any (n : Int) (w : World) : Calls Tryz.prog 4 #[.int .i64 n] w fun e w' => e = .returned (.pointer (some ⟨w.heap.size, 0, none⟩)) ∧ w' = w.alloc (.cells #[.int .i64 n] 58) := by
  go_enter Tryz.func4, Tryz.ntmps4
  go_wp2
  go_ret
  exact ⟨rfl, rfl⟩

theorem below_grownBy {w W w' : World} {P : Nat} (hW : Below w.heap.size w W) (hg : W.grownBy w' (some P)) (hP : w.heap.size ≤ P) : Below w.heap.size w w' :=
  ⟨hg.os.trans hW.os, hg.tape.trans hW.tape, hg.output.trans hW.output, Nat.le_trans hW.size hg.size, fun k hk => (hg.block k (Nat.lt_of_lt_of_le hk hW.size) (fun e => by injection e with e; omega)).trans (hW.block k hk)⟩

/-- What few answers. -/
structure Few (cost : Nat) (w : World) (e : Ending) (w' : World) : Prop where
  out : ∃ b, e = .returned (.bool b) ∧ (b = true → cost ≤ 20000)
  rest : Below w.heap.size w w'

end Go.Proofs.YtjanpglnahagdaaGreatDoor
