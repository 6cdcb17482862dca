/-
  Put together: RefOf, RefCmp, RefSmall, RefText.
-/
import Derived.Test.YtjffbndiecjkjaaGreatDoorSmall
import Derived.Test.YtjffbndiecjkjaaGreatDoorMath
import Derived.WalkSmall
import Derived.Deep.RegionHeld3
import Derived.Deep.DrawnRows
import Derived.Laws.IdiomStrings
import Derived.Lib.UnsafeStr
namespace Go.Proofs.YtjffbndiecjkjaaGreatDoor
open Go.RowKit
open Bn (limbs)

/-- The slice value v reads, in w, as the numbers l. -/
def IntsAt (w : World) (v : Value) (l : List Nat) : Prop :=
  (v = .slice none 0 0 ∧ l = []) ∨ ∃ b cap, v = .slice (some ⟨b, 0, none⟩) l.length cap ∧ b < w.heap.size ∧ l.length ≤ cap ∧ cap ≤ maxLen ∧
    ∀ j (h : j < l.length), w.cell? ⟨b, j, none⟩ = some (.int .i64 ((l[j] : Nat) : Int))

theorem IntsAt.below {w w' : World} {v : Value} {l : List Nat} (h : IntsAt w v l) (hb : Below w.heap.size w w') : IntsAt w' v l := by
  rcases h with h | ⟨b, cap, hv, hlt, hl, hm, hc⟩
  · exact .inl h
  · exact .inr ⟨b, cap, hv, Nat.lt_of_lt_of_le hlt hb.size, hl, hm, fun j hj => (hb.cell (p := ⟨b, j, none⟩) hlt).trans (hc j hj)⟩

/-- The cells of a list of numbers. -/
def cellsOf (l : List Nat) : List Value := l.map fun (d : Nat) => Value.int .i64 (d : Int)

theorem IntsAt.of_owns {w : World} {base : Nat} {v : Value} {l : List Nat} (h : w.ownsRow base 3 1 v l.length (cellsOf l)) : IntsAt w v l := by
  have hlt := h.lt
  have hcs : ∀ g, v.ownBlock = some g → _ := fun g hg => h.cells (g := g) hg
  obtain ⟨_, h | ⟨g, cap, cur, hv, hg, hh, hn, hm, _, _⟩⟩ := h
  · exact .inl ⟨h.1, List.eq_nil_of_length_eq_zero h.2⟩
  · subst hv
    refine .inr ⟨g, cap, rfl, (hlt g rfl).2, hn, hm, fun j hj => ?_⟩
    have := hcs g rfl j (.int .i64 ((l[j] : Nat) : Int)) (by simp [cellsOf, hj])
    cases j with
    | zero => simpa [Addr.add] using this
    | succ j => simpa [Addr.add] using this

/-- The value v says, in w, the document's number z. -/
def RefAt (w : World) (v : Value) (z : Int) : Prop := ∃ s, v = .agg #[.bool (decide (z < 0)), s] ∧ IntsAt w s (limbs z.natAbs)

theorem RefAt.below {w w' : World} {v : Value} {z : Int} (h : RefAt w v z) (hb : Below w.heap.size w w') : RefAt w' v z := by
  obtain ⟨s, hv, hs⟩ := h
  exact ⟨s, hv, hs.below hb⟩

theorem Tryz.info3 : (Tryz.prog.info? 3).map (fun i => (i.zero, i.size, i.bytes)) = some (some (.int .i64 0), 1, 8) := by kernel_rfl

theorem of_step {n k : Int} {done : List Nat} (hk : k ≠ 0) (h : limbs n.natAbs = done ++ limbs k.natAbs) : limbs n.natAbs = (done ++ [k.natAbs % 1000000000]) ++ limbs (k.tdiv 1000000000).natAbs := by
  rw [h, Bn.limbs_pos (by omega), Int.natAbs_tdiv, List.append_assoc]; rfl

theorem limbs_int_le {n : Int} (h1 : -9223372036854775808 ≤ n) (h2 : n ≤ 9223372036854775807) : (limbs n.natAbs).length ≤ 3 := by
  rw [Bn.limbs_length_le]
  have : (1000000000 : Nat) ^ 3 = 1000000000000000000000000000 := by decide
  omega

theorem cellsOf_snoc (l : List Nat) (d : Nat) : cellsOf (l ++ [d]) = cellsOf l ++ [.int .i64 (d : Int)] := by simp [cellsOf]

theorem own_form {w : World} {base : Nat} {e : TypeId} {v : Value} {n : Nat} {xs : List Value} (h : w.ownsRow base e 1 v n xs) : ∃ a cap, v = .slice a n cap := by
  obtain ⟨_, h | ⟨g, cap, cur, hv, _⟩⟩ := h
  · exact ⟨none, 0, by rw [h.1, h.2]⟩
  · exact ⟨_, cap, hv⟩

/-- One number more at the end of a slice that the call itself has made. -/
theorem append_one {P : Program} {ops : Array Oper} {rest : List Oper} {o : Oper} {a : Act} {Q : Exit → Act → World → Prop} (wr : World) (hgd : o.guard = none) (s x : Operand) (t : TypeId)
    (ho : o.op = .call { callee := .builtin .append, args := #[s, x], argTypes := #[t, t] }) (base : Nat) (e : TypeId) (i : TypeInfo) (kd : IntKind) (bytes : Nat)
    (ht : P.underlying t = some (.slice e)) (hi : P.info? e = some i) (hz : i.zero = some (.int kd 0)) (hsize : i.size = 1) (hby : i.bytes = bytes)
    (v : Value) (n : Nat) (xs : List Value) (hs : a.eval s = v) (hown : wr.ownsRow base e 1 v n xs) (c : Int) (bk : Nat) (hbk : wr.heap.size = bk) (hx : a.eval x = .slice (some ⟨bk, 0, none⟩) 1 1)
    (hn : n ≤ 1000000000) (hb8 : bytes ≤ 16) (hbase : base ≤ wr.heap.size)
    (h : ∀ v' w', w'.ownsRow base e 1 v' (n + 1) (xs ++ [.int kd c]) → (wr.alloc (.cells #[.int kd c] e)).grownBy w' v.ownBlock → wpList P ops Q rest (a.put o.dst v') w') : wpList P ops Q (o :: rest) a (wr.alloc (.cells #[.int kd c] e)) := by
  subst hbk
  refine wpList_append_own _ hgd s x t ho base e i (.int kd 0) 1 bytes ht hi hz hsize hby rfl (by decide) v n xs hs (hown.alloc _) ⟨wr.heap.size, 0, none⟩ 1 1 [.int kd c] hx rfl ?_ ?_ ?_ ?_ ?_ ?_
  · intro j u hj
    match j, hj with
    | 0, hj => simp at hj; subst hj; simp [Addr.add]
  · intro u hu; simp at hu; subst hu; rfl
  · unfold maxLen; omega
  · have : (n + 1) * bytes ≤ (n + 1) * 16 := Nat.mul_le_mul_left _ hb8
    omega
  · simp; omega
  · intro v' w' h1 h2 _
    exact h v' w' h1 h2

theorem of_rel {W wr w1 : World} {B : Nat} {v v' : Value} {n k : Int} {done : List Nat} {c : Int} {o : Obj} (hk : k ≠ 0) (hl : limbs n.natAbs = done ++ limbs k.natAbs) (hc : c = ((k.natAbs % 1000000000 : Nat) : Int))
    (hown : wr.ownsRow B 3 1 v done.length (cellsOf done)) (hbel : Below B W wr) (hB : B ≤ wr.heap.size)
    (hown1 : w1.ownsRow B 3 1 v' (done.length + 1) (cellsOf done ++ [.int .i64 c])) (hg : (wr.alloc o).grownBy w1 v.ownBlock) :
    limbs n.natAbs = (done ++ [k.natAbs % 1000000000]) ++ limbs (k.tdiv 1000000000).natAbs ∧ w1.ownsRow B 3 1 v' (done ++ [k.natAbs % 1000000000]).length (cellsOf (done ++ [k.natAbs % 1000000000])) ∧ Below B W w1 ∧
    (k.tdiv 1000000000).natAbs < k.natAbs := by
  refine ⟨of_step hk hl, ?_, ?_, ?_⟩
  · rw [cellsOf_snoc, List.length_append, ← hc]; exact hown1
  · exact (hbel.alloc hB o).grown hg (by simp; omega) (fun g hg => (hown.lt g hg).1)
  · rw [Int.natAbs_tdiv]; exact Nat.div_lt_self (by omega) (by decide)

theorem tdiv_bd {k : Int} (h1 : -9223372036854775808 ≤ k) (h2 : k ≤ 9223372036854775807) : -9223372036854775808 ≤ k.tdiv 1000000000 ∧ k.tdiv 1000000000 ≤ 9223372036854775807 := by
  have h0 := Int.natAbs_tdiv k 1000000000
  have h3 : (k.tdiv 1000000000).natAbs ≤ k.natAbs := by rw [h0]; exact Nat.div_le_self _ _
  have h4 : k.tdiv 1000000000 ≤ (k.natAbs : Int) := by omega
  clear h0
  rcases Int.le_total 0 k with h | h
  · have h5 : 0 ≤ k.tdiv 1000000000 := Int.tdiv_nonneg h (by decide)
    omega
  · have h5 : k.tdiv 1000000000 ≤ 0 := by
      have := Int.tdiv_nonneg (a := -k) (b := 1000000000) (by omega) (by decide)
      rw [Int.neg_tdiv] at this; omega
    omega
theorem tmod_abs {k : Int} : (k.tmod 1000000000).natAbs = k.natAbs % 1000000000 := by rw [Int.natAbs_tmod]; rfl

end Go.Proofs.YtjffbndiecjkjaaGreatDoor

namespace Go.Proofs.YtjffbndiecjkjaaGreatDoor
open Go.RowKit
open Bn (limbs)

/-- A slice of numbers that has one is no nil. -/
theorem IntsAt.pos {w : World} {v : Value} {l : List Nat} (h : IntsAt w v l) (hl : 0 < l.length) : ∃ b cap, v = .slice (some ⟨b, 0, none⟩) l.length cap ∧ b < w.heap.size ∧ l.length ≤ cap ∧ cap ≤ maxLen ∧
    ∀ j (h : j < l.length), w.cell? ⟨b, j, none⟩ = some (.int .i64 ((l[j] : Nat) : Int)) := by
  rcases h with h | h
  · rw [h.2] at hl; simp at hl
  · exact h
theorem IntsAt.form {w : World} {v : Value} {l : List Nat} (h : IntsAt w v l) : ∃ a cap, v = .slice a l.length cap ∧ l.length ≤ maxLen := by
  rcases h with h | ⟨b, cap, hv, _, h1, h2, _⟩
  · rw [h.2]; exact ⟨none, 0, h.1, by simp⟩
  · exact ⟨_, cap, hv, by omega⟩

theorem top_step (x k : Nat) : x / 1000000000 ^ k = 1000000000 * (x / 1000000000 ^ (k + 1)) + x / 1000000000 ^ k % 1000000000 := by
  have : x / 1000000000 ^ (k + 1) = x / 1000000000 ^ k / 1000000000 := by rw [Nat.pow_succ, Nat.div_div_eq_div_mul]
  rw [this]; omega
theorem lt_of_top {x y k : Nat} (h : x / 1000000000 ^ k < y / 1000000000 ^ k) : x < y := by
  rcases Nat.lt_or_ge x y with h1 | h1
  · exact h1
  · have := Nat.div_le_div_right (c := 1000000000 ^ k) h1
    omega
theorem lt_of_length {x y : Nat} (h : (limbs x).length < (limbs y).length) : x < y := by
  have h1 := (Bn.limbs_length_le x (limbs x).length).1 (Nat.le_refl _)
  have h2 : ¬ y < 1000000000 ^ (limbs x).length := fun h3 => by
    have := (Bn.limbs_length_le y (limbs x).length).2 h3
    omega
  omega

/-- What is known in sizes' loop: of the limbs from k on both say the same. -/
theorem sizes_lt {x y k : Nat} (hx : k < (limbs x).length) (hy : k < (limbs y).length) (h : x / 1000000000 ^ (k + 1) = y / 1000000000 ^ (k + 1)) (hlt : (limbs x)[k] < (limbs y)[k]) : x < y := by
  rw [Bn.get_limbs hx, Bn.get_limbs hy] at hlt
  refine lt_of_top (k := k) ?_
  rw [top_step x, top_step y, h]; omega
theorem sizes_eq {x y k : Nat} (hx : k < (limbs x).length) (hy : k < (limbs y).length) (h : x / 1000000000 ^ (k + 1) = y / 1000000000 ^ (k + 1)) (he : (limbs x)[k] = (limbs y)[k]) : x / 1000000000 ^ k = y / 1000000000 ^ k := by
  rw [Bn.get_limbs hx, Bn.get_limbs hy] at he
  rw [top_step x, top_step y, h]; omega

end Go.Proofs.YtjffbndiecjkjaaGreatDoor

namespace Go.Proofs.YtjffbndiecjkjaaGreatDoor
open Go.RowKit
open Bn (limbs)
attribute [local go_sem ↓] Go.wp_at_zero Go.wp_at_succ

theorem ret_ib {k : IntKind} {a b : Int} {c d : Bool} (h : a = b) (h' : c = d) : Ending.returned (.tuple #[.int k a, .bool c]) = .returned (.tuple #[.int k b, .bool d]) := by rw [h, h']

/-- What stays of a document's number that lies boxed in block N, whatever grows. -/
def Boxed (W : World) (N : Nat) (d : Bool) (s : Value) (z : Int) (w' : World) : Prop :=
  w'.cell? ⟨N, 0, none⟩ = some (.bool d) ∧ w'.cell? ⟨N, 1, none⟩ = some s ∧ RefAt w' (.agg #[.bool d, s]) z ∧ N < w'.heap.size ∧ Below W.heap.size W w'

theorem Boxed.next {W : World} {N : Nat} {d : Bool} {s : Value} {z : Int} {w1 w2 : World} (h : Boxed W N d s z w1) (hb : Below w1.heap.size w1 w2) : Boxed W N d s z w2 := by
  obtain ⟨h1, h2, h3, h4, h5⟩ := h
  exact ⟨(hb.cell (p := ⟨N, 0, none⟩) h4).trans h1, (hb.cell (p := ⟨N, 1, none⟩) h4).trans h2, h3.below hb, Nat.lt_of_lt_of_le h4 hb.size, h5.trans (hb.mono h5.size)⟩

theorem Boxed.ref {W : World} {N : Nat} {d : Bool} {s : Value} {z : Int} {w1 : World} (h : Boxed W N d s z w1) : RefAt w1 (.agg #[.bool d, s]) z := h.2.2.1

end Go.Proofs.YtjffbndiecjkjaaGreatDoor

namespace Go.Proofs.YtjffbndiecjkjaaGreatDoor
open Go.RowKit
open Bn (limbs)
open Go.Lib (byteCells)

theorem Tryz.info5 : (Tryz.prog.info? 5).map (fun i => (i.zero, i.size, i.bytes)) = some (some (.int .u8 0), 1, 1) := by kernel_rfl

theorem byteCells_snoc (l : List UInt8) (d : Nat) (h : d < 10) : byteCells (l ++ [UInt8.ofNat (48 + d)]) = byteCells l ++ [.int .u8 (48 + (d : Int))] := by
  simp [byteCells]; omega

/-- The text so far. -/
def sofar (z : Int) (X : Nat) : List UInt8 := Bn.sgn z ++ Bn.dig0 X

theorem sofar_length_sgn (z : Int) : (Bn.sgn z).length = if z < 0 then 1 else 0 := by unfold Bn.sgn; split <;> rfl

/-- What the test of Text's inner loop comes to. -/
theorem emit_len {z : Int} {X : Nat} : (1 < (sofar z X).length → 0 < X) ∧ ((sofar z X).length = 1 → ¬ z < 0 → 0 < X) ∧ (0 < X → 1 < (sofar z X).length ∨ ((sofar z X).length = 1 ∧ ¬ z < 0)) := by
  have h := sofar_length_sgn z
  have e : (sofar z X).length = (Bn.sgn z).length + (Bn.dig0 X).length := by simp [sofar]
  rw [e, h]
  rcases Nat.eq_zero_or_pos X with h0 | h0
  · subst h0
    rw [Bn.dig0_zero]
    refine ⟨?_, ?_, ?_⟩ <;> split <;> simp <;> omega
  · have := Bn.dig0_length_pos h0
    refine ⟨fun _ => h0, fun _ _ => h0, fun _ => ?_⟩
    split <;> omega

theorem sofar_le {z : Int} {X L : Nat} (h : X < 1000000000 ^ L) : (sofar z X).length ≤ 9 * L + 1 := by
  have h1 := sofar_length_sgn z
  have e : (sofar z X).length = (Bn.sgn z).length + (Bn.dig0 X).length := by simp [sofar]
  have h2 := Bn.dig0_length X (9 * L) (by rw [Nat.pow_mul]; exact h)
  rw [e, h1]
  split <;> omega

/-- One digit more. -/
theorem digit_step {y p q j u X : Nat} (hj : j < 9) (hy : y = 1000000000 * q + p) (hp : p < 1000000000) (hu : u = 10 ^ (9 - j) / 10) (hX : X = y / 10 ^ (9 - j)) :
    0 < u ∧ u ≤ 100000000 ∧ y / 10 ^ (9 - (j + 1)) = 10 * X + p / u % 10 ∧ u / 10 = 10 ^ (9 - (j + 1)) / 10 ∧ q ≤ X := by
  subst hu hX hy
  have hj' : j = 0 ∨ j = 1 ∨ j = 2 ∨ j = 3 ∨ j = 4 ∨ j = 5 ∨ j = 6 ∨ j = 7 ∨ j = 8 := by omega
  rcases hj' with rfl | rfl | rfl | rfl | rfl | rfl | rfl | rfl | rfl <;> simp <;> omega

theorem text_rel {W wr w1 : World} {B : Nat} {v v' : Value} {z : Int} {X d : Nat} {c : Int} {o : Obj} (hd : d < 10) (hX : 0 < X ∨ 0 < d) (hc : c = 48 + (d : Int))
    (hown : wr.ownsRow B 5 1 v (sofar z X).length (byteCells (sofar z X))) (hbel : Below B W wr) (hB : B ≤ wr.heap.size)
    (hown1 : w1.ownsRow B 5 1 v' ((sofar z X).length + 1) (byteCells (sofar z X) ++ [.int .u8 c])) (hg : (wr.alloc o).grownBy w1 v.ownBlock) :
    w1.ownsRow B 5 1 v' (sofar z (10 * X + d)).length (byteCells (sofar z (10 * X + d))) ∧ Below B W w1 := by
  have e : sofar z (10 * X + d) = sofar z X ++ [UInt8.ofNat (48 + d)] := by
    unfold sofar; rw [Bn.dig0_step hd hX, List.append_assoc]
  refine ⟨?_, ?_⟩
  · rw [e, byteCells_snoc _ _ hd, List.length_append, ← hc]; exact hown1
  · exact (hbel.alloc hB o).grown hg (by simp; omega) (fun g hg => (hown.lt g hg).1)

theorem owns_bytes {w : World} {base : Nat} {v : Value} {l : List UInt8} (h : w.ownsRow base 5 1 v l.length (byteCells l)) (hl : l ≠ []) : ∃ g cap, v = .slice (some ⟨g, 0, none⟩) l.length cap ∧
    ∀ j (hj : j < l.length), w.cell? ((⟨g, 0, none⟩ : Addr).add j) = some (.int .u8 (l[j].toNat : Int)) := by
  have hcs : ∀ g, v.ownBlock = some g → _ := fun g hg => h.cells (g := g) hg
  obtain ⟨_, h | ⟨g, cap, cur, hv, hg, hh, hn, hm, _, _⟩⟩ := h
  · exact absurd (List.eq_nil_of_length_eq_zero h.2) hl
  · subst hv
    exact ⟨g, cap, rfl, fun j hj => hcs g rfl j _ (by simp [byteCells, hj])⟩

end Go.Proofs.YtjffbndiecjkjaaGreatDoor
