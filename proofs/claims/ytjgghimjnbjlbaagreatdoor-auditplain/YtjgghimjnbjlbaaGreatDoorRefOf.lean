/-
  The document's numbers (package hallmarkref1): what a value says; Of.
-/
import Derived.Test.YtjgghimjnbjlbaaGreatDoorJ04
import Derived.Test.YtjgghimjnbjlbaaGreatDoorMath
namespace Go.Proofs.YtjgghimjnbjlbaaGreatDoor
open Go.RowKit
open Bn (limbs)

theorem own_form {w : World} {base : Nat} {e : TypeId} {v : Value} {n : Nat} {xs : List Value} (h : w.ownsRow base e 1 v n xs) : ∃ a cap, v = .slice a n cap := by
  obtain ⟨_, h | ⟨g, cap, cur, hv, _⟩⟩ := h
  · exact ⟨none, 0, by rw [h.1, h.2]⟩
  · exact ⟨_, cap, hv⟩

/-- One number more at the end of a slice that the call itself has made. -/
theorem append_one {P : Program} {ops : Array Oper} {rest : List Oper} {o : Oper} {a : Act} {Q : Exit → Act → World → Prop} (wr : World) (hgd : o.guard = none) (s x : Operand) (t : TypeId)
    (ho : o.op = .call { callee := .builtin .append, args := #[s, x], argTypes := #[t, t] }) (base : Nat) (e : TypeId) (i : TypeInfo) (kd : IntKind) (bytes : Nat)
    (ht : P.underlying t = some (.slice e)) (hi : P.info? e = some i) (hz : i.zero = some (.int kd 0)) (hsize : i.size = 1) (hby : i.bytes = bytes)
    (v : Value) (n : Nat) (xs : List Value) (hs : a.eval s = v) (hown : wr.ownsRow base e 1 v n xs) (c : Int) (bk : Nat) (hbk : wr.heap.size = bk) (hx : a.eval x = .slice (some ⟨bk, 0, none⟩) 1 1)
    (hn : n ≤ 1000000000) (hb8 : bytes ≤ 16) (hbase : base ≤ wr.heap.size)
    (h : ∀ v' w', w'.ownsRow base e 1 v' (n + 1) (xs ++ [.int kd c]) → (wr.alloc (.cells #[.int kd c] e)).grownBy w' v.ownBlock → wpList P ops Q rest (a.put o.dst v') w') : wpList P ops Q (o :: rest) a (wr.alloc (.cells #[.int kd c] e)) := by
  subst hbk
  refine wpList_append_own _ hgd s x t ho base e i (.int kd 0) 1 bytes ht hi hz hsize hby rfl (by decide) v n xs hs (hown.alloc _) ⟨wr.heap.size, 0, none⟩ 1 1 [.int kd c] hx rfl ?_ ?_ ?_ ?_ ?_ ?_
  · intro j u hj
    match j, hj with
    | 0, hj => simp at hj; subst hj; simp [Addr.add]
  · intro u hu; simp at hu; subst hu; rfl
  · unfold maxLen; omega
  · have : (n + 1) * bytes ≤ (n + 1) * 16 := Nat.mul_le_mul_left _ hb8
    omega
  · simp; omega
  · intro v' w' h1 h2 _
    exact h v' w' h1 h2

end Go.Proofs.YtjgghimjnbjlbaaGreatDoor
