/-
  Put together: RefCmp, Limbs.
-/
import Derived.Test.YtibbnijicdijnaaGreatDoorRefOf
import Derived.WalkSmall
namespace Go.Proofs.YtibbnijicdijnaaGreatDoor
open Go.RowKit
open Bn (limbs)

/-- A slice of numbers that has one is no nil. -/
theorem IntsAt.pos {w : World} {v : Value} {l : List Nat} (h : IntsAt w v l) (hl : 0 < l.length) : ∃ b cap, v = .slice (some ⟨b, 0, none⟩) l.length cap ∧ b < w.heap.size ∧ l.length ≤ cap ∧ cap ≤ maxLen ∧
    ∀ j (h : j < l.length), w.cell? ⟨b, j, none⟩ = some (.int .i64 ((l[j] : Nat) : Int)) := by
  rcases h with h | h
  · rw [h.2] at hl; simp at hl
  · exact h
theorem IntsAt.form {w : World} {v : Value} {l : List Nat} (h : IntsAt w v l) : ∃ a cap, v = .slice a l.length cap ∧ l.length ≤ maxLen := by
  rcases h with h | ⟨b, cap, hv, _, h1, h2, _⟩
  · rw [h.2]; exact ⟨none, 0, h.1, by simp⟩
  · exact ⟨_, cap, hv, by omega⟩

theorem top_step (x k : Nat) : x / 1000000000 ^ k = 1000000000 * (x / 1000000000 ^ (k + 1)) + x / 1000000000 ^ k % 1000000000 := by
  have : x / 1000000000 ^ (k + 1) = x / 1000000000 ^ k / 1000000000 := by rw [Nat.pow_succ, Nat.div_div_eq_div_mul]
  rw [this]; omega
theorem lt_of_top {x y k : Nat} (h : x / 1000000000 ^ k < y / 1000000000 ^ k) : x < y := by
  rcases Nat.lt_or_ge x y with h1 | h1
  · exact h1
  · have := Nat.div_le_div_right (c := 1000000000 ^ k) h1
    omega
theorem lt_of_length {x y : Nat} (h : (limbs x).length < (limbs y).length) : x < y := by
  have h1 := (Bn.limbs_length_le x (limbs x).length).1 (Nat.le_refl _)
  have h2 : ¬ y < 1000000000 ^ (limbs x).length := fun h3 => by
    have := (Bn.limbs_length_le y (limbs x).length).2 h3
    omega
  omega

/-- What is known in sizes' loop: of the limbs from k on both say the same. -/
theorem sizes_lt {x y k : Nat} (hx : k < (limbs x).length) (hy : k < (limbs y).length) (h : x / 1000000000 ^ (k + 1) = y / 1000000000 ^ (k + 1)) (hlt : (limbs x)[k] < (limbs y)[k]) : x < y := by
  rw [Bn.get_limbs hx, Bn.get_limbs hy] at hlt
  refine lt_of_top (k := k) ?_
  rw [top_step x, top_step y, h]; omega
theorem sizes_eq {x y k : Nat} (hx : k < (limbs x).length) (hy : k < (limbs y).length) (h : x / 1000000000 ^ (k + 1) = y / 1000000000 ^ (k + 1)) (he : (limbs x)[k] = (limbs y)[k]) : x / 1000000000 ^ k = y / 1000000000 ^ k := by
  rw [Bn.get_limbs hx, Bn.get_limbs hy] at he
  rw [top_step x, top_step y, h]; omega

end Go.Proofs.YtibbnijicdijnaaGreatDoor

namespace Go.Proofs.YtibbnijicdijnaaGreatDoor
open Go.RowKit
open Bn (limbs)

/-- The slice value v reads, in w, as the limbs l. -/
def U32At (w : World) (v : Value) (l : List Nat) : Prop :=
  (v = .slice none 0 0 ∧ l = []) ∨ ∃ b off cap, v = .slice (some ⟨b, off, none⟩) l.length cap ∧ b < w.heap.size ∧ l.length ≤ cap ∧ cap ≤ maxLen ∧
    ∀ j (h : j < l.length), w.cell? ⟨b, off + j, none⟩ = some (.int .u32 ((l[j] : Nat) : Int))

theorem U32At.below {w w' : World} {v : Value} {l : List Nat} (h : U32At w v l) (hb : Below w.heap.size w w') : U32At w' v l := by
  rcases h with h | ⟨b, off, cap, hv, hlt, hl, hm, hc⟩
  · exact .inl h
  · exact .inr ⟨b, off, cap, hv, Nat.lt_of_lt_of_le hlt hb.size, hl, hm, fun j hj => (hb.cell (p := ⟨b, off + j, none⟩) hlt).trans (hc j hj)⟩
theorem U32At.pos {w : World} {v : Value} {l : List Nat} (h : U32At w v l) (hl : 0 < l.length) : ∃ b off cap, v = .slice (some ⟨b, off, none⟩) l.length cap ∧ b < w.heap.size ∧ l.length ≤ cap ∧ cap ≤ maxLen ∧
    ∀ j (h : j < l.length), w.cell? ⟨b, off + j, none⟩ = some (.int .u32 ((l[j] : Nat) : Int)) := by
  rcases h with h | h
  · rw [h.2] at hl; simp at hl
  · exact h
theorem U32At.form {w : World} {v : Value} {l : List Nat} (h : U32At w v l) : ∃ a cap, v = .slice a l.length cap ∧ l.length ≤ maxLen := by
  rcases h with h | ⟨b, off, cap, hv, _, h1, h2, _⟩
  · rw [h.2]; exact ⟨none, 0, h.1, by simp⟩
  · exact ⟨_, cap, hv, by omega⟩

theorem U32At.setCell {w : World} {v : Value} {l : List Nat} (h : U32At w v l) {p : Addr} (hp : v.ownBlock ≠ some p.block) (u : Value) : U32At (w.setCell p u) v l := by
  rcases h with h | ⟨b, off, cap, hv, hlt, hl, hm, hc⟩
  · exact .inl h
  · refine .inr ⟨b, off, cap, hv, by simp [World.setCell]; exact hlt, hl, hm, fun j hj => ?_⟩
    have hb : b ≠ p.block := fun e => hp (by rw [hv, ← e]; rfl)
    exact (World.cell?_of_block (w := w) (a := ⟨b, off + j, none⟩) (Below.heap_setCell w p u b hb)).trans (hc j hj)

/-- The cells of limbs. -/
def cells32 (l : List Nat) : List Value := l.map fun (d : Nat) => Value.int .u32 (d : Int)
theorem cells32_snoc (l : List Nat) (d : Nat) : cells32 (l ++ [d]) = cells32 l ++ [.int .u32 (d : Int)] := by simp [cells32]

theorem U32At.of_owns {w : World} {base : Nat} {v : Value} {l : List Nat} (h : w.ownsRow base 221 1 v l.length (cells32 l)) : U32At w v l := by
  have hlt := h.lt
  have hcs : ∀ g, v.ownBlock = some g → _ := fun g hg => h.cells (g := g) hg
  obtain ⟨_, h | ⟨g, cap, cur, hv, hg, hh, hn, hm, _, _⟩⟩ := h
  · exact .inl ⟨h.1, List.eq_nil_of_length_eq_zero h.2⟩
  · subst hv
    refine .inr ⟨g, 0, cap, rfl, (hlt g rfl).2, hn, hm, fun j hj => ?_⟩
    have := hcs g rfl j (.int .u32 ((l[j] : Nat) : Int)) (by simp [cells32, hj])
    cases j with
    | zero => simpa [Addr.add] using this
    | succ j => simpa [Addr.add] using this

theorem Tryz.info221 : (Tryz.prog.info? 221).map (fun i => (i.zero, i.size, i.bytes)) = some (some (.int .u32 0), 1, 4) := by kernel_rfl

/-- Without noughts at the end. -/
def trim : List Nat → List Nat
  | [] => []
  | d :: l => if trim l = [] ∧ d = 0 then [] else d :: trim l

theorem trim_zero (l : List Nat) : trim (l ++ [0]) = trim l := by
  induction l with
  | nil => simp [trim]
  | cons d l ih => simp only [List.cons_append, trim, ih]
theorem trim_last (l : List Nat) (d : Nat) (h : d ≠ 0) : trim (l ++ [d]) = l ++ [d] := by
  induction l with
  | nil => simp [trim, h]
  | cons e l ih => simp only [List.cons_append, trim, ih]; simp
theorem val_trim (l : List Nat) : Bn.val (trim l) = Bn.val l := by
  induction l with
  | nil => rfl
  | cons d l ih =>
    simp only [trim]
    split
    · rename_i h
      rw [h.1] at ih
      simp only [Bn.val] at ih ⊢
      omega
    · simp only [Bn.val, ih]
theorem trim_sub (l : List Nat) : ∀ d ∈ trim l, d ∈ l := by
  induction l with
  | nil => simp [trim]
  | cons e l ih =>
    intro d
    simp only [trim]
    split
    · simp
    · intro h
      rcases List.mem_cons.1 h with rfl | h
      · simp
      · exact List.mem_cons_of_mem _ (ih d h)
theorem trim_getLast (l : List Nat) : (trim l).getLast? ≠ some 0 := by
  induction l with
  | nil => simp [trim]
  | cons e l ih =>
    simp only [trim]
    split
    · simp
    · rename_i h
      cases hl : trim l with
      | nil => rw [hl] at h; simp at h; simp; omega
      | cons a t => rw [hl] at ih; simpa [List.getLast?_cons_cons] using ih
/-- Trimmed limbs are the limbs of their number. -/
theorem trim_eq (l : List Nat) (h : ∀ d ∈ l, d < 1000000000) : trim l = limbs (Bn.val l) := by
  rw [← val_trim]
  exact (Bn.limbs_val _ (fun d hd => h d (trim_sub l d hd)) (trim_getLast l)).symm

theorem take_last (l : List Nat) (k : Nat) (h : k < l.length) : l.take (k + 1) = l.take k ++ [l[k]] := by
  rw [List.take_succ_eq_append_getElem h]

set_option maxHeartbeats 400000 in
set_option maxRecDepth 100000 in
/-- trimmed. -/
theorem trimmed_any (l : List Nat) (v : Value) (w : World) (h : U32At w v l) (hbd : ∀ d ∈ l, d < 4294967296) :
    Calls Tryz.prog 194 #[v] w fun e w' => ∃ v', e = .returned v' ∧ U32At w v' (trim l) ∧ w' = w ∧ v'.ownBlock = v.ownBlock := by
  rcases h with ⟨rfl, rfl⟩ | ⟨b, off, cap, rfl, hlt, hl, hm, hc⟩
  · go_enter Tryz.func194, Tryz.ntmps194
    go_wp2
    go_loop [3] (fun nv => nv = .int .i64 0) (fun _ => 0)
    case atStart => rfl
    case round =>
      obtain rfl := hrel
      go_wp2
      go_ret
      exact ⟨_, rfl, .inl ⟨rfl, rfl⟩, rfl, rfl⟩
  · have HC : Hid (∀ j (h : j < l.length), w.cell? ⟨b, off + j, none⟩ = some (.int .u32 ((l[j] : Nat) : Int))) := hc
    unfold maxLen at hm
    clear hc
    go_enter Tryz.func194, Tryz.ntmps194
    go_wp2
    go_loop [3] (fun nv => ∃ k : Nat, nv = .int .i64 (k : Int) ∧ k ≤ l.length ∧ Hid (trim (l.take k) = trim l)) (fun nv => (intOf nv).toNat)
    case atStart => exact ⟨l.length, rfl, Nat.le_refl _, by show _ = _; rw [List.take_length]⟩
    case round =>
      obtain ⟨k, rfl, hk, hH⟩ := hrel
      cases k with
      | zero =>
        have e : trim l = [] := by rw [← hH.out]; simp [trim]
        go_wp2
        go_ret
        exact ⟨_, rfl, .inr ⟨b, off, cap, rfl, hlt, by simp, by unfold maxLen; omega, fun j hj => by simp at hj⟩, rfl, rfl⟩
      | succ j =>
        have hj : j < l.length := by omega
        have h1 := HC.out j hj
        have h2 := hbd _ (List.getElem_mem hj)
        have HT := take_last l j hj
        have HZ : Hid (l[j] = 0 → trim (l.take j) = trim l) := by intro e; rw [← hH.out, HT, e, trim_zero]
        have HN : Hid (l[j] ≠ 0 → trim l = l.take (j + 1)) := by intro e; rw [← hH.out, HT, trim_last _ _ e]
        generalize l[j] = p at *
        have hji : (j : Int) < (l.length : Int) := by omega
        clear HT hH
        by_cases hp : p = 0
        · subst hp
          go_wp2
          go_round
          case rel => exact ⟨j, by go_num, by omega, HZ.out rfl⟩
          case measure => simp [intOf]
        · have hpb : ((p : Int) == 0) = false := by rw [beq_eq_false_iff_ne]; omega
          go_wp2
          go_ret
          have e := HN.out hp
          have e1 : (trim l).length = j + 1 := by rw [e, List.length_take]; omega
          refine ⟨_, rfl, .inr ⟨b, off, cap, by rw [e1]; rfl, hlt, by omega, by unfold maxLen; omega, fun i hi => ?_⟩, rfl, rfl⟩
          have h3 := HC.out i (by omega)
          rw [h3]
          congr 3
          simp [e]

end Go.Proofs.YtibbnijicdijnaaGreatDoor
