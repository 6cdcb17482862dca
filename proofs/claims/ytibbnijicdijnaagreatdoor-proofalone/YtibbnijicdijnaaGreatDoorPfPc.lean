/-
  Package proof: a row's pieces, as lists and in memory.
-/
import Derived.Test.YtibbnijicdijnaaGreatDoorPfReg
import Derived.Test.YtibbnijicdijnaaGreatDoorJ24
namespace Go.Proofs.YtibbnijicdijnaaGreatDoor
open Go.RowKit

abbrev PcL := List UInt8 × Int
def pcC (o : PcL) : List Value := [.string (txtOf o.1), .int .i64 o.2]
def pcsC (L : List PcL) : List Value := L.flatMap pcC
theorem pcsC_app (L M : List PcL) : pcsC (L ++ M) = pcsC L ++ pcsC M := by unfold pcsC; rw [List.flatMap_append]
theorem pcsC_one (o : PcL) : pcsC [o] = pcC o := by simp [pcsC]
theorem un39 : Tryz.prog.underlying 39 = some (.slice 82) := by kernel_rfl
theorem inf82 : (Tryz.prog.info? 82).map (fun i => (i.zero, i.size, i.bytes)) = some (some (.agg #[.string ⟨#[]⟩, .int .i64 0]), 2, 24) := by kernel_rfl

/-- What is left behind a piece whose number is x. -/
def pcA (x : List UInt8) (s : Ls) : Ls := wholeP x (-1) s
def pcY (x : List UInt8) (s : Ls) : List UInt8 := (nextP (pcA x s)).1
def pcB (x : List UInt8) (s : Ls) : Ls := literalP (pcY x s) (nextP (pcA x s)).2
def rowL : Nat → List UInt8 → Ls → List PcL × Ls
  | 0, _, s => ([], s)
  | n + 1, x, s => if x = [62, 61] ∨ s.2.isSome = true then ([], s) else ((x, (litP (pcY x s)).1) :: (rowL n (nextP (pcB x s)).1 (nextP (pcB x s)).2).1, (rowL n (nextP (pcB x s)).1 (nextP (pcB x s)).2).2)
theorem rowL_stop {n : Nat} {x : List UInt8} {s : Ls} (h : x = [62, 61] ∨ s.2.isSome = true) : rowL (n + 1) x s = ([], s) := by simp only [rowL]; rw [if_pos h]
theorem rowL_more {n : Nat} {x : List UInt8} {s : Ls} (h : ¬ (x = [62, 61] ∨ s.2.isSome = true)) : rowL (n + 1) x s = ((x, (litP (pcY x s)).1) :: (rowL n (nextP (pcB x s)).1 (nextP (pcB x s)).2).1, (rowL n (nextP (pcB x s)).1 (nextP (pcB x s)).2).2) := by simp only [rowL]; rw [if_neg h]
def rowP (s : Ls) : (List PcL × List UInt8) × Ls :=
  (((rowL (s.1.length + 3) (nextP s).1 (nextP s).2).1, (nextP (rowL (s.1.length + 3) (nextP s).1 (nextP s).2).2).1), mustP [59] (wholeP (nextP (rowL (s.1.length + 3) (nextP s).1 (nextP s).2).2).1 (-1) (nextP (rowL (s.1.length + 3) (nextP s).1 (nextP s).2).2).2))
theorem fail_some (e : Int) (s : Ls) : (failP e s).2.isSome = true := by
  unfold failP
  cases h : s.2 with
  | none => rfl
  | some x => simp [h]
theorem next_less {s : Ls} (h : (nextP s).2.2 = none) : (nextP s).2.1.length < s.1.length := by
  unfold nextP at h ⊢
  split
  · rename_i hk; exact (take_less hk).1
  · rename_i hk
    rw [if_neg hk] at h
    have := fail_some 82 (takeP s).2
    simp only at h
    rw [h] at this
    cases this
theorem pc_rest (x : List UInt8) (s : Ls) : (nextP (pcB x s)).2.1.length ≤ s.1.length ∧ ((nextP (pcB x s)).2.2 = none → (nextP (pcB x s)).2.1.length < s.1.length) := by
  have h1 : (pcB x s).1.length ≤ s.1.length := by
    unfold pcB; rw [literal_rest]; refine Nat.le_trans (next_rest _) ?_; unfold pcA; rw [whole_rest]; exact Nat.le_refl _
  exact ⟨Nat.le_trans (next_rest _) h1, fun h => Nat.lt_of_lt_of_le (next_less h) h1⟩
theorem pcY_le (x : List UInt8) (s : Ls) : (pcY x s).length ≤ s.1.length := by
  unfold pcY; refine Nat.le_trans (next_le _) ?_; unfold pcA; rw [whole_rest]; exact Nat.le_refl _
/-- How far a row is read: fuel, and how many pieces there may be. -/
def RwM (N g : Nat) (n0 : Nat) (x : List UInt8) (acc : List PcL) (s : Ls) (all : List PcL × Ls) : Prop := x.length ≤ n0 ∧ s.1.length ≤ n0 ∧ 1 ≤ g ∧ g ≤ N ∧ (s.2 = none → s.1.length + 2 ≤ g ∧ acc.length + s.1.length ≤ n0) ∧ acc.length ≤ n0 + 1 ∧ all = (acc ++ (rowL g x s).1, (rowL g x s).2)
theorem rwm_start (s : Ls) : RwM (s.1.length + 3) (s.1.length + 3) s.1.length (nextP s).1 [] (nextP s).2 (rowL (s.1.length + 3) (nextP s).1 (nextP s).2) :=
  ⟨next_le s, next_rest s, by omega, Nat.le_refl _, fun _ => ⟨by have := next_rest s; omega, by have := next_rest s; simp; exact this⟩, by simp, by simp⟩
theorem rwm_stop {N g n0 : Nat} {x : List UInt8} {acc : List PcL} {s : Ls} {all : List PcL × Ls} (h : RwM N g n0 x acc s all) (hs : x = [62, 61] ∨ s.2.isSome = true) : all = (acc, s) := by
  obtain ⟨_, _, h1, _, _, _, h2⟩ := h
  obtain ⟨g', rfl⟩ : ∃ g', g = g' + 1 := ⟨g - 1, by omega⟩
  rw [rowL_stop hs, List.append_nil] at h2
  exact h2
theorem rwm_next {N g n0 : Nat} {x : List UInt8} {acc : List PcL} {s : Ls} {all : List PcL × Ls} (h : RwM N (g + 1) n0 x acc s all) (hs : ¬ (x = [62, 61] ∨ s.2.isSome = true)) : RwM N g n0 (nextP (pcB x s)).1 (acc ++ [(x, (litP (pcY x s)).1)]) (nextP (pcB x s)).2 all := by
  obtain ⟨h0, h1, h2, h3, h4, h5, h6⟩ := h
  have hn : s.2 = none := by
    cases h7 : s.2 with
    | none => rfl
    | some e => exact absurd (.inr (by rw [h7]; rfl)) hs
  have h8 := h4 hn
  have h9 := pc_rest x s
  refine ⟨?_, Nat.le_trans h9.1 h1, by omega, by omega, fun hq => ?_, by simp; omega, ?_⟩
  · refine Nat.le_trans (next_le _) ?_
    unfold pcB
    rw [literal_rest]
    refine Nat.le_trans (next_rest _) ?_
    unfold pcA
    rw [whole_rest]
    exact h1
  · have := h9.2 hq
    simp
    omega
  · rw [rowL_more hs] at h6
    rw [h6, List.append_assoc]
    rfl
/-- A row that is being read: two boxes, the pieces, the line. -/
structure RwAt (B b p2 p3 : Nat) (w0 w : World) (v d : Value) (acc : List PcL) (s : Ls) : Prop where
  e2 : p2 = w0.heap.size
  e3 : p3 = w0.heap.size + 1
  b2 : w.heap[p2]? = some (.cells #[.slice none 0 0, .string ⟨#[]⟩] 41 (0, 0))
  b3 : w.heap[p3]? = some (.cells #[v, d] 41 (0, 0))
  own : w.ownsRow (w0.heap.size + 2) 82 2 v acc.length (pcsC acc)
  ln : LnAt w b s
  stp : SStp B (fun k => k = b) w0 w
theorem RwAt.call {B b p2 p3 : Nat} {w0 w w' : World} {v d : Value} {acc : List PcL} {s s' : Ls} (h : RwAt B b p2 p3 w0 w v d acc s) (hb : b < w0.heap.size) (h1 : LnAt w' b s') (h2 : SStp B (fun k => k = b) w w') : RwAt B b p2 p3 w0 w' v d acc s' := by
  have l2 : p2 < w.heap.size := (Array.getElem?_eq_some_iff.1 h.b2).1
  have l3 : p3 < w.heap.size := (Array.getElem?_eq_some_iff.1 h.b3).1
  exact ⟨h.e2, h.e3, (h2.off.block p2 l2 (by have := h.e2; omega)).trans h.b2, (h2.off.block p3 l3 (by have := h.e3; omega)).trans h.b3, own_stp h.own h2 (by omega), h1, h.stp.trans h2⟩
theorem RwAt.drewn {B b p2 p3 : Nat} {w0 w : World} {v d : Value} {acc : List PcL} {s : Ls} (h : RwAt B b p2 p3 w0 w v d acc s) : RwAt B b p2 p3 w0 w.drew v d acc s :=
  ⟨h.e2, h.e3, h.b2, h.b3, h.own.drew, ⟨h.ln.o, h.ln.n⟩, h.stp.below.drew, ⟨h.stp.off.size, h.stp.off.block⟩⟩
/-- A piece is appended, and the box written. -/
theorem RwAt.app {B b p2 p3 : Nat} {w0 w w6 : World} {v v6 d : Value} {acc : List PcL} {s : Ls} {o : PcL} (h : RwAt B b p2 p3 w0 w v d acc s) (hB : B ≤ b) (hb : b < w0.heap.size) (h1 : w6.ownsRow (w0.heap.size + 2) 82 2 v6 (acc.length + 1) (pcsC acc ++ pcC o)) (h2 : (w.alloc (.cells (pcC o).toArray 82)).grownBy w6 v.ownBlock) : w6.heap[p3]? = some (.cells #[v, d] 41 (0, 0)) ∧ RwAt B b p2 p3 w0 (w6.setCell ⟨p3, 0, none⟩ v6) v6 d (acc ++ [o]) s := by
  have e2 := h.e2
  have e3 := h.e3
  have l2 : p2 < w.heap.size := (Array.getElem?_eq_some_iff.1 h.b2).1
  have l3 : p3 < w.heap.size := (Array.getElem?_eq_some_iff.1 h.b3).1
  have hv : ∀ g, v.ownBlock = some g → w0.heap.size + 2 ≤ g := fun g hg => (h.own.lt g hg).1
  have hk : ∀ k, k < w.heap.size → k < w0.heap.size + 2 → w6.heap[k]? = w.heap[k]? := fun k h3 h4 => by
    rw [h2.block k (by simp; omega) (fun e => by have := hv k e.symm; omega), heap_alloc_old w _ h3]
  have g3 := (hk p3 l3 (by omega)).trans h.b3
  have hne : ∀ k, k ≠ p3 → (w6.setCell ⟨p3, 0, none⟩ v6).heap[k]? = w6.heap[k]? := fun k hk => heap_setCell_other _ _ _ _ hk
  have hz := h.stp.off.size
  refine ⟨g3, e2, e3, (hne p2 (by omega)).trans ((hk p2 l2 (by omega)).trans h.b2), set_of g3 0 v6, ?_, ⟨(hne b (by omega)).trans ((hk b h.ln.lt (by omega)).trans h.ln.o), h.ln.n⟩, ?_, ⟨?_, ?_⟩⟩
  · rw [List.length_append, pcsC_app, pcsC_one]
    exact own_keep h1 fun g hg => hne g (by have := (h1.lt g hg).1; omega)
  · exact (h.stp.below.trans (((Below.refl B w).alloc (by omega) _).grown h2 (by simp; omega) (fun k hk => Nat.le_trans (by omega) (hv k hk)))).setCell (by show B ≤ p3; omega) _
  · rw [World.size_setCell]; exact Nat.le_trans hz (Nat.le_trans (by simp) h2.size)
  · intro k h3 h4
    rw [hne k (by omega), hk k (by omega) (by omega)]
    exact h.stp.off.block k h3 h4
/-- The degree is written. -/
theorem RwAt.deg {B b p2 p3 : Nat} {w0 w : World} {v d d' : Value} {acc : List PcL} {s : Ls} (h : RwAt B b p2 p3 w0 w v d acc s) (hB : B ≤ b) (hb : b < w0.heap.size) : RwAt B b p2 p3 w0 (w.setCell ⟨p3, 1, none⟩ d') v d' acc s := by
  have e2 := h.e2
  have e3 := h.e3
  have hne : ∀ k, k ≠ p3 → (w.setCell ⟨p3, 1, none⟩ d').heap[k]? = w.heap[k]? := fun k hk => heap_setCell_other _ _ _ _ hk
  exact ⟨e2, e3, (hne p2 (by omega)).trans h.b2, set_of h.b3 1 d', own_keep h.own fun g hg => hne g (by have := (h.own.lt g hg).1; omega), ⟨(hne b (by omega)).trans h.ln.o, h.ln.n⟩, h.stp.below.setCell (by show B ≤ p3; omega) _, ⟨Nat.le_trans h.stp.off.size (by simp), fun k h3 h4 => (hne k (by omega)).trans (h.stp.off.block k h3 h4)⟩⟩
/-- How row ends. -/
def RwOut (B b : Nat) (w : World) (r : (List PcL × List UInt8) × Ls) (e : Ending) (w' : World) : Prop := ∃ v, e = .returned (.agg #[v, .string (txtOf r.1.2)]) ∧ w'.ownsRow w.heap.size 82 2 v r.1.1.length (pcsC r.1.1) ∧ LnAt w' b r.2 ∧ SStp B (fun k => k = b) w w'
theorem RwAt.out {B b p2 p3 : Nat} {w0 w : World} {v : Value} {y : List UInt8} {acc : List PcL} {s : Ls} (h : RwAt B b p2 p3 w0 w v (.string (txtOf y)) acc s) (hB : B ≤ b) (hb : b < w0.heap.size) : RwOut B b w0 ((acc, y), s) (.returned (.agg #[v, .string (txtOf y)])) ((w.setCell ⟨p2, 0, none⟩ v).setCell ⟨p2, 1, none⟩ (.string (txtOf y))) := by
  have e2 := h.e2
  have hne : ∀ k, k ≠ p2 → ((w.setCell ⟨p2, 0, none⟩ v).setCell ⟨p2, 1, none⟩ (.string (txtOf y))).heap[k]? = w.heap[k]? := fun k hk => (heap_setCell_other _ _ _ _ hk).trans (heap_setCell_other _ _ _ _ hk)
  refine ⟨v, rfl, own_less (own_keep h.own fun g hg => hne g (by have := (h.own.lt g hg).1; omega)) (by omega), ⟨(hne b (by omega)).trans h.ln.o, h.ln.n⟩, (h.stp.below.setCell (by show B ≤ p2; omega) _).setCell (by show B ≤ p2; omega) _, ⟨Nat.le_trans h.stp.off.size (by simp), fun k h3 h4 => (hne k (by omega)).trans (h.stp.off.block k h3 h4)⟩⟩
end Go.Proofs.YtibbnijicdijnaaGreatDoor
