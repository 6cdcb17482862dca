/-
  Package pb: together.
-/
import Derived.Test.YtjffbndiecjkjaaGreatDoorPbSorts
namespace Go.Proofs.YtjffbndiecjkjaaGreatDoor
open Go.Shelf Go.RowKit Go.Lib Go.Sort
open Bn (limbs)

/-- Two sums on their way, each in its box. -/
def Tog (w : World) (P Q : Nat) (x y : Int) (w' : World) : Prop := ∃ n1 q1 n2 q2, w'.heap[P]? = some (.cells #[.int .i64 n1, .pointer q1] 33) ∧ w'.heap[Q]? = some (.cells #[.int .i64 n2, .pointer q2] 33) ∧
  BigAt w' (.agg #[.int .i64 n1, .pointer q1]) x ∧ BigAt w' (.agg #[.int .i64 n2, .pointer q2]) y ∧ Below w.heap.size w w'
theorem Tog.below {w w1 w2 : World} {P Q : Nat} {x y : Int} (h : Tog w P Q x y w1) (hb : Below w1.heap.size w1 w2) : Tog w P Q x y w2 := by
  obtain ⟨n1, q1, n2, q2, h1, h2, h3, h4, h5⟩ := h
  exact ⟨n1, q1, n2, q2, (hb.block P (Array.getElem?_eq_some_iff.1 h1).1).trans h1, (hb.block Q (Array.getElem?_eq_some_iff.1 h2).1).trans h2, h3.below hb, h4.below hb, h5.trans (hb.mono h5.size)⟩
theorem box_over {W : World} {N : Nat} {y : Int} {q : Option Addr} (hN : W.heap[N]? = some (.cells #[.int .i64 y, .pointer q] 33)) (a b : Value) :
    ((W.setCell ⟨N, 0, none⟩ a).setCell ⟨N, 1, none⟩ b).heap[N]? = some (.cells #[a, b] 33) := by
  simp [World.setCell, Array.getElem?_modify, hN]
theorem Tog.setP {w w' : World} {P Q : Nat} {x y z : Int} {n : Int} {q : Option Addr} (h : Tog w P Q x y w') (hr : BigAt w' (.agg #[.int .i64 n, .pointer q]) z) (hPQ : Q ≠ P) (hP : w.heap.size ≤ P) :
    Tog w P Q z y ((w'.setCell ⟨P, 0, none⟩ (.int .i64 n)).setCell ⟨P, 1, none⟩ (.pointer q)) := by
  obtain ⟨n1, q1, n2, q2, h1, h2, h3, h4, h5⟩ := h
  exact ⟨n, q, n2, q2, box_over h1 _ _, ((Below.heap_setCell _ ⟨P, 1, none⟩ _ Q hPQ).trans (Below.heap_setCell _ ⟨P, 0, none⟩ _ Q hPQ)).trans h2, hr.setBox h1 _ _, h4.setBox h1 _ _, (h5.setCell (p := ⟨P, 0, none⟩) hP _).setCell (p := ⟨P, 1, none⟩) hP _⟩
theorem Tog.setQ {w w' : World} {P Q : Nat} {x y z : Int} {n : Int} {q : Option Addr} (h : Tog w P Q x y w') (hr : BigAt w' (.agg #[.int .i64 n, .pointer q]) z) (hPQ : P ≠ Q) (hQ : w.heap.size ≤ Q) :
    Tog w P Q x z ((w'.setCell ⟨Q, 0, none⟩ (.int .i64 n)).setCell ⟨Q, 1, none⟩ (.pointer q)) := by
  obtain ⟨n1, q1, n2, q2, h1, h2, h3, h4, h5⟩ := h
  exact ⟨n1, q1, n, q, ((Below.heap_setCell _ ⟨Q, 1, none⟩ _ P hPQ).trans (Below.heap_setCell _ ⟨Q, 0, none⟩ _ P hPQ)).trans h1, box_over h2 _ _, h3.setBox h2 _ _, hr.setBox h2 _ _, (h5.setCell (p := ⟨Q, 0, none⟩) hQ _).setCell (p := ⟨Q, 1, none⟩) hQ _⟩

theorem pos_take {ps : List (Int × Int)} {k : Nat} (h : k < ps.length) : Pm.pos (ps.take (k + 1)) = Pm.pos (ps.take k) + (if ps[k].2 < 0 then 0 else ps[k].1) := by
  rw [List.take_succ_eq_append_getElem h, Pm.pos_append]; simp [Pm.pos]
theorem neg_take {ps : List (Int × Int)} {k : Nat} (h : k < ps.length) : Pm.neg (ps.take (k + 1)) = Pm.neg (ps.take k) + (if ps[k].2 < 0 then ps[k].1 else 0) := by
  rw [List.take_succ_eq_append_getElem h, Pm.neg_append]; simp [Pm.neg, Pm.negP]

/-- The cells of a row of pieces. -/
theorem pc_cells {w : World} {b off : Nat} {L : List PcV} (h : HoldsK encP 3 w b off L.toArray) {k : Nat} (hk : k < L.length) :
    w.cell? ⟨b, off + k * 3, none⟩ = some (.int .i64 L[k].1) ∧ w.cell? ⟨b, off + k * 3 + 1, none⟩ = some (.pointer L[k].2.1) ∧ w.cell? ⟨b, off + k * 3 + 2, none⟩ = some (.int .i64 L[k].2.2) := by
  have hs : k < L.toArray.size := by simpa using hk
  have e : L.toArray[k]! = L[k] := by rw [getElem!_pos _ k hs]; simp
  refine ⟨?_, ?_, ?_⟩
  · have := (HoldsK.cell h (c := 0) hs (by decide)).1; rw [e] at this; exact this
  · have := (HoldsK.cell h (c := 1) hs (by decide)).1; rw [e] at this; exact this
  · have := (HoldsK.cell h (c := 2) hs (by decide)).1; rw [e] at this; exact this


theorem four_objs (w : World) (o1 o2 o3 o4 : Obj) {W : World} (hW : (((w.alloc o1).alloc o2).alloc o3).alloc o4 = W) :
    W.heap[w.heap.size]? = some o1 ∧ W.heap[w.heap.size + 1]? = some o2 ∧ W.heap[w.heap.size + 1 + 1]? = some o3 ∧ W.heap[w.heap.size + 1 + 1 + 1]? = some o4 ∧ Below w.heap.size w W ∧ W.heap.size = w.heap.size + 4 := by
  subst hW
  refine ⟨?_, ?_, ?_, ?_, ((((Below.refl _ _).alloc (Nat.le_refl _) _).alloc (by simp) _).alloc (by simp <;> omega) _).alloc (by simp <;> omega) _, by simp⟩
  · rw [Below.heap_alloc _ _ _ (by simp <;> omega), Below.heap_alloc _ _ _ (by simp <;> omega), Below.heap_alloc _ _ _ (by simp)]; exact World.alloc_heap_new w _
  · rw [Below.heap_alloc _ _ _ (by simp <;> omega), Below.heap_alloc _ _ _ (by simp)]
    have := World.alloc_heap_new (w.alloc o1) o2
    simpa using this
  · rw [Below.heap_alloc _ _ _ (by simp)]
    have := World.alloc_heap_new ((w.alloc o1).alloc o2) o3
    simpa using this
  · have := World.alloc_heap_new (((w.alloc o1).alloc o2).alloc o3) o4
    simpa using this

theorem wrap_negv {v : Nat} (h : (v : Int) ≤ 1073741824) : IntKind.i64.wrap (-(v : Int)) = -(v : Int) := by
  rw [IntKind.wrap_i64]; omega

/-- The boxes of the two results, zero as yet. -/
def Res0 (R : Nat) (w' : World) : Prop := w'.heap[R]? = some (.cells #[.int .i64 0, .pointer none, .int .i64 0] 67) ∧ w'.heap[R + 1]? = some (.cells #[.int .i64 0, .pointer none] 33)
theorem Res0.below {R : Nat} {w1 w2 : World} (h : Res0 R w1) (hb : Below w1.heap.size w1 w2) : Res0 R w2 :=
  ⟨(hb.block R (Array.getElem?_eq_some_iff.1 h.1).1).trans h.1, (hb.block (R + 1) (Array.getElem?_eq_some_iff.1 h.2).1).trans h.2⟩
theorem Res0.set {R N o : Nat} {w1 : World} (h : Res0 R w1) (h1 : R ≠ N) (h2 : R + 1 ≠ N) (a : Value) : Res0 R (w1.setCell ⟨N, o, none⟩ a) :=
  ⟨(Below.heap_setCell _ ⟨N, o, none⟩ a R h1).trans h.1, (Below.heap_setCell _ ⟨N, o, none⟩ a (R + 1) h2).trans h.2⟩
theorem Tog.cells {w w' : World} {P Q : Nat} {x y : Int} (h : Tog w P Q x y w') : ∃ n1 q1 n2 q2, (w'.cell? ⟨P, 0, none⟩ = some (.int .i64 n1) ∧ w'.cell? ⟨P, 1, none⟩ = some (.pointer q1) ∧ w'.frozen? ⟨P, 0, none⟩ = false ∧ w'.frozen? ⟨P, 1, none⟩ = false) ∧ (w'.cell? ⟨Q, 0, none⟩ = some (.int .i64 n2) ∧ w'.cell? ⟨Q, 1, none⟩ = some (.pointer q2) ∧ w'.frozen? ⟨Q, 0, none⟩ = false ∧ w'.frozen? ⟨Q, 1, none⟩ = false) ∧
    BigAt w' (.agg #[.int .i64 n1, .pointer q1]) x ∧ BigAt w' (.agg #[.int .i64 n2, .pointer q2]) y ∧ w'.heap[P]? = some (.cells #[.int .i64 n1, .pointer q1] 33) ∧ w'.heap[Q]? = some (.cells #[.int .i64 n2, .pointer q2] 33) := by
  obtain ⟨n1, q1, n2, q2, h1, h2, h3, h4, h5⟩ := h
  exact ⟨n1, q1, n2, q2, box_facts h1, box_facts h2, h3, h4, h1, h2⟩

theorem Res0.cells {R : Nat} {w' : World} (h : Res0 R w') : w'.cell? ⟨R, 0, none⟩ = some (.int .i64 0) ∧ w'.cell? ⟨R, 1, none⟩ = some (.pointer none) ∧ w'.cell? ⟨R, 2, none⟩ = some (.int .i64 0) ∧ w'.cell? ⟨R + 1, 0, none⟩ = some (.int .i64 0) ∧ w'.cell? ⟨R + 1, 1, none⟩ = some (.pointer none) ∧
    w'.frozen? ⟨R, 0, none⟩ = false ∧ w'.frozen? ⟨R, 1, none⟩ = false ∧ w'.frozen? ⟨R, 2, none⟩ = false ∧ w'.frozen? ⟨R + 1, 0, none⟩ = false ∧ w'.frozen? ⟨R + 1, 1, none⟩ = false := by
  obtain ⟨h1, h2⟩ := h
  refine ⟨?_, ?_, ?_, ?_, ?_, ?_, ?_, ?_, ?_, ?_⟩ <;> simp [World.cell?, World.frozen?, h1, h2]
theorem Res0.clean {R : Nat} {w' : World} (h : Res0 R w') : Clean w' R ∧ Clean w' (R + 1) := by
  refine ⟨⟨_, _, _, h.1, ?_⟩, ⟨_, _, _, h.2, ?_⟩⟩ <;> (intro u hu; simp at hu; first | (rcases hu with rfl | rfl | rfl) | (rcases hu with rfl | rfl)) <;> exact ⟨(fun n h => by cases h), (fun d h => by cases h)⟩
theorem Tog.cellsP {w w5 w6 : World} {P Q : Nat} {x y m1 : Int} {r1 : Option Addr} (h : Tog w P Q x y w5) (hb : RowKit.Below w5.heap.size w5 w6) (h0 : w5.cell? ⟨P, 0, none⟩ = some (.int .i64 m1)) (h1 : w5.cell? ⟨P, 1, none⟩ = some (.pointer r1)) : w6.cell? ⟨P, 0, none⟩ = some (.int .i64 m1) ∧ w6.cell? ⟨P, 1, none⟩ = some (.pointer r1) := by
  obtain ⟨_, _, _, _, g, _⟩ := h
  have hlt := (Array.getElem?_eq_some_iff.1 g).1
  exact ⟨(hb.cell (p := ⟨P, 0, none⟩) hlt).trans h0, (hb.cell (p := ⟨P, 1, none⟩) hlt).trans h1⟩
theorem Tog.cellsQ {w w5 w6 : World} {P Q : Nat} {x y m1 : Int} {r1 : Option Addr} (h : Tog w P Q x y w5) (hb : RowKit.Below w5.heap.size w5 w6) (h0 : w5.cell? ⟨Q, 0, none⟩ = some (.int .i64 m1)) (h1 : w5.cell? ⟨Q, 1, none⟩ = some (.pointer r1)) : w6.cell? ⟨Q, 0, none⟩ = some (.int .i64 m1) ∧ w6.cell? ⟨Q, 1, none⟩ = some (.pointer r1) := by
  obtain ⟨_, _, _, _, _, g, _⟩ := h
  have hlt := (Array.getElem?_eq_some_iff.1 g).1
  exact ⟨(hb.cell (p := ⟨Q, 0, none⟩) hlt).trans h0, (hb.cell (p := ⟨Q, 1, none⟩) hlt).trans h1⟩

/-- A value that is no limb and no Boolean. -/
def Plain1 (u : Value) : Prop := NoLimb u ∧ ∀ d, u ≠ .bool d
theorem plain_int (n : Int) : Plain1 (.int .i64 n) := ⟨(fun n h => by cases h), (fun d h => by cases h)⟩
theorem plain_ptr (q : Option Addr) : Plain1 (.pointer q) := ⟨(fun n h => by cases h), (fun d h => by cases h)⟩
theorem Clean.set {w : World} {b b' o : Nat} {u : Value} (h : Clean w b) (hu : Plain1 u) : Clean (w.setCell ⟨b', o, none⟩ u) b := by
  obtain ⟨cur, e, f, hb, hk⟩ := h
  by_cases hbb : b = b'
  · subst hbb
    refine ⟨cur.setIfInBounds o u, e, f, by simp [World.setCell, Array.getElem?_modify, hb], fun x hx => ?_⟩
    rw [Array.toList_setIfInBounds] at hx
    rcases List.mem_or_eq_of_mem_set hx with hx | rfl
    · exact hk x hx
    · exact hu
  · exact ⟨cur, e, f, (Below.heap_setCell w ⟨b', o, none⟩ u b hbb).trans hb, hk⟩
theorem BigAt.cleanSet {w : World} {v : Value} {z : Int} {b o : Nat} (h : BigAt w v z) (hc : Clean w b) (u : Value) : BigAt (w.setCell ⟨b, o, none⟩ u) v z :=
  h.clean hc ⟨rfl, rfl, rfl, by simp [World.setCell], fun k _ hne => Below.heap_setCell w ⟨b, o, none⟩ u k (fun h => hne (by rw [h]))⟩

/-- The two results, written. -/
structure Done (w : World) (R : Nat) (n : Int) (q : Option Addr) (l m : Int) (r : Option Addr) (x z : Int) (V : World) : Prop where
  k0 : V.cell? ⟨R, 0, none⟩ = some (.int .i64 n)
  k1 : V.cell? ⟨R, 1, none⟩ = some (.pointer q)
  k2 : V.cell? ⟨R, 2, none⟩ = some (.int .i64 l)
  k3 : V.cell? ⟨R + 1, 0, none⟩ = some (.int .i64 m)
  k4 : V.cell? ⟨R + 1, 1, none⟩ = some (.pointer r)
  b1 : BigAt V (.agg #[.int .i64 n, .pointer q]) x
  b2 : BigAt V (.agg #[.int .i64 m, .pointer r]) z
  rest : RowKit.Below w.heap.size w V
theorem res_A {w w6 : World} {R : Nat} {n : Int} {q : Option Addr} {l m : Int} {r : Option Addr} {x z : Int} (hR : Res0 R w6) (hr : BigAt w6 (.agg #[.int .i64 n, .pointer q]) x) (hp : BigAt w6 (.agg #[.int .i64 m, .pointer r]) z) (hb : RowKit.Below w.heap.size w w6) (hw : w.heap.size ≤ R) :
    ∃ V, ((((w6.setCell ⟨R, 0, none⟩ (.int .i64 n)).setCell ⟨R, 1, none⟩ (.pointer q)).setCell ⟨R, 2, none⟩ (.int .i64 l)).setCell ⟨R + 1, 0, none⟩ (.int .i64 m)).setCell ⟨R + 1, 1, none⟩ (.pointer r) = V ∧ Done w R n q l m r x z V := by
  refine ⟨_, rfl, ?_⟩
  obtain ⟨hc1, hc2⟩ := hR.clean
  have hV1 : ((((((w6.setCell ⟨R, 0, none⟩ (.int .i64 n)).setCell ⟨R, 1, none⟩ (.pointer q)).setCell ⟨R, 2, none⟩ (.int .i64 l)).setCell ⟨R + 1, 0, none⟩ (.int .i64 m)).setCell ⟨R + 1, 1, none⟩ (.pointer r))).heap[R]? = some (.cells #[.int .i64 n, .pointer q, .int .i64 l] 67) := by
    simp [World.setCell, Array.getElem?_modify, hR.1]
  have hV2 : ((((((w6.setCell ⟨R, 0, none⟩ (.int .i64 n)).setCell ⟨R, 1, none⟩ (.pointer q)).setCell ⟨R, 2, none⟩ (.int .i64 l)).setCell ⟨R + 1, 0, none⟩ (.int .i64 m)).setCell ⟨R + 1, 1, none⟩ (.pointer r))).heap[R + 1]? = some (.cells #[.int .i64 m, .pointer r] 33) := by
    simp [World.setCell, Array.getElem?_modify, hR.2]
  have big : ∀ {v y}, BigAt w6 v y → BigAt ((((((w6.setCell ⟨R, 0, none⟩ (.int .i64 n)).setCell ⟨R, 1, none⟩ (.pointer q)).setCell ⟨R, 2, none⟩ (.int .i64 l)).setCell ⟨R + 1, 0, none⟩ (.int .i64 m)).setCell ⟨R + 1, 1, none⟩ (.pointer r))) v y := fun h => by
    refine BigAt.cleanSet (BigAt.cleanSet (BigAt.cleanSet (BigAt.cleanSet (BigAt.cleanSet h hc1 _) ?_ _) ?_ _) ?_ _) ?_ _
    · exact hc1.set (plain_int _)
    · exact (hc1.set (plain_int _)).set (plain_ptr _)
    · exact ((hc2.set (plain_int _)).set (plain_ptr _)).set (plain_int _)
    · exact (((hc2.set (plain_int _)).set (plain_ptr _)).set (plain_int _)).set (plain_int _)
  exact ⟨by simp [World.cell?, hV1], by simp [World.cell?, hV1], by simp [World.cell?, hV1], by simp [World.cell?, hV2], by simp [World.cell?, hV2], big hr, big hp,
    ((((hb.setCell (p := ⟨R, 0, none⟩) hw _).setCell (p := ⟨R, 1, none⟩) hw _).setCell (p := ⟨R, 2, none⟩) hw _).setCell (p := ⟨R + 1, 0, none⟩) (Nat.le_succ_of_le hw) _).setCell (p := ⟨R + 1, 1, none⟩) (Nat.le_succ_of_le hw) _⟩
theorem res_B {w w6 : World} {R : Nat} {n : Int} {q : Option Addr} {l m : Int} {r : Option Addr} {x z : Int} (hR : Res0 R w6) (hr : BigAt w6 (.agg #[.int .i64 n, .pointer q]) x) (hp : BigAt w6 (.agg #[.int .i64 m, .pointer r]) z) (hb : RowKit.Below w.heap.size w w6) (hw : w.heap.size ≤ R) :
    ∃ V, ((((w6.setCell ⟨R + 1, 0, none⟩ (.int .i64 m)).setCell ⟨R + 1, 1, none⟩ (.pointer r)).setCell ⟨R, 0, none⟩ (.int .i64 n)).setCell ⟨R, 1, none⟩ (.pointer q)).setCell ⟨R, 2, none⟩ (.int .i64 l) = V ∧ Done w R n q l m r x z V := by
  refine ⟨_, rfl, ?_⟩
  obtain ⟨hc1, hc2⟩ := hR.clean
  have hV1 : (((((w6.setCell ⟨R + 1, 0, none⟩ (.int .i64 m)).setCell ⟨R + 1, 1, none⟩ (.pointer r)).setCell ⟨R, 0, none⟩ (.int .i64 n)).setCell ⟨R, 1, none⟩ (.pointer q)).setCell ⟨R, 2, none⟩ (.int .i64 l)).heap[R]? = some (.cells #[.int .i64 n, .pointer q, .int .i64 l] 67) := by
    simp [World.setCell, Array.getElem?_modify, hR.1]
  have hV2 : (((((w6.setCell ⟨R + 1, 0, none⟩ (.int .i64 m)).setCell ⟨R + 1, 1, none⟩ (.pointer r)).setCell ⟨R, 0, none⟩ (.int .i64 n)).setCell ⟨R, 1, none⟩ (.pointer q)).setCell ⟨R, 2, none⟩ (.int .i64 l)).heap[R + 1]? = some (.cells #[.int .i64 m, .pointer r] 33) := by
    simp [World.setCell, Array.getElem?_modify, hR.2]
  have big : ∀ {v y}, BigAt w6 v y → BigAt (((((w6.setCell ⟨R + 1, 0, none⟩ (.int .i64 m)).setCell ⟨R + 1, 1, none⟩ (.pointer r)).setCell ⟨R, 0, none⟩ (.int .i64 n)).setCell ⟨R, 1, none⟩ (.pointer q)).setCell ⟨R, 2, none⟩ (.int .i64 l)) v y := fun h => by
    refine BigAt.cleanSet (BigAt.cleanSet (BigAt.cleanSet (BigAt.cleanSet (BigAt.cleanSet h hc2 _) ?_ _) ?_ _) ?_ _) ?_ _
    · exact hc2.set (plain_int _)
    · exact (hc1.set (plain_int _)).set (plain_ptr _)
    · exact ((hc1.set (plain_int _)).set (plain_ptr _)).set (plain_int _)
    · exact (((hc1.set (plain_int _)).set (plain_ptr _)).set (plain_int _)).set (plain_ptr _)
  exact ⟨by simp [World.cell?, hV1], by simp [World.cell?, hV1], by simp [World.cell?, hV1], by simp [World.cell?, hV2], by simp [World.cell?, hV2], big hr, big hp,
    ((((hb.setCell (p := ⟨R + 1, 0, none⟩) (Nat.le_succ_of_le hw) _).setCell (p := ⟨R + 1, 1, none⟩) (Nat.le_succ_of_le hw) _).setCell (p := ⟨R, 0, none⟩) hw _).setCell (p := ⟨R, 1, none⟩) hw _).setCell (p := ⟨R, 2, none⟩) hw _⟩

set_option maxRecDepth 100000 in
set_option maxHeartbeats 4000000 in
theorem together_any (b off cap : Nat) (L : List PcV) (ps : List (Int × Int)) (v : Nat) (w : World) (hH : HoldsK encP 3 w b off L.toArray) (hb : b < w.heap.size) (hS : Says w L ps) (hne : 0 < L.length) (hn : L.length ≤ 1000000)
    (hv : ∀ p ∈ ps, p.2.natAbs = v) (hlit : ∀ p ∈ ps, IsLit p.2) (hbd : ∀ k, (limbs (Pm.pos (ps.take k)).natAbs).length ≤ 999999 ∧ (limbs (Pm.neg (ps.take k)).natAbs).length ≤ 999999) (hbc : ∀ p ∈ ps, (limbs p.1.natAbs).length ≤ 1000000) :
    Calls Tryz.prog 69 #[.slice (some ⟨b, off, none⟩) L.length cap] w fun e w' => ∃ n q n2 q2, e = .returned (.tuple #[.agg #[.int .i64 n, .pointer q, .int .i64 (Pm.one ps v).2], .agg #[.int .i64 n2, .pointer q2]]) ∧
      BigAt w' (.agg #[.int .i64 n, .pointer q]) (Pm.one ps v).1 ∧ BigAt w' (.agg #[.int .i64 n2, .pointer q2]) (Pm.always ps) ∧ Below w.heap.size w w' := by
  obtain ⟨N, hN⟩ : ∃ N : Nat, L.length = N := ⟨_, rfl⟩
  have HN : Hid (L.length = N) := hN
  have HH : Hid (HoldsK encP 3 w b off L.toArray) := hH
  have HS : Hid (Says w L ps) := hS
  have hp0 : 0 < ps.length := by have := hS.1; omega
  have hl0 : L[0].2.2 = ps[0].2 := (hS.2 0 hne hp0).2
  have hlit0 := hlit _ (List.getElem_mem hp0)
  have hv0 := hv _ (List.getElem_mem hp0)
  obtain ⟨_, _, c2⟩ := pc_cells hH hne
  rw [hl0] at c2
  have HV : Hid (∀ w', Calls Tryz.prog 48 #[.int .i64 ps[0].2] w' fun e w'' => e = .returned (.int .i64 (v : Int)) ∧ w'' = w') := fun w' => by
    have := variable_any ps[0].2 w' hlit0
    rw [hv0] at this; exact this
  have Hvb : Hid ((v : Int) ≤ 1073741824) := by have := hlit0.2; show _ ≤ _; omega
  generalize ps[0].2 = l0 at *
  have Hlit : Hid (∀ p ∈ ps, IsLit p.2) := hlit
  have Hbd : Hid (∀ k, (limbs (Pm.pos (ps.take k)).natAbs).length ≤ 999999 ∧ (limbs (Pm.neg (ps.take k)).natAbs).length ≤ 999999) := hbd
  have Hbc : Hid (∀ p ∈ ps, (limbs p.1.natAbs).length ≤ 1000000) := hbc
  have hNI : (0 : Int) < (N : Int) := by omega
  have hN6 : N ≤ 1000000 := by omega
  rw [hN]
  simp only [Nat.zero_mul, Nat.add_zero] at c2
  clear hH hS hlit hbd hbc hv hl0 hlit0 hv0 hn
  go_enter Tryz.func69, Tryz.ntmps69
  go_wp2_with fail
  refine (HV.out _).mono ?_
  rintro e w1 ⟨rfl, rfl⟩
  go_wp2_with fail
  generalize hW : (((w.alloc (.cells #[.int .i64 0, .pointer none, .int .i64 0] 67)).alloc (.cells #[.int .i64 0, .pointer none] 33)).alloc (.cells #[.int .i64 0, .pointer none] 33)).alloc (.cells #[.int .i64 0, .pointer none] 33) = W
  obtain ⟨hR1, hR2, hP, hQ, hBW, hsz⟩ := four_objs w _ _ _ _ hW
  clear hW c2 hNI
  have HT0 : Hid (Tog w (w.heap.size + 1 + 1) (w.heap.size + 1 + 1 + 1) (Pm.pos (ps.take 0)) (Pm.neg (ps.take 0)) W) := ⟨0, none, 0, none, hP, hQ, .inl ⟨by unfold Fits; simp [Pm.pos], by simp [Pm.pos]⟩, .inl ⟨by unfold Fits; simp [Pm.neg], by simp [Pm.neg]⟩, hBW⟩
  have HR0 : Hid (Res0 w.heap.size W) := ⟨hR1, hR2⟩
  clear hR1 hR2 hP hQ hBW hsz
  go_loopw [16] (fun iv wr => ∃ k : Nat, iv = .int .i64 (k : Int) ∧ k ≤ N ∧ Hid (Tog w (w.heap.size + 1 + 1) (w.heap.size + 1 + 1 + 1) (Pm.pos (ps.take k)) (Pm.neg (ps.take k)) wr) ∧ Hid (Res0 w.heap.size wr)) (fun iv _ => N - (intOf iv).toNat)
  case atStart => exact ⟨0, rfl, Nat.zero_le _, HT0, HR0⟩
  case round =>
    obtain ⟨k, rfl, hk, hT, hR⟩ := hrel
    clear HT0 HR0
    by_cases hkN : k < N
    · have hkI : (k : Int) < (N : Int) := by omega
      have hkL : k < L.length := by have := HN.out; omega
      have hkp : k < ps.length := by have := HS.out.1; omega
      have hbw : Below w.heap.size w wr := by obtain ⟨_, _, _, _, _, _, _, _, h⟩ := hT.out; exact h
      obtain ⟨d0, d1, d2⟩ := pc_cells HH.out hkL
      have e0 := (hbw.cell (p := ⟨b, off + k * 3, none⟩) hb).trans d0
      have e1 := (hbw.cell (p := ⟨b, off + k * 3 + 1, none⟩) hb).trans d1
      have e2 := (hbw.cell (p := ⟨b, off + k * 3 + 2, none⟩) hb).trans d2
      have hsay := HS.out.2 k hkL hkp
      have hcoef : BigAt wr (.agg #[.int .i64 L[k].1, .pointer L[k].2.1]) ps[k].1 := hsay.1.below hbw
      rw [hsay.2] at e2
      have hlk := Hlit.out _ (List.getElem_mem hkp)
      have hbk := Hbc.out _ (List.getElem_mem hkp)
      have hpt := pos_take hkp
      have hnt := neg_take hkp
      have hbdk := Hbd.out k
      obtain ⟨x, hx⟩ : ∃ x, L[k] = x := ⟨_, rfl⟩
      obtain ⟨p, hp⟩ : ∃ p, ps[k] = p := ⟨_, rfl⟩
      rw [hx, hp] at hcoef
      rw [hx] at e0 e1
      rw [hp] at e2 hlk hbk hpt hnt
      obtain ⟨xn, xq, xl⟩ := x
      obtain ⟨pc, pl⟩ := p
      simp only at e0 e1 e2 hcoef hlk hbk hpt hnt
      clear hx hp hsay d0 d1 d2
      obtain ⟨V, hV⟩ : ∃ V, wr.alloc (.cells #[.int .i64 xn, .pointer xq, .int .i64 pl] 67) = V := ⟨_, rfl⟩
      have hbV : RowKit.Below wr.heap.size wr V := by rw [← hV]; exact (Below.refl _ _).alloc (Nat.le_refl _) _
      have hnw : V.heap[wr.heap.size]? = some (.cells #[.int .i64 xn, .pointer xq, .int .i64 pl] 67) := by rw [← hV]; exact World.alloc_heap_new wr _
      have v0 : V.cell? ⟨wr.heap.size, 0, none⟩ = some (.int .i64 xn) := by simp [World.cell?, hnw]
      have v1 : V.cell? ⟨wr.heap.size, 1, none⟩ = some (.pointer xq) := by simp [World.cell?, hnw]
      have v2 : V.cell? ⟨wr.heap.size, 2, none⟩ = some (.int .i64 pl) := by simp [World.cell?, hnw]
      clear hnw
      have hTV := hT.out.below hbV
      have hRV := hR.out.below hbV
      obtain ⟨n1, q1, n2, q2, ⟨f0, f1, f2, f3⟩, ⟨g0, g1, g2, g3⟩, hx, hy, _, _⟩ := hTV.cells
      by_cases hpl : 0 < pl
      · have hneg : ¬ pl < 0 := by omega
        go_wp2_with fail
        refine (add_big (Pm.pos (ps.take k)) pc _ _ V hx (hcoef.below hbV) (by have := Hbd.out k; omega) hbk).mono ?_
        rintro e w2 ⟨r, rfl, hr, hb2⟩
        obtain ⟨n3, q3, hr3⟩ := hr.shape
        subst hr3
        have hT2 := hTV.below hb2
        have hR2 := hRV.below hb2
        obtain ⟨m1, r1, m2, r2, ⟨a0, a1, a2, a3⟩, ⟨b0, b1, b2, b3⟩, _, _, _, _⟩ := hT2.cells
        have HT2 : Hid (Tog w (w.heap.size + 1 + 1) (w.heap.size + 1 + 1 + 1) (Pm.pos (ps.take (k + 1))) (Pm.neg (ps.take (k + 1))) ((w2.setCell ⟨w.heap.size + 1 + 1, 0, none⟩ (.int .i64 n3)).setCell ⟨w.heap.size + 1 + 1, 1, none⟩ (.pointer q3))) := by
          rw [hpt, hnt]
          rw [if_neg (show ¬ pl < 0 by omega), if_neg (show ¬ pl < 0 by omega), Int.add_zero]
          exact hT2.setP hr (by omega) (by omega)
        have HR2 : Hid (Res0 w.heap.size ((w2.setCell ⟨w.heap.size + 1 + 1, 0, none⟩ (.int .i64 n3)).setCell ⟨w.heap.size + 1 + 1, 1, none⟩ (.pointer q3))) := (hR2.set (by omega) (by omega) _).set (by omega) (by omega) _
        clear hT2 hR2 hTV hRV hr hcoef hpt hnt hV hb2 hbV hT hR
        go_wp2_with fail
        go_roundw
        case rel => exact ⟨k + 1, by go_num, by omega, HT2, HR2⟩
        case measure => simp [intOf]; omega
      · have hneg : pl < 0 := by have := hlk.1; omega
        go_wp2_with fail
        refine (add_big (Pm.neg (ps.take k)) pc _ _ V hy (hcoef.below hbV) (by have := Hbd.out k; omega) hbk).mono ?_
        rintro e w2 ⟨r, rfl, hr, hb2⟩
        obtain ⟨n3, q3, hr3⟩ := hr.shape
        subst hr3
        have hT2 := hTV.below hb2
        have hR2 := hRV.below hb2
        obtain ⟨m1, r1, m2, r2, ⟨a0, a1, a2, a3⟩, ⟨b0, b1, b2, b3⟩, _, _, _, _⟩ := hT2.cells
        have HT2 : Hid (Tog w (w.heap.size + 1 + 1) (w.heap.size + 1 + 1 + 1) (Pm.pos (ps.take (k + 1))) (Pm.neg (ps.take (k + 1))) ((w2.setCell ⟨w.heap.size + 1 + 1 + 1, 0, none⟩ (.int .i64 n3)).setCell ⟨w.heap.size + 1 + 1 + 1, 1, none⟩ (.pointer q3))) := by
          rw [hpt, hnt]
          rw [if_pos hneg, if_pos hneg, Int.add_zero]
          exact hT2.setQ hr (by omega) (by omega)
        have HR2 : Hid (Res0 w.heap.size ((w2.setCell ⟨w.heap.size + 1 + 1 + 1, 0, none⟩ (.int .i64 n3)).setCell ⟨w.heap.size + 1 + 1 + 1, 1, none⟩ (.pointer q3))) := (hR2.set (by omega) (by omega) _).set (by omega) (by omega) _
        clear hT2 hR2 hTV hRV hr hcoef hpt hnt hV hb2 hbV hT hR
        go_wp2_with fail
        go_roundw
        case rel => exact ⟨k + 1, by go_num, by omega, HT2, HR2⟩
        case measure => simp [intOf]; omega
    · obtain rfl : k = N := by omega
      have htake : ps.take k = ps := List.take_of_length_le (by have := HS.out.1; have := HN.out; omega)
      have hbk := Hbd.out k
      rw [htake] at hT hbk
      obtain ⟨n1, q1, n2, q2, ⟨f0, f1, f2, f3⟩, ⟨g0, g1, g2, g3⟩, hx, hy, _, _⟩ := hT.out.cells
      have HX : Hid (BigAt wr (.agg #[.int .i64 n1, .pointer q1]) (Pm.pos ps)) := hx
      have HY : Hid (BigAt wr (.agg #[.int .i64 n2, .pointer q2]) (Pm.neg ps)) := hy
      have Hbk : Hid ((limbs (Pm.pos ps).natAbs).length ≤ 999999 ∧ (limbs (Pm.neg ps).natAbs).length ≤ 999999) := hbk
      clear hx hy hbk htake
      by_cases hlt : Pm.pos ps < Pm.neg ps
      · have hone : Hid (Pm.one ps v = (Pm.neg ps - Pm.pos ps, -(v : Int))) := if_pos hlt
        have halw : Hid (Pm.always ps = Pm.pos ps) := if_pos hlt
        have hc : cmpI (Pm.pos ps) (Pm.neg ps) = -1 := cmpI_lt hlt
        have HC : Hid (Calls Tryz.prog 30 #[.agg #[.int .i64 n1, .pointer q1], .agg #[.int .i64 n2, .pointer q2]] wr fun e w' => e = .returned (.int .i64 (-1)) ∧ Below wr.heap.size wr w') := by
          have := cmp_big (Pm.pos ps) (Pm.neg ps) _ _ wr HX.out HY.out (by have := Hbk.out.1; omega)
          rw [hc] at this; exact this
        have hwv : IntKind.i64.wrap (-(v : Int)) = -(v : Int) := wrap_negv Hvb.out
        have hwv2 : wrap64 (-(v : Int)) = -(v : Int) := by have := Hvb.out; unfold wrap64; omega
        clear hlt hc
        go_wp2_with fail
        refine HC.out.mono ?_
        rintro e w5 ⟨rfl, hb5⟩
        have hT5 := hT.out.below hb5
        have hR5 := hR.out.below hb5
        obtain ⟨m1, r1, m2, r2, ⟨a0, a1, a2, a3⟩, ⟨b0, b1, b2, b3⟩, hx5, hy5, _, _⟩ := hT5.cells
        have HT5 : Hid (Tog w (w.heap.size + 1 + 1) (w.heap.size + 1 + 1 + 1) (Pm.pos ps) (Pm.neg ps) w5) := hT5
        have HR5 : Hid (Res0 w.heap.size w5) := hR5
        have HX5 : Hid (BigAt w5 (.agg #[.int .i64 m1, .pointer r1]) (Pm.pos ps)) := hx5
        have HY5 : Hid (BigAt w5 (.agg #[.int .i64 m2, .pointer r2]) (Pm.neg ps)) := hy5
        clear f0 f1 f2 f3 g0 g1 g2 g3 HC HX HY hT hR hT5 hR5 hx5 hy5
        go_wp2_with fail
        go_region_with (go_at_call 56; refine calls_at (sub_big (Pm.neg ps) (Pm.pos ps) _ _ w5.drew (HY5.out.below (Below.refl _ _).drew) (HX5.out.below (Below.refl _ _).drew) (by have := Hbk.out.2; omega) (by have := Hbk.out.1; omega)) (by with_reducible rfl) (by with_reducible rfl) ?_; rintro e w6 ⟨r, rfl, hr, hb6⟩; obtain ⟨n3, q3, hr3⟩ := hr.shape; subst hr3; have hb6' : RowKit.Below w5.heap.size w5 w6 := (Below.refl w5.heap.size w5).drew.trans hb6; obtain ⟨c0, c1⟩ := Tog.cellsP HT5.out hb6' a0 a1; have hR6 := HR5.out.below hb6'; obtain ⟨r0', r1', r2', r3', r4', f0, f1, f2, f3, f4⟩ := Res0.cells hR6)
        all_goals
          have hbw6 : RowKit.Below w.heap.size w w6 := by obtain ⟨_, _, _, _, _, _, _, _, h⟩ := HT5.out; exact h.trans (hb6'.mono h.size)
          first
            | (obtain ⟨V, hV, hD⟩ := res_A (l := -(v : Int)) hR6 hr (HX5.out.below hb6') hbw6 (Nat.le_refl _); rw [hV])
            | (obtain ⟨V, hV, hD⟩ := res_B (l := -(v : Int)) hR6 hr (HX5.out.below hb6') hbw6 (Nat.le_refl _); rw [hV])
          clear hV hR6 hr hbw6 r0' r1' r2' r3' r4' f0 f1 f2 f3 f4
          obtain ⟨k0, k1, k2, k3, k4, hB1, hB2, hrest⟩ := hD
          go_wp2
          exact bodyPost_ret (v := .tuple #[.agg #[.int .i64 n3, .pointer q3, .int .i64 (-(v : Int))], .agg #[.int .i64 m1, .pointer r1]]) (by simp [results, Tryz.results69, go_sem, k0, k1, k2, k3, k4]) rfl ⟨n3, q3, m1, r1, by rw [hone.out], by rw [hone.out]; exact hB1, by rw [halw.out]; exact hB2, hrest⟩
      · have hone : Hid (Pm.one ps v = (Pm.pos ps - Pm.neg ps, (v : Int))) := if_neg hlt
        have halw : Hid (Pm.always ps = Pm.neg ps) := if_neg hlt
        have hc : ¬ cmpI (Pm.pos ps) (Pm.neg ps) < 0 := by
          rcases Int.lt_or_eq_of_le (Int.not_lt.1 hlt) with h | h
          · rw [cmpI_gt h]; decide
          · rw [cmpI_eq (by omega) (by omega)]; decide
        obtain ⟨cc, hcc⟩ : ∃ cc, cmpI (Pm.pos ps) (Pm.neg ps) = cc := ⟨_, rfl⟩
        rw [hcc] at hc
        have HC : Hid (Calls Tryz.prog 30 #[.agg #[.int .i64 n1, .pointer q1], .agg #[.int .i64 n2, .pointer q2]] wr fun e w' => e = .returned (.int .i64 cc) ∧ Below wr.heap.size wr w') := by
          have := cmp_big (Pm.pos ps) (Pm.neg ps) _ _ wr HX.out HY.out (by have := Hbk.out.1; omega)
          rw [hcc] at this; exact this
        clear hlt hcc
        go_wp2_with fail
        refine HC.out.mono ?_
        rintro e w5 ⟨rfl, hb5⟩
        have hT5 := hT.out.below hb5
        have hR5 := hR.out.below hb5
        obtain ⟨m1, r1, m2, r2, ⟨a0, a1, a2, a3⟩, ⟨b0, b1, b2, b3⟩, hx5, hy5, _, _⟩ := hT5.cells
        have HT5 : Hid (Tog w (w.heap.size + 1 + 1) (w.heap.size + 1 + 1 + 1) (Pm.pos ps) (Pm.neg ps) w5) := hT5
        have HR5 : Hid (Res0 w.heap.size w5) := hR5
        have HX5 : Hid (BigAt w5 (.agg #[.int .i64 m1, .pointer r1]) (Pm.pos ps)) := hx5
        have HY5 : Hid (BigAt w5 (.agg #[.int .i64 m2, .pointer r2]) (Pm.neg ps)) := hy5
        clear f0 f1 f2 f3 g0 g1 g2 g3 HC HX HY hT hR hT5 hR5 hx5 hy5
        go_wp2_with fail
        go_region_with (go_at_call 56; refine calls_at (sub_big (Pm.pos ps) (Pm.neg ps) _ _ w5.drew (HX5.out.below (Below.refl _ _).drew) (HY5.out.below (Below.refl _ _).drew) (by have := Hbk.out.1; omega) (by have := Hbk.out.2; omega)) (by with_reducible rfl) (by with_reducible rfl) ?_; rintro e w6 ⟨r, rfl, hr, hb6⟩; obtain ⟨n3, q3, hr3⟩ := hr.shape; subst hr3; have hb6' : RowKit.Below w5.heap.size w5 w6 := (Below.refl w5.heap.size w5).drew.trans hb6; obtain ⟨c0, c1⟩ := Tog.cellsQ HT5.out hb6' b0 b1; have hR6 := HR5.out.below hb6'; obtain ⟨r0', r1', r2', r3', r4', f0, f1, f2, f3, f4⟩ := Res0.cells hR6)
        all_goals
          have hbw6 : RowKit.Below w.heap.size w w6 := by obtain ⟨_, _, _, _, _, _, _, _, h⟩ := HT5.out; exact h.trans (hb6'.mono h.size)
          first
            | (obtain ⟨V, hV, hD⟩ := res_A (l := (v : Int)) hR6 hr (HY5.out.below hb6') hbw6 (Nat.le_refl _); rw [hV])
            | (obtain ⟨V, hV, hD⟩ := res_B (l := (v : Int)) hR6 hr (HY5.out.below hb6') hbw6 (Nat.le_refl _); rw [hV])
          clear hV hR6 hr hbw6 r0' r1' r2' r3' r4' f0 f1 f2 f3 f4
          obtain ⟨k0, k1, k2, k3, k4, hB1, hB2, hrest⟩ := hD
          go_wp2
          exact bodyPost_ret (v := .tuple #[.agg #[.int .i64 n3, .pointer q3, .int .i64 ((v : Int))], .agg #[.int .i64 m2, .pointer r2]]) (by simp [results, Tryz.results69, go_sem, k0, k1, k2, k3, k4]) rfl ⟨n3, q3, m2, r2, by rw [hone.out], by rw [hone.out]; exact hB1, by rw [halw.out]; exact hB2, hrest⟩
end Go.Proofs.YtjffbndiecjkjaaGreatDoor
