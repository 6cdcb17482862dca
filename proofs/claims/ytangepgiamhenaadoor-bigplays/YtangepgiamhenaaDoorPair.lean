/-
  Pairs of a program's number and the document's: ok, two.
-/
import Derived.Test.YtangepgiamhenaaDoorRefSub
import Derived.Test.YtangepgiamhenaaDoorIsBig
import Derived.Test.YtangepgiamhenaaDoorCmp
import Derived.Test.YtangepgiamhenaaDoorMulAll
import Derived.Test.YtangepgiamhenaaDoorSubAdd
namespace Go.Proofs.YtangepgiamhenaaDoor
open Go.RowKit
open Bn (limbs)

/-- pair.ok. -/
theorem pairOk_any (z n : Int) (q : Option Addr) (d : Bool) (p : Option Addr) (l c : Nat) (w : World) (ha : BigAt w (.agg #[.int .i64 n, .pointer q]) z) (hb : RefAt w (.agg #[.bool d, .slice p l c]) z) (ht : Tab w) (hlen : (limbs z.natAbs).length ≤ 1000000) :
    Calls Tryd.prog 31 #[.agg #[.int .i64 n, .pointer q, .bool d, .slice p l c]] w fun e w' => e = .returned (.bool true) ∧ Below w.heap.size w w' := by
  have hb0 : Below w.heap.size w (w.alloc (.cells #[.int .i64 n, .pointer q, .bool d, .slice p l c] 46)) := (Below.refl _ _).alloc (Nat.le_refl _) _
  have HI : Hid (Calls Tryd.prog 12 #[.agg #[.int .i64 n, .pointer q], .agg #[.bool d, .slice p l c]] (w.alloc (.cells #[.int .i64 n, .pointer q, .bool d, .slice p l c] 46)) fun e w' => e = .returned (.bool true) ∧ Below w.heap.size w w') :=
    (is_big z _ _ _ (ha.below hb0) (hb.below hb0) (ht.below hb0 ht.2) hlen).mono fun e w' ⟨h1, h2⟩ => ⟨h1, hb0.trans (h2.mono (by simp))⟩
  clear ha hb ht
  go_enter Tryd.func31, Tryd.ntmps31
  go_wp2_with fail
  refine HI.out.mono ?_
  rintro e w1 ⟨rfl, hb1⟩
  go_wp2
  go_ret
  exact ⟨rfl, hb1⟩

theorem len_addP {x y : Int} {n : Nat} (hx : (limbs x.natAbs).length ≤ n) (hy : (limbs y.natAbs).length ≤ n) : (limbs (x + y).natAbs).length ≤ n + 1 := by
  rw [Bn.limbs_length_le] at *
  have h1 : (x + y).natAbs ≤ x.natAbs + y.natAbs := Int.natAbs_add_le x y
  have h2 : 1000000000 ^ (n + 1) = 1000000000 * 1000000000 ^ n := by rw [Nat.pow_succ, Nat.mul_comm]
  omega
theorem len_subP {x y : Int} {n : Nat} (hx : (limbs x.natAbs).length ≤ n) (hy : (limbs y.natAbs).length ≤ n) : (limbs (x - y).natAbs).length ≤ n + 1 := by
  rw [Int.sub_eq_add_neg]; exact len_addP hx (by rw [Int.natAbs_neg]; exact hy)
theorem len_mulP {x y : Int} {m n : Nat} (hx : (limbs x.natAbs).length ≤ m) (hy : (limbs y.natAbs).length ≤ n) : (limbs (x * y).natAbs).length ≤ m + n := by
  rw [Bn.limbs_length_le] at *
  rw [Int.natAbs_mul, Nat.pow_add]
  exact Nat.mul_lt_mul'' hx hy

/-- What stays of two pairs. -/
def Duet (W : World) (NP NQ : Nat) (n1 n2 : Int) (q1 q2 : Option Addr) (d1 d2 : Bool) (p1 p2 : Option Addr) (l1 l2 c1 c2 : Nat) (x y : Int) (w' : World) : Prop :=
  w'.cell? ⟨NP, 0, none⟩ = some (.int .i64 n1) ∧ w'.cell? ⟨NP, 1, none⟩ = some (.pointer q1) ∧ w'.cell? ⟨NP, 2, none⟩ = some (.bool d1) ∧ w'.cell? ⟨NP, 3, none⟩ = some (.slice p1 l1 c1) ∧ w'.cell? ⟨NQ, 0, none⟩ = some (.int .i64 n2) ∧ w'.cell? ⟨NQ, 1, none⟩ = some (.pointer q2) ∧ w'.cell? ⟨NQ, 2, none⟩ = some (.bool d2) ∧ w'.cell? ⟨NQ, 3, none⟩ = some (.slice p2 l2 c2) ∧ NP < w'.heap.size ∧ NQ < w'.heap.size ∧ Tab w' ∧ BigAt w' (.agg #[.int .i64 n1, .pointer q1]) x ∧ RefAt w' (.agg #[.bool d1, .slice p1 l1 c1]) x ∧ BigAt w' (.agg #[.int .i64 n2, .pointer q2]) y ∧ RefAt w' (.agg #[.bool d2, .slice p2 l2 c2]) y ∧ Below W.heap.size W w'
theorem Duet.next {W : World} {NP NQ : Nat} {n1 n2 : Int} {q1 q2 : Option Addr} {d1 d2 : Bool} {p1 p2 : Option Addr} {l1 l2 c1 c2 : Nat} {x y : Int} {w1 w2 : World} (h : Duet W NP NQ n1 n2 q1 q2 d1 d2 p1 p2 l1 l2 c1 c2 x y w1) (hb : Below w1.heap.size w1 w2) : Duet W NP NQ n1 n2 q1 q2 d1 d2 p1 p2 l1 l2 c1 c2 x y w2 := by
  obtain ⟨h1, h2, h3, h4, h5, h6, h7, h8, h9, h10, h11, h12, h13, h14, h15, h16⟩ := h
  exact ⟨(hb.cell (p := ⟨NP, 0, none⟩) h9).trans h1, (hb.cell (p := ⟨NP, 1, none⟩) h9).trans h2, (hb.cell (p := ⟨NP, 2, none⟩) h9).trans h3, (hb.cell (p := ⟨NP, 3, none⟩) h9).trans h4, (hb.cell (p := ⟨NQ, 0, none⟩) h10).trans h5, (hb.cell (p := ⟨NQ, 1, none⟩) h10).trans h6, (hb.cell (p := ⟨NQ, 2, none⟩) h10).trans h7, (hb.cell (p := ⟨NQ, 3, none⟩) h10).trans h8, Nat.lt_of_lt_of_le h9 hb.size, Nat.lt_of_lt_of_le h10 hb.size, h11.below hb h11.2, h12.below hb, h13.below hb, h14.below hb, h15.below hb, h16.trans (hb.mono h16.size)⟩
theorem Duet.tab {W : World} {NP NQ : Nat} {n1 n2 : Int} {q1 q2 : Option Addr} {d1 d2 : Bool} {p1 p2 : Option Addr} {l1 l2 c1 c2 : Nat} {x y : Int} {w1 : World} (h : Duet W NP NQ n1 n2 q1 q2 d1 d2 p1 p2 l1 l2 c1 c2 x y w1) : Tab w1 := h.2.2.2.2.2.2.2.2.2.2.1
theorem Duet.pa {W : World} {NP NQ : Nat} {n1 n2 : Int} {q1 q2 : Option Addr} {d1 d2 : Bool} {p1 p2 : Option Addr} {l1 l2 c1 c2 : Nat} {x y : Int} {w1 : World} (h : Duet W NP NQ n1 n2 q1 q2 d1 d2 p1 p2 l1 l2 c1 c2 x y w1) : BigAt w1 (.agg #[.int .i64 n1, .pointer q1]) x := h.2.2.2.2.2.2.2.2.2.2.2.1
theorem Duet.pb {W : World} {NP NQ : Nat} {n1 n2 : Int} {q1 q2 : Option Addr} {d1 d2 : Bool} {p1 p2 : Option Addr} {l1 l2 c1 c2 : Nat} {x y : Int} {w1 : World} (h : Duet W NP NQ n1 n2 q1 q2 d1 d2 p1 p2 l1 l2 c1 c2 x y w1) : RefAt w1 (.agg #[.bool d1, .slice p1 l1 c1]) x := h.2.2.2.2.2.2.2.2.2.2.2.2.1
theorem Duet.qa {W : World} {NP NQ : Nat} {n1 n2 : Int} {q1 q2 : Option Addr} {d1 d2 : Bool} {p1 p2 : Option Addr} {l1 l2 c1 c2 : Nat} {x y : Int} {w1 : World} (h : Duet W NP NQ n1 n2 q1 q2 d1 d2 p1 p2 l1 l2 c1 c2 x y w1) : BigAt w1 (.agg #[.int .i64 n2, .pointer q2]) y := h.2.2.2.2.2.2.2.2.2.2.2.2.2.1
theorem Duet.qb {W : World} {NP NQ : Nat} {n1 n2 : Int} {q1 q2 : Option Addr} {d1 d2 : Bool} {p1 p2 : Option Addr} {l1 l2 c1 c2 : Nat} {x y : Int} {w1 : World} (h : Duet W NP NQ n1 n2 q1 q2 d1 d2 p1 p2 l1 l2 c1 c2 x y w1) : RefAt w1 (.agg #[.bool d2, .slice p2 l2 c2]) y := h.2.2.2.2.2.2.2.2.2.2.2.2.2.2.1
theorem Duet.rest {W : World} {NP NQ : Nat} {n1 n2 : Int} {q1 q2 : Option Addr} {d1 d2 : Bool} {p1 p2 : Option Addr} {l1 l2 c1 c2 : Nat} {x y : Int} {w1 : World} (h : Duet W NP NQ n1 n2 q1 q2 d1 d2 p1 p2 l1 l2 c1 c2 x y w1) : Below W.heap.size W w1 := h.2.2.2.2.2.2.2.2.2.2.2.2.2.2.2

set_option maxRecDepth 100000 in
set_option maxHeartbeats 20000000 in
/-- two, whatever DivUp answers. -/
theorem two_any (x y z e0 : Int) (ok : Bool) (n1 n2 : Int) (q1 q2 : Option Addr) (d1 d2 : Bool) (p1 p2 : Option Addr) (l1 l2 c1 c2 : Nat) (w : World)
    (ha : BigAt w (.agg #[.int .i64 n1, .pointer q1]) x) (hb : RefAt w (.agg #[.bool d1, .slice p1 l1 c1]) x) (hc : BigAt w (.agg #[.int .i64 n2, .pointer q2]) y) (hd : RefAt w (.agg #[.bool d2, .slice p2 l2 c2]) y) (ht : Tab w) (lx : (limbs x.natAbs).length ≤ 3000) (ly : (limbs y.natAbs).length ≤ 3000) (lz : (limbs z.natAbs).length ≤ 1000000)
    (HD : Hid (∀ w' va vb, BigAt w' va x → BigAt w' vb y → Calls Tryd.prog 29 #[va, vb] w' fun e w'' => ∃ r, e = .returned (.tuple #[r, .int .i64 e0]) ∧ BigAt w'' r z ∧ Below w'.heap.size w' w''))
    (HR : Hid (∀ w' va vb, RefAt w' va x → RefAt w' vb y → Calls Tryd.prog 30 #[va, vb] w' fun e w'' => ∃ r, e = .returned (.tuple #[r, .bool ok]) ∧ RefAt w'' r z ∧ Below w'.heap.size w' w''))
    (hok : e0 = 0 ∧ ok = true ∨ e0 = 11 ∧ ok = false) :
    Calls Tryd.prog 20 #[.agg #[.int .i64 n1, .pointer q1, .bool d1, .slice p1 l1 c1], .agg #[.int .i64 n2, .pointer q2, .bool d2, .slice p2 l2 c2]] w fun e w' => e = .returned (.bool true) ∧ Below w.heap.size w w' := by
  go_enter Tryd.func20, Tryd.ntmps20
  go_wp2_with fail
  generalize hW : (w.alloc (.cells #[.int .i64 n1, .pointer q1, .bool d1, .slice p1 l1 c1] 46)).alloc (.cells #[.int .i64 n2, .pointer q2, .bool d2, .slice p2 l2 c2] 46) = W
  obtain ⟨hP, hQ, hBW, hsz⟩ := two_objs w _ _ hW
  clear hW
  have hS : Duet W w.heap.size (w.heap.size + 1) n1 n2 q1 q2 d1 d2 p1 p2 l1 l2 c1 c2 x y W := by
    refine ⟨?_, ?_, ?_, ?_, ?_, ?_, ?_, ?_, by omega, by omega, ht.below hBW ht.2, ha.below hBW, hb.below hBW, hc.below hBW, hd.below hBW, Below.refl _ _⟩ <;> simp [World.cell?, hP, hQ]
  have KW : Hid (Below w.heap.size w W) := hBW
  clear ha hb hc hd ht hP hQ hBW hsz
  refine (HD.out W _ _ (Duet.pa hS) (Duet.qa hS)).mono ?_
  rintro e w1 ⟨r1, rfl, hr1, hb1⟩
  obtain ⟨n3, q3, hr1s⟩ := hr1.shape
  subst hr1s
  obtain ⟨W1, hW1⟩ : ∃ W1, w1.alloc (.cells #[.int .i64 n3, .pointer q3] 24) = W1 := ⟨_, rfl⟩
  obtain ⟨bX, hB1, hs1⟩ := new_box w1 n3 q3 hW1
  have hS1 := (Duet.next hS hb1).next hB1
  have hr1' := hr1.below hB1
  obtain ⟨_, _, a2, a3, _, _, b2, b3, _⟩ := id hS1
  clear hS hr1
  go_wp2_with fail
  refine (HR.out W1 _ _ (Duet.pb hS1) (Duet.qb hS1)).mono ?_
  rintro e w2 ⟨r2, rfl, hr2, hb2⟩
  obtain ⟨d3, p3, l3, c3, hr2s⟩ := hr2.shape
  subst hr2s
  clear hW1 a2 a3 b2 b3
  obtain ⟨W2, hW2⟩ : ∃ W2, w2.alloc (.cells #[.bool d3, .slice p3 l3 c3] 30) = W2 := ⟨_, rfl⟩
  have hB2 : Below w2.heap.size w2 W2 := by rw [← hW2]; exact (Below.refl _ _).alloc (Nat.le_refl _) _
  have bY : W2.heap[w2.heap.size]? = some (.cells #[.bool d3, .slice p3 l3 c3] 30) := by rw [← hW2]; exact World.alloc_heap_new w2 _
  have hb12 : Below W1.heap.size W1 W2 := hb2.trans (hB2.mono hb2.size)
  have bX2 := (hb12.block w1.heap.size (by omega)).trans bX
  have hS2 := hS1.next hb12
  have hr1'' := hr1'.below hb12
  have hr2' := hr2.below hB2
  obtain ⟨x0, x1, _, _⟩ := box_facts bX2
  obtain ⟨y0, y1, _, _⟩ := rbox_facts bY
  have HIs : Hid (Calls Tryd.prog 12 #[.agg #[.int .i64 n3, .pointer q3], .agg #[.bool d3, .slice p3 l3 c3]] W2 fun e w' => e = .returned (.bool true) ∧ Below W2.heap.size W2 w') := is_big z _ _ _ hr1'' hr2' (Duet.tab hS2) lz
  have HS2 : Hid (Duet W w.heap.size (w.heap.size + 1) n1 n2 q1 q2 d1 d2 p1 p2 l1 l2 c1 c2 x y W2) := hS2
  clear hS1 hr1' hr1'' hr2 hr2' hb12 hB2 bX bX2 bY hb1 hb2 hB1 hs1 hS2
  have lx' : (limbs x.natAbs).length ≤ 1000000 := by omega
  have ly' : (limbs y.natAbs).length ≤ 1000000 := by omega
  have lxy : (limbs (x + y).natAbs).length ≤ 1000000 := by have := len_addP lx ly; omega
  have sxy : (limbs (x - y).natAbs).length ≤ 1000000 := by have := len_subP lx ly; omega
  have mxy : (limbs (x * y).natAbs).length ≤ 1000000 := by have := len_mulP lx ly; omega
  have nx : (limbs (-x).natAbs).length ≤ 1000000 := by rw [Int.natAbs_neg]; exact lx'
  obtain ⟨cc, hcc⟩ : ∃ cc, cmpI x y = cc := ⟨_, rfl⟩
  obtain ⟨cd, hcd⟩ : ∃ cd, cmpI y x = cd := ⟨_, rfl⟩
  have Ec : Hid (cmpI x y = cc) := hcc
  have Ed : Hid (cmpI y x = cd) := hcd
  clear hcc hcd lx ly
  rcases hok with ⟨rfl, rfl⟩ | ⟨rfl, rfl⟩
  all_goals
    go_wp2_with (first
      | (go_at_call 11; go_in)
      | (go_at_call 12; refine calls_at HIs.out (by with_reducible rfl) (by with_reducible rfl) ?_; rintro e w3 ⟨rfl, hb3⟩))
    have hS3 := Duet.next HS2.out hb3
    have hT : Duet W w.heap.size (w.heap.size + 1) n1 n2 q1 q2 d1 d2 p1 p2 l1 l2 c1 c2 x y w3.drew := hS3.next (Below.refl _ _).drew
    clear hS3 hW2 x0 x1 y0 y1
    simp only [List.append_eq, List.cons_append, List.nil_append]
    go_region_held3 (fun w' => w'.cell? ⟨w.heap.size, 0, none⟩ = some (.int .i64 n1) ∧ w'.cell? ⟨w.heap.size, 1, none⟩ = some (.pointer q1) ∧ w'.cell? ⟨w.heap.size, 2, none⟩ = some (.bool d1) ∧ w'.cell? ⟨w.heap.size, 3, none⟩ = some (.slice p1 l1 c1) ∧ w'.cell? ⟨(w.heap.size + 1), 0, none⟩ = some (.int .i64 n2) ∧ w'.cell? ⟨(w.heap.size + 1), 1, none⟩ = some (.pointer q2) ∧ w'.cell? ⟨(w.heap.size + 1), 2, none⟩ = some (.bool d2) ∧ w'.cell? ⟨(w.heap.size + 1), 3, none⟩ = some (.slice p2 l2 c2) ∧ w.heap.size < w'.heap.size ∧ (w.heap.size + 1) < w'.heap.size ∧ Tab w' ∧ BigAt w' (.agg #[.int .i64 n1, .pointer q1]) x ∧ RefAt w' (.agg #[.bool d1, .slice p1 l1 c1]) x ∧ BigAt w' (.agg #[.int .i64 n2, .pointer q2]) y ∧ RefAt w' (.agg #[.bool d2, .slice p2 l2 c2]) y ∧ Below W.heap.size W w')
      (first | exact hT | (refine Duet.next (by assumption) (by assumption)))
      (first
      | (go_at_call 19; refine calls_at (add_big ?_ ?_ _ _ _ ?_ ?_ ?_ ?_) (by with_reducible rfl) (by with_reducible rfl) ?_; rotate_left 2; (first | exact Duet.pa (by assumption) | exact Duet.qa (by assumption) | with_reducible assumption | (refine BigAt.below ?_ (by assumption); with_reducible assumption) | (refine BigAt.below ?_ (by assumption); refine BigAt.below ?_ (by assumption); with_reducible assumption) | (refine BigAt.below ?_ (by assumption); refine BigAt.below ?_ (by assumption); refine BigAt.below ?_ (by assumption); with_reducible assumption)); (first | exact Duet.pa (by assumption) | exact Duet.qa (by assumption) | with_reducible assumption | (refine BigAt.below ?_ (by assumption); with_reducible assumption) | (refine BigAt.below ?_ (by assumption); refine BigAt.below ?_ (by assumption); with_reducible assumption) | (refine BigAt.below ?_ (by assumption); refine BigAt.below ?_ (by assumption); refine BigAt.below ?_ (by assumption); with_reducible assumption)); (with_reducible assumption); (with_reducible assumption); rintro e w' ⟨r, rfl, hr, hb⟩; obtain ⟨yr, qr, hrs⟩ := hr.shape; subst hrs)
      | (go_at_call 24; refine calls_at (refAdd_any ?_ ?_ _ _ _ ?_ ?_ ?_ ?_) (by with_reducible rfl) (by with_reducible rfl) ?_; rotate_left 2; (first | exact Duet.pb (by assumption) | exact Duet.qb (by assumption) | with_reducible assumption | (refine RefAt.below ?_ (by assumption); with_reducible assumption) | (refine RefAt.below ?_ (by assumption); refine RefAt.below ?_ (by assumption); with_reducible assumption) | (refine RefAt.below ?_ (by assumption); refine RefAt.below ?_ (by assumption); refine RefAt.below ?_ (by assumption); with_reducible assumption)); (first | exact Duet.pb (by assumption) | exact Duet.qb (by assumption) | with_reducible assumption | (refine RefAt.below ?_ (by assumption); with_reducible assumption) | (refine RefAt.below ?_ (by assumption); refine RefAt.below ?_ (by assumption); with_reducible assumption) | (refine RefAt.below ?_ (by assumption); refine RefAt.below ?_ (by assumption); refine RefAt.below ?_ (by assumption); with_reducible assumption)); (with_reducible assumption); (with_reducible assumption); rintro e w' ⟨r, rfl, hr, hb⟩; obtain ⟨br, pr, nr, cr, hrs⟩ := hr.shape; subst hrs)
      | (go_at_call 25; refine calls_at (sub_big ?_ ?_ _ _ _ ?_ ?_ ?_ ?_) (by with_reducible rfl) (by with_reducible rfl) ?_; rotate_left 2; (first | exact Duet.pa (by assumption) | exact Duet.qa (by assumption) | with_reducible assumption | (refine BigAt.below ?_ (by assumption); with_reducible assumption) | (refine BigAt.below ?_ (by assumption); refine BigAt.below ?_ (by assumption); with_reducible assumption) | (refine BigAt.below ?_ (by assumption); refine BigAt.below ?_ (by assumption); refine BigAt.below ?_ (by assumption); with_reducible assumption)); (first | exact Duet.pa (by assumption) | exact Duet.qa (by assumption) | with_reducible assumption | (refine BigAt.below ?_ (by assumption); with_reducible assumption) | (refine BigAt.below ?_ (by assumption); refine BigAt.below ?_ (by assumption); with_reducible assumption) | (refine BigAt.below ?_ (by assumption); refine BigAt.below ?_ (by assumption); refine BigAt.below ?_ (by assumption); with_reducible assumption)); (with_reducible assumption); (with_reducible assumption); rintro e w' ⟨r, rfl, hr, hb⟩; obtain ⟨yr, qr, hrs⟩ := hr.shape; subst hrs)
      | (go_at_call 26; refine calls_at (refSub_any ?_ ?_ _ _ _ ?_ ?_ ?_ ?_) (by with_reducible rfl) (by with_reducible rfl) ?_; rotate_left 2; (first | exact Duet.pb (by assumption) | exact Duet.qb (by assumption) | with_reducible assumption | (refine RefAt.below ?_ (by assumption); with_reducible assumption) | (refine RefAt.below ?_ (by assumption); refine RefAt.below ?_ (by assumption); with_reducible assumption) | (refine RefAt.below ?_ (by assumption); refine RefAt.below ?_ (by assumption); refine RefAt.below ?_ (by assumption); with_reducible assumption)); (first | exact Duet.pb (by assumption) | exact Duet.qb (by assumption) | with_reducible assumption | (refine RefAt.below ?_ (by assumption); with_reducible assumption) | (refine RefAt.below ?_ (by assumption); refine RefAt.below ?_ (by assumption); with_reducible assumption) | (refine RefAt.below ?_ (by assumption); refine RefAt.below ?_ (by assumption); refine RefAt.below ?_ (by assumption); with_reducible assumption)); (with_reducible assumption); (with_reducible assumption); rintro e w' ⟨r, rfl, hr, hb⟩; obtain ⟨br, pr, nr, cr, hrs⟩ := hr.shape; subst hrs)
      | (go_at_call 27; refine calls_at (mul_big ?_ ?_ _ _ _ ?_ ?_ ?_ ?_) (by with_reducible rfl) (by with_reducible rfl) ?_; rotate_left 2; (first | exact Duet.pa (by assumption) | exact Duet.qa (by assumption) | with_reducible assumption | (refine BigAt.below ?_ (by assumption); with_reducible assumption) | (refine BigAt.below ?_ (by assumption); refine BigAt.below ?_ (by assumption); with_reducible assumption) | (refine BigAt.below ?_ (by assumption); refine BigAt.below ?_ (by assumption); refine BigAt.below ?_ (by assumption); with_reducible assumption)); (first | exact Duet.pa (by assumption) | exact Duet.qa (by assumption) | with_reducible assumption | (refine BigAt.below ?_ (by assumption); with_reducible assumption) | (refine BigAt.below ?_ (by assumption); refine BigAt.below ?_ (by assumption); with_reducible assumption) | (refine BigAt.below ?_ (by assumption); refine BigAt.below ?_ (by assumption); refine BigAt.below ?_ (by assumption); with_reducible assumption)); (with_reducible assumption); (with_reducible assumption); rintro e w' ⟨r, rfl, hr, hb⟩; obtain ⟨yr, qr, hrs⟩ := hr.shape; subst hrs)
      | (go_at_call 28; refine calls_at (refMul_any ?_ ?_ _ _ _ ?_ ?_ ?_ ?_) (by with_reducible rfl) (by with_reducible rfl) ?_; rotate_left 2; (first | exact Duet.pb (by assumption) | exact Duet.qb (by assumption) | with_reducible assumption | (refine RefAt.below ?_ (by assumption); with_reducible assumption) | (refine RefAt.below ?_ (by assumption); refine RefAt.below ?_ (by assumption); with_reducible assumption) | (refine RefAt.below ?_ (by assumption); refine RefAt.below ?_ (by assumption); refine RefAt.below ?_ (by assumption); with_reducible assumption)); (first | exact Duet.pb (by assumption) | exact Duet.qb (by assumption) | with_reducible assumption | (refine RefAt.below ?_ (by assumption); with_reducible assumption) | (refine RefAt.below ?_ (by assumption); refine RefAt.below ?_ (by assumption); with_reducible assumption) | (refine RefAt.below ?_ (by assumption); refine RefAt.below ?_ (by assumption); refine RefAt.below ?_ (by assumption); with_reducible assumption)); (with_reducible assumption); (with_reducible assumption); rintro e w' ⟨r, rfl, hr, hb⟩; obtain ⟨br, pr, nr, cr, hrs⟩ := hr.shape; subst hrs)
      | (go_at_call 22; refine calls_at (neg_big ?_ _ _ ?_) (by with_reducible rfl) (by with_reducible rfl) ?_; rotate_left 1; (first | exact Duet.pa (by assumption) | exact Duet.qa (by assumption) | with_reducible assumption | (refine BigAt.below ?_ (by assumption); with_reducible assumption) | (refine BigAt.below ?_ (by assumption); refine BigAt.below ?_ (by assumption); with_reducible assumption) | (refine BigAt.below ?_ (by assumption); refine BigAt.below ?_ (by assumption); refine BigAt.below ?_ (by assumption); with_reducible assumption)); rintro e w' ⟨r, rfl, hr, hb⟩; obtain ⟨yr, qr, hrs⟩ := hr.shape; subst hrs)
      | (go_at_call 23; refine calls_at (opposite_any ?_ _ _ ?_) (by with_reducible rfl) (by with_reducible rfl) ?_; rotate_left 1; (first | exact Duet.pb (by assumption) | exact Duet.qb (by assumption) | with_reducible assumption | (refine RefAt.below ?_ (by assumption); with_reducible assumption) | (refine RefAt.below ?_ (by assumption); refine RefAt.below ?_ (by assumption); with_reducible assumption) | (refine RefAt.below ?_ (by assumption); refine RefAt.below ?_ (by assumption); refine RefAt.below ?_ (by assumption); with_reducible assumption)); rintro e w' ⟨r, rfl, hr, hb⟩; obtain ⟨br, pr, nr, cr, hrs⟩ := hr.shape; subst hrs)
      | (go_at_call 18; refine calls_at (cmp_big ?_ ?_ _ _ _ ?_ ?_ ?_) (by with_reducible rfl) (by with_reducible rfl) ?_; rotate_left 2; (first | exact Duet.pa (by assumption) | exact Duet.qa (by assumption) | with_reducible assumption | (refine BigAt.below ?_ (by assumption); with_reducible assumption) | (refine BigAt.below ?_ (by assumption); refine BigAt.below ?_ (by assumption); with_reducible assumption) | (refine BigAt.below ?_ (by assumption); refine BigAt.below ?_ (by assumption); refine BigAt.below ?_ (by assumption); with_reducible assumption)); (first | exact Duet.pa (by assumption) | exact Duet.qa (by assumption) | with_reducible assumption | (refine BigAt.below ?_ (by assumption); with_reducible assumption) | (refine BigAt.below ?_ (by assumption); refine BigAt.below ?_ (by assumption); with_reducible assumption) | (refine BigAt.below ?_ (by assumption); refine BigAt.below ?_ (by assumption); refine BigAt.below ?_ (by assumption); with_reducible assumption)); (with_reducible assumption); rintro e w' ⟨rfl, hb⟩; first | rw [Ec.out] | rw [Ed.out])
      | (go_at_call 52; refine calls_at (refCmp_any ?_ ?_ _ _ _ ?_ ?_) (by with_reducible rfl) (by with_reducible rfl) ?_; rotate_left 2; (first | exact Duet.pb (by assumption) | exact Duet.qb (by assumption) | with_reducible assumption | (refine RefAt.below ?_ (by assumption); with_reducible assumption) | (refine RefAt.below ?_ (by assumption); refine RefAt.below ?_ (by assumption); with_reducible assumption) | (refine RefAt.below ?_ (by assumption); refine RefAt.below ?_ (by assumption); refine RefAt.below ?_ (by assumption); with_reducible assumption)); (first | exact Duet.pb (by assumption) | exact Duet.qb (by assumption) | with_reducible assumption | (refine RefAt.below ?_ (by assumption); with_reducible assumption) | (refine RefAt.below ?_ (by assumption); refine RefAt.below ?_ (by assumption); with_reducible assumption) | (refine RefAt.below ?_ (by assumption); refine RefAt.below ?_ (by assumption); refine RefAt.below ?_ (by assumption); with_reducible assumption)); rintro e w' ⟨rfl, hb⟩; first | rw [Ec.out] | rw [Ed.out])
      | (go_at_call 12; refine calls_at (is_big ?_ _ _ _ ?_ ?_ ?_ ?_) (by with_reducible rfl) (by with_reducible rfl) ?_; rotate_left 1; (first | exact Duet.pa (by assumption) | exact Duet.qa (by assumption) | with_reducible assumption | (refine BigAt.below ?_ (by assumption); with_reducible assumption) | (refine BigAt.below ?_ (by assumption); refine BigAt.below ?_ (by assumption); with_reducible assumption) | (refine BigAt.below ?_ (by assumption); refine BigAt.below ?_ (by assumption); refine BigAt.below ?_ (by assumption); with_reducible assumption)); (first | exact Duet.pb (by assumption) | exact Duet.qb (by assumption) | with_reducible assumption | (refine RefAt.below ?_ (by assumption); with_reducible assumption) | (refine RefAt.below ?_ (by assumption); refine RefAt.below ?_ (by assumption); with_reducible assumption) | (refine RefAt.below ?_ (by assumption); refine RefAt.below ?_ (by assumption); refine RefAt.below ?_ (by assumption); with_reducible assumption)); (exact Duet.tab (by assumption)); (with_reducible assumption); rintro e w' ⟨rfl, hb⟩)
      | (go_at_call 31; refine calls_at (pairOk_any x _ _ _ _ _ _ _ (Duet.pa (by assumption)) (Duet.pb (by assumption)) (Duet.tab (by assumption)) lx') (by with_reducible rfl) (by with_reducible rfl) ?_; rintro e w' ⟨rfl, hb⟩)
      | (go_at_call 31; refine calls_at (pairOk_any y _ _ _ _ _ _ _ (Duet.qa (by assumption)) (Duet.qb (by assumption)) (Duet.tab (by assumption)) ly') (by with_reducible rfl) (by with_reducible rfl) ?_; rintro e w' ⟨rfl, hb⟩))
    rename_i hHeld
    have hT2 : Duet W w.heap.size (w.heap.size + 1) n1 n2 q1 q2 d1 d2 p1 p2 l1 l2 c1 c2 x y w'.drew := Duet.next hHeld (Below.refl _ _).drew
    have hT3 : Duet W w.heap.size (w.heap.size + 1) n1 n2 q1 q2 d1 d2 p1 p2 l1 l2 c1 c2 x y w' := hHeld
    obtain ⟨a0, a1, a2, a3, b0, b1, b2, b3, _⟩ := id hT3
    clear hT hHeld
    go_wp2_with fail
    refine (pairOk_any x _ _ _ _ _ _ _ (Duet.pa hT3) (Duet.pb hT3) (Duet.tab hT3) lx').mono ?_
    rintro e w5 ⟨rfl, hb5⟩
    have hT5 := Duet.next hT3 hb5
    clear a0 a1 a2 a3 b0 b1 b2 b3 hT2
    obtain ⟨_, _, _, _, b0, b1, b2, b3, _⟩ := id hT5
    go_wp2_with fail
    refine (pairOk_any y _ _ _ _ _ _ _ (Duet.qa hT5) (Duet.qb hT5) (Duet.tab hT5) ly').mono ?_
    rintro e w6 ⟨rfl, hb6⟩
    have hfin : Below w.heap.size w w6 := KW.out.trans ((Duet.rest (hT5.next hb6)).mono KW.out.size)
    go_wp2
    go_ret
    exact ⟨rfl, hfin⟩
end Go.Proofs.YtangepgiamhenaaDoor
