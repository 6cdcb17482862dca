/-
  Several texts in one: Pair, TwoWalk, TwoProof.
-/
import Derived.Test.YtangepgiamhenaaDoorRefAll
import Derived.Test.YtangepgiamhenaaDoorIsBig
import Derived.Test.YtangepgiamhenaaDoorCmp
import Derived.Test.YtangepgiamhenaaDoorMulInts
import Derived.Test.YtangepgiamhenaaDoorSubBig
import Derived.Test.YtangepgiamhenaaDoorParsesWalk
import Derived.Test.YtangepgiamhenaaDoorLaid
import Derived.ChangeMaps
namespace Go.Proofs.YtangepgiamhenaaDoor
open Go.RowKit
open Bn (limbs)

/-- pair.ok. -/
theorem pairOk_any (z n : Int) (q : Option Addr) (d : Bool) (p : Option Addr) (l c : Nat) (w : World) (ha : BigAt w (.agg #[.int .i64 n, .pointer q]) z) (hb : RefAt w (.agg #[.bool d, .slice p l c]) z) (ht : Tab w) (hlen : (limbs z.natAbs).length ≤ 1000000) :
    Calls Tryd.prog 31 #[.agg #[.int .i64 n, .pointer q, .bool d, .slice p l c]] w fun e w' => e = .returned (.bool true) ∧ Below w.heap.size w w' := by
  have hb0 : Below w.heap.size w (w.alloc (.cells #[.int .i64 n, .pointer q, .bool d, .slice p l c] 46)) := (Below.refl _ _).alloc (Nat.le_refl _) _
  have HI : Hid (Calls Tryd.prog 12 #[.agg #[.int .i64 n, .pointer q], .agg #[.bool d, .slice p l c]] (w.alloc (.cells #[.int .i64 n, .pointer q, .bool d, .slice p l c] 46)) fun e w' => e = .returned (.bool true) ∧ Below w.heap.size w w') :=
    (is_big z _ _ _ (ha.below hb0) (hb.below hb0) (ht.below hb0 ht.2) hlen).mono fun e w' ⟨h1, h2⟩ => ⟨h1, hb0.trans (h2.mono (by simp))⟩
  clear ha hb ht
  go_enter Tryd.func31, Tryd.ntmps31
  go_wp2_with fail
  refine HI.out.mono ?_
  rintro e w1 ⟨rfl, hb1⟩
  go_wp2
  go_ret
  exact ⟨rfl, hb1⟩

theorem len_addP {x y : Int} {n : Nat} (hx : (limbs x.natAbs).length ≤ n) (hy : (limbs y.natAbs).length ≤ n) : (limbs (x + y).natAbs).length ≤ n + 1 := by
  rw [Bn.limbs_length_le] at *
  have h1 : (x + y).natAbs ≤ x.natAbs + y.natAbs := Int.natAbs_add_le x y
  have h2 : 1000000000 ^ (n + 1) = 1000000000 * 1000000000 ^ n := by rw [Nat.pow_succ, Nat.mul_comm]
  omega
theorem len_subP {x y : Int} {n : Nat} (hx : (limbs x.natAbs).length ≤ n) (hy : (limbs y.natAbs).length ≤ n) : (limbs (x - y).natAbs).length ≤ n + 1 := by
  rw [Int.sub_eq_add_neg]; exact len_addP hx (by rw [Int.natAbs_neg]; exact hy)
theorem len_mulP {x y : Int} {m n : Nat} (hx : (limbs x.natAbs).length ≤ m) (hy : (limbs y.natAbs).length ≤ n) : (limbs (x * y).natAbs).length ≤ m + n := by
  rw [Bn.limbs_length_le] at *
  rw [Int.natAbs_mul, Nat.pow_add]
  exact Nat.mul_lt_mul'' hx hy

/-- What stays of two pairs. -/
def Duet (W : World) (NP NQ : Nat) (n1 n2 : Int) (q1 q2 : Option Addr) (d1 d2 : Bool) (p1 p2 : Option Addr) (l1 l2 c1 c2 : Nat) (x y : Int) (w' : World) : Prop :=
  w'.cell? ⟨NP, 0, none⟩ = some (.int .i64 n1) ∧ w'.cell? ⟨NP, 1, none⟩ = some (.pointer q1) ∧ w'.cell? ⟨NP, 2, none⟩ = some (.bool d1) ∧ w'.cell? ⟨NP, 3, none⟩ = some (.slice p1 l1 c1) ∧ w'.cell? ⟨NQ, 0, none⟩ = some (.int .i64 n2) ∧ w'.cell? ⟨NQ, 1, none⟩ = some (.pointer q2) ∧ w'.cell? ⟨NQ, 2, none⟩ = some (.bool d2) ∧ w'.cell? ⟨NQ, 3, none⟩ = some (.slice p2 l2 c2) ∧ NP < w'.heap.size ∧ NQ < w'.heap.size ∧ Tab w' ∧ BigAt w' (.agg #[.int .i64 n1, .pointer q1]) x ∧ RefAt w' (.agg #[.bool d1, .slice p1 l1 c1]) x ∧ BigAt w' (.agg #[.int .i64 n2, .pointer q2]) y ∧ RefAt w' (.agg #[.bool d2, .slice p2 l2 c2]) y ∧ Below W.heap.size W w'
theorem Duet.next {W : World} {NP NQ : Nat} {n1 n2 : Int} {q1 q2 : Option Addr} {d1 d2 : Bool} {p1 p2 : Option Addr} {l1 l2 c1 c2 : Nat} {x y : Int} {w1 w2 : World} (h : Duet W NP NQ n1 n2 q1 q2 d1 d2 p1 p2 l1 l2 c1 c2 x y w1) (hb : Below w1.heap.size w1 w2) : Duet W NP NQ n1 n2 q1 q2 d1 d2 p1 p2 l1 l2 c1 c2 x y w2 := by
  obtain ⟨h1, h2, h3, h4, h5, h6, h7, h8, h9, h10, h11, h12, h13, h14, h15, h16⟩ := h
  exact ⟨(hb.cell (p := ⟨NP, 0, none⟩) h9).trans h1, (hb.cell (p := ⟨NP, 1, none⟩) h9).trans h2, (hb.cell (p := ⟨NP, 2, none⟩) h9).trans h3, (hb.cell (p := ⟨NP, 3, none⟩) h9).trans h4, (hb.cell (p := ⟨NQ, 0, none⟩) h10).trans h5, (hb.cell (p := ⟨NQ, 1, none⟩) h10).trans h6, (hb.cell (p := ⟨NQ, 2, none⟩) h10).trans h7, (hb.cell (p := ⟨NQ, 3, none⟩) h10).trans h8, Nat.lt_of_lt_of_le h9 hb.size, Nat.lt_of_lt_of_le h10 hb.size, h11.below hb h11.2, h12.below hb, h13.below hb, h14.below hb, h15.below hb, h16.trans (hb.mono h16.size)⟩
theorem Duet.tab {W : World} {NP NQ : Nat} {n1 n2 : Int} {q1 q2 : Option Addr} {d1 d2 : Bool} {p1 p2 : Option Addr} {l1 l2 c1 c2 : Nat} {x y : Int} {w1 : World} (h : Duet W NP NQ n1 n2 q1 q2 d1 d2 p1 p2 l1 l2 c1 c2 x y w1) : Tab w1 := h.2.2.2.2.2.2.2.2.2.2.1
theorem Duet.pa {W : World} {NP NQ : Nat} {n1 n2 : Int} {q1 q2 : Option Addr} {d1 d2 : Bool} {p1 p2 : Option Addr} {l1 l2 c1 c2 : Nat} {x y : Int} {w1 : World} (h : Duet W NP NQ n1 n2 q1 q2 d1 d2 p1 p2 l1 l2 c1 c2 x y w1) : BigAt w1 (.agg #[.int .i64 n1, .pointer q1]) x := h.2.2.2.2.2.2.2.2.2.2.2.1
theorem Duet.pb {W : World} {NP NQ : Nat} {n1 n2 : Int} {q1 q2 : Option Addr} {d1 d2 : Bool} {p1 p2 : Option Addr} {l1 l2 c1 c2 : Nat} {x y : Int} {w1 : World} (h : Duet W NP NQ n1 n2 q1 q2 d1 d2 p1 p2 l1 l2 c1 c2 x y w1) : RefAt w1 (.agg #[.bool d1, .slice p1 l1 c1]) x := h.2.2.2.2.2.2.2.2.2.2.2.2.1
theorem Duet.qa {W : World} {NP NQ : Nat} {n1 n2 : Int} {q1 q2 : Option Addr} {d1 d2 : Bool} {p1 p2 : Option Addr} {l1 l2 c1 c2 : Nat} {x y : Int} {w1 : World} (h : Duet W NP NQ n1 n2 q1 q2 d1 d2 p1 p2 l1 l2 c1 c2 x y w1) : BigAt w1 (.agg #[.int .i64 n2, .pointer q2]) y := h.2.2.2.2.2.2.2.2.2.2.2.2.2.1
theorem Duet.qb {W : World} {NP NQ : Nat} {n1 n2 : Int} {q1 q2 : Option Addr} {d1 d2 : Bool} {p1 p2 : Option Addr} {l1 l2 c1 c2 : Nat} {x y : Int} {w1 : World} (h : Duet W NP NQ n1 n2 q1 q2 d1 d2 p1 p2 l1 l2 c1 c2 x y w1) : RefAt w1 (.agg #[.bool d2, .slice p2 l2 c2]) y := h.2.2.2.2.2.2.2.2.2.2.2.2.2.2.1
theorem Duet.rest {W : World} {NP NQ : Nat} {n1 n2 : Int} {q1 q2 : Option Addr} {d1 d2 : Bool} {p1 p2 : Option Addr} {l1 l2 c1 c2 : Nat} {x y : Int} {w1 : World} (h : Duet W NP NQ n1 n2 q1 q2 d1 d2 p1 p2 l1 l2 c1 c2 x y w1) : Below W.heap.size W w1 := h.2.2.2.2.2.2.2.2.2.2.2.2.2.2.2

set_option maxRecDepth 100000 in
set_option maxHeartbeats 20000000 in
/-- two, whatever DivUp answers. -/
theorem two_any (x y z e0 : Int) (ok : Bool) (n1 n2 : Int) (q1 q2 : Option Addr) (d1 d2 : Bool) (p1 p2 : Option Addr) (l1 l2 c1 c2 : Nat) (w : World)
    (ha : BigAt w (.agg #[.int .i64 n1, .pointer q1]) x) (hb : RefAt w (.agg #[.bool d1, .slice p1 l1 c1]) x) (hc : BigAt w (.agg #[.int .i64 n2, .pointer q2]) y) (hd : RefAt w (.agg #[.bool d2, .slice p2 l2 c2]) y) (ht : Tab w) (lx : (limbs x.natAbs).length ≤ 3000) (ly : (limbs y.natAbs).length ≤ 3000) (lz : (limbs z.natAbs).length ≤ 1000000)
    (HD : Hid (∀ w' va vb, BigAt w' va x → BigAt w' vb y → Calls Tryd.prog 29 #[va, vb] w' fun e w'' => ∃ r, e = .returned (.tuple #[r, .int .i64 e0]) ∧ BigAt w'' r z ∧ Below w'.heap.size w' w''))
    (HR : Hid (∀ w' va vb, RefAt w' va x → RefAt w' vb y → Calls Tryd.prog 30 #[va, vb] w' fun e w'' => ∃ r, e = .returned (.tuple #[r, .bool ok]) ∧ RefAt w'' r z ∧ Below w'.heap.size w' w''))
    (hok : e0 = 0 ∧ ok = true ∨ e0 = 11 ∧ ok = false) :
    Calls Tryd.prog 20 #[.agg #[.int .i64 n1, .pointer q1, .bool d1, .slice p1 l1 c1], .agg #[.int .i64 n2, .pointer q2, .bool d2, .slice p2 l2 c2]] w fun e w' => e = .returned (.bool true) ∧ Below w.heap.size w w' := by
  go_enter Tryd.func20, Tryd.ntmps20
  go_wp2_with fail
  generalize hW : (w.alloc (.cells #[.int .i64 n1, .pointer q1, .bool d1, .slice p1 l1 c1] 46)).alloc (.cells #[.int .i64 n2, .pointer q2, .bool d2, .slice p2 l2 c2] 46) = W
  obtain ⟨hP, hQ, hBW, hsz⟩ := two_objs w _ _ hW
  clear hW
  have hS : Duet W w.heap.size (w.heap.size + 1) n1 n2 q1 q2 d1 d2 p1 p2 l1 l2 c1 c2 x y W := by
    refine ⟨?_, ?_, ?_, ?_, ?_, ?_, ?_, ?_, by omega, by omega, ht.below hBW ht.2, ha.below hBW, hb.below hBW, hc.below hBW, hd.below hBW, Below.refl _ _⟩ <;> simp [World.cell?, hP, hQ]
  have KW : Hid (Below w.heap.size w W) := hBW
  clear ha hb hc hd ht hP hQ hBW hsz
  refine (HD.out W _ _ (Duet.pa hS) (Duet.qa hS)).mono ?_
  rintro e w1 ⟨r1, rfl, hr1, hb1⟩
  obtain ⟨n3, q3, hr1s⟩ := hr1.shape
  subst hr1s
  obtain ⟨W1, hW1⟩ : ∃ W1, w1.alloc (.cells #[.int .i64 n3, .pointer q3] 24) = W1 := ⟨_, rfl⟩
  obtain ⟨bX, hB1, hs1⟩ := new_box w1 n3 q3 hW1
  have hS1 := (Duet.next hS hb1).next hB1
  have hr1' := hr1.below hB1
  obtain ⟨_, _, a2, a3, _, _, b2, b3, _⟩ := id hS1
  clear hS hr1
  go_wp2_with fail
  refine (HR.out W1 _ _ (Duet.pb hS1) (Duet.qb hS1)).mono ?_
  rintro e w2 ⟨r2, rfl, hr2, hb2⟩
  obtain ⟨d3, p3, l3, c3, hr2s⟩ := hr2.shape
  subst hr2s
  clear hW1 a2 a3 b2 b3
  obtain ⟨W2, hW2⟩ : ∃ W2, w2.alloc (.cells #[.bool d3, .slice p3 l3 c3] 30) = W2 := ⟨_, rfl⟩
  have hB2 : Below w2.heap.size w2 W2 := by rw [← hW2]; exact (Below.refl _ _).alloc (Nat.le_refl _) _
  have bY : W2.heap[w2.heap.size]? = some (.cells #[.bool d3, .slice p3 l3 c3] 30) := by rw [← hW2]; exact World.alloc_heap_new w2 _
  have hb12 : Below W1.heap.size W1 W2 := hb2.trans (hB2.mono hb2.size)
  have bX2 := (hb12.block w1.heap.size (by omega)).trans bX
  have hS2 := hS1.next hb12
  have hr1'' := hr1'.below hb12
  have hr2' := hr2.below hB2
  obtain ⟨x0, x1, _, _⟩ := box_facts bX2
  obtain ⟨y0, y1, _, _⟩ := rbox_facts bY
  have HIs : Hid (Calls Tryd.prog 12 #[.agg #[.int .i64 n3, .pointer q3], .agg #[.bool d3, .slice p3 l3 c3]] W2 fun e w' => e = .returned (.bool true) ∧ Below W2.heap.size W2 w') := is_big z _ _ _ hr1'' hr2' (Duet.tab hS2) lz
  have HS2 : Hid (Duet W w.heap.size (w.heap.size + 1) n1 n2 q1 q2 d1 d2 p1 p2 l1 l2 c1 c2 x y W2) := hS2
  clear hS1 hr1' hr1'' hr2 hr2' hb12 hB2 bX bX2 bY hb1 hb2 hB1 hs1 hS2
  have lx' : (limbs x.natAbs).length ≤ 1000000 := by omega
  have ly' : (limbs y.natAbs).length ≤ 1000000 := by omega
  have lxy : (limbs (x + y).natAbs).length ≤ 1000000 := by have := len_addP lx ly; omega
  have sxy : (limbs (x - y).natAbs).length ≤ 1000000 := by have := len_subP lx ly; omega
  have mxy : (limbs (x * y).natAbs).length ≤ 1000000 := by have := len_mulP lx ly; omega
  have nx : (limbs (-x).natAbs).length ≤ 1000000 := by rw [Int.natAbs_neg]; exact lx'
  obtain ⟨cc, hcc⟩ : ∃ cc, cmpI x y = cc := ⟨_, rfl⟩
  obtain ⟨cd, hcd⟩ : ∃ cd, cmpI y x = cd := ⟨_, rfl⟩
  have Ec : Hid (cmpI x y = cc) := hcc
  have Ed : Hid (cmpI y x = cd) := hcd
  clear hcc hcd lx ly
  rcases hok with ⟨rfl, rfl⟩ | ⟨rfl, rfl⟩
  all_goals
    go_wp2_with (first
      | (go_at_call 11; go_in)
      | (go_at_call 12; refine calls_at HIs.out (by with_reducible rfl) (by with_reducible rfl) ?_; rintro e w3 ⟨rfl, hb3⟩))
    have hS3 := Duet.next HS2.out hb3
    have hT : Duet W w.heap.size (w.heap.size + 1) n1 n2 q1 q2 d1 d2 p1 p2 l1 l2 c1 c2 x y w3.drew := hS3.next (Below.refl _ _).drew
    clear hS3 hW2 x0 x1 y0 y1
    simp only [List.append_eq, List.cons_append, List.nil_append]
    go_region_held3 (fun w' => w'.cell? ⟨w.heap.size, 0, none⟩ = some (.int .i64 n1) ∧ w'.cell? ⟨w.heap.size, 1, none⟩ = some (.pointer q1) ∧ w'.cell? ⟨w.heap.size, 2, none⟩ = some (.bool d1) ∧ w'.cell? ⟨w.heap.size, 3, none⟩ = some (.slice p1 l1 c1) ∧ w'.cell? ⟨(w.heap.size + 1), 0, none⟩ = some (.int .i64 n2) ∧ w'.cell? ⟨(w.heap.size + 1), 1, none⟩ = some (.pointer q2) ∧ w'.cell? ⟨(w.heap.size + 1), 2, none⟩ = some (.bool d2) ∧ w'.cell? ⟨(w.heap.size + 1), 3, none⟩ = some (.slice p2 l2 c2) ∧ w.heap.size < w'.heap.size ∧ (w.heap.size + 1) < w'.heap.size ∧ Tab w' ∧ BigAt w' (.agg #[.int .i64 n1, .pointer q1]) x ∧ RefAt w' (.agg #[.bool d1, .slice p1 l1 c1]) x ∧ BigAt w' (.agg #[.int .i64 n2, .pointer q2]) y ∧ RefAt w' (.agg #[.bool d2, .slice p2 l2 c2]) y ∧ Below W.heap.size W w')
      (first | exact hT | (refine Duet.next (by assumption) (by assumption)))
      (first
      | (go_at_call 19; refine calls_at (add_big ?_ ?_ _ _ _ ?_ ?_ ?_ ?_) (by with_reducible rfl) (by with_reducible rfl) ?_; rotate_left 2; (first | exact Duet.pa (by assumption) | exact Duet.qa (by assumption) | with_reducible assumption | (refine BigAt.below ?_ (by assumption); with_reducible assumption) | (refine BigAt.below ?_ (by assumption); refine BigAt.below ?_ (by assumption); with_reducible assumption) | (refine BigAt.below ?_ (by assumption); refine BigAt.below ?_ (by assumption); refine BigAt.below ?_ (by assumption); with_reducible assumption)); (first | exact Duet.pa (by assumption) | exact Duet.qa (by assumption) | with_reducible assumption | (refine BigAt.below ?_ (by assumption); with_reducible assumption) | (refine BigAt.below ?_ (by assumption); refine BigAt.below ?_ (by assumption); with_reducible assumption) | (refine BigAt.below ?_ (by assumption); refine BigAt.below ?_ (by assumption); refine BigAt.below ?_ (by assumption); with_reducible assumption)); (with_reducible assumption); (with_reducible assumption); rintro e w' ⟨r, rfl, hr, hb⟩; obtain ⟨yr, qr, hrs⟩ := hr.shape; subst hrs)
      | (go_at_call 24; refine calls_at (refAdd_any ?_ ?_ _ _ _ ?_ ?_ ?_ ?_) (by with_reducible rfl) (by with_reducible rfl) ?_; rotate_left 2; (first | exact Duet.pb (by assumption) | exact Duet.qb (by assumption) | with_reducible assumption | (refine RefAt.below ?_ (by assumption); with_reducible assumption) | (refine RefAt.below ?_ (by assumption); refine RefAt.below ?_ (by assumption); with_reducible assumption) | (refine RefAt.below ?_ (by assumption); refine RefAt.below ?_ (by assumption); refine RefAt.below ?_ (by assumption); with_reducible assumption)); (first | exact Duet.pb (by assumption) | exact Duet.qb (by assumption) | with_reducible assumption | (refine RefAt.below ?_ (by assumption); with_reducible assumption) | (refine RefAt.below ?_ (by assumption); refine RefAt.below ?_ (by assumption); with_reducible assumption) | (refine RefAt.below ?_ (by assumption); refine RefAt.below ?_ (by assumption); refine RefAt.below ?_ (by assumption); with_reducible assumption)); (with_reducible assumption); (with_reducible assumption); rintro e w' ⟨r, rfl, hr, hb⟩; obtain ⟨br, pr, nr, cr, hrs⟩ := hr.shape; subst hrs)
      | (go_at_call 25; refine calls_at (sub_big ?_ ?_ _ _ _ ?_ ?_ ?_ ?_) (by with_reducible rfl) (by with_reducible rfl) ?_; rotate_left 2; (first | exact Duet.pa (by assumption) | exact Duet.qa (by assumption) | with_reducible assumption | (refine BigAt.below ?_ (by assumption); with_reducible assumption) | (refine BigAt.below ?_ (by assumption); refine BigAt.below ?_ (by assumption); with_reducible assumption) | (refine BigAt.below ?_ (by assumption); refine BigAt.below ?_ (by assumption); refine BigAt.below ?_ (by assumption); with_reducible assumption)); (first | exact Duet.pa (by assumption) | exact Duet.qa (by assumption) | with_reducible assumption | (refine BigAt.below ?_ (by assumption); with_reducible assumption) | (refine BigAt.below ?_ (by assumption); refine BigAt.below ?_ (by assumption); with_reducible assumption) | (refine BigAt.below ?_ (by assumption); refine BigAt.below ?_ (by assumption); refine BigAt.below ?_ (by assumption); with_reducible assumption)); (with_reducible assumption); (with_reducible assumption); rintro e w' ⟨r, rfl, hr, hb⟩; obtain ⟨yr, qr, hrs⟩ := hr.shape; subst hrs)
      | (go_at_call 26; refine calls_at (refSub_any ?_ ?_ _ _ _ ?_ ?_ ?_ ?_) (by with_reducible rfl) (by with_reducible rfl) ?_; rotate_left 2; (first | exact Duet.pb (by assumption) | exact Duet.qb (by assumption) | with_reducible assumption | (refine RefAt.below ?_ (by assumption); with_reducible assumption) | (refine RefAt.below ?_ (by assumption); refine RefAt.below ?_ (by assumption); with_reducible assumption) | (refine RefAt.below ?_ (by assumption); refine RefAt.below ?_ (by assumption); refine RefAt.below ?_ (by assumption); with_reducible assumption)); (first | exact Duet.pb (by assumption) | exact Duet.qb (by assumption) | with_reducible assumption | (refine RefAt.below ?_ (by assumption); with_reducible assumption) | (refine RefAt.below ?_ (by assumption); refine RefAt.below ?_ (by assumption); with_reducible assumption) | (refine RefAt.below ?_ (by assumption); refine RefAt.below ?_ (by assumption); refine RefAt.below ?_ (by assumption); with_reducible assumption)); (with_reducible assumption); (with_reducible assumption); rintro e w' ⟨r, rfl, hr, hb⟩; obtain ⟨br, pr, nr, cr, hrs⟩ := hr.shape; subst hrs)
      | (go_at_call 27; refine calls_at (mul_big ?_ ?_ _ _ _ ?_ ?_ ?_ ?_) (by with_reducible rfl) (by with_reducible rfl) ?_; rotate_left 2; (first | exact Duet.pa (by assumption) | exact Duet.qa (by assumption) | with_reducible assumption | (refine BigAt.below ?_ (by assumption); with_reducible assumption) | (refine BigAt.below ?_ (by assumption); refine BigAt.below ?_ (by assumption); with_reducible assumption) | (refine BigAt.below ?_ (by assumption); refine BigAt.below ?_ (by assumption); refine BigAt.below ?_ (by assumption); with_reducible assumption)); (first | exact Duet.pa (by assumption) | exact Duet.qa (by assumption) | with_reducible assumption | (refine BigAt.below ?_ (by assumption); with_reducible assumption) | (refine BigAt.below ?_ (by assumption); refine BigAt.below ?_ (by assumption); with_reducible assumption) | (refine BigAt.below ?_ (by assumption); refine BigAt.below ?_ (by assumption); refine BigAt.below ?_ (by assumption); with_reducible assumption)); (with_reducible assumption); (with_reducible assumption); rintro e w' ⟨r, rfl, hr, hb⟩; obtain ⟨yr, qr, hrs⟩ := hr.shape; subst hrs)
      | (go_at_call 28; refine calls_at (refMul_any ?_ ?_ _ _ _ ?_ ?_ ?_ ?_) (by with_reducible rfl) (by with_reducible rfl) ?_; rotate_left 2; (first | exact Duet.pb (by assumption) | exact Duet.qb (by assumption) | with_reducible assumption | (refine RefAt.below ?_ (by assumption); with_reducible assumption) | (refine RefAt.below ?_ (by assumption); refine RefAt.below ?_ (by assumption); with_reducible assumption) | (refine RefAt.below ?_ (by assumption); refine RefAt.below ?_ (by assumption); refine RefAt.below ?_ (by assumption); with_reducible assumption)); (first | exact Duet.pb (by assumption) | exact Duet.qb (by assumption) | with_reducible assumption | (refine RefAt.below ?_ (by assumption); with_reducible assumption) | (refine RefAt.below ?_ (by assumption); refine RefAt.below ?_ (by assumption); with_reducible assumption) | (refine RefAt.below ?_ (by assumption); refine RefAt.below ?_ (by assumption); refine RefAt.below ?_ (by assumption); with_reducible assumption)); (with_reducible assumption); (with_reducible assumption); rintro e w' ⟨r, rfl, hr, hb⟩; obtain ⟨br, pr, nr, cr, hrs⟩ := hr.shape; subst hrs)
      | (go_at_call 22; refine calls_at (neg_big ?_ _ _ ?_) (by with_reducible rfl) (by with_reducible rfl) ?_; rotate_left 1; (first | exact Duet.pa (by assumption) | exact Duet.qa (by assumption) | with_reducible assumption | (refine BigAt.below ?_ (by assumption); with_reducible assumption) | (refine BigAt.below ?_ (by assumption); refine BigAt.below ?_ (by assumption); with_reducible assumption) | (refine BigAt.below ?_ (by assumption); refine BigAt.below ?_ (by assumption); refine BigAt.below ?_ (by assumption); with_reducible assumption)); rintro e w' ⟨r, rfl, hr, hb⟩; obtain ⟨yr, qr, hrs⟩ := hr.shape; subst hrs)
      | (go_at_call 23; refine calls_at (opposite_any ?_ _ _ ?_) (by with_reducible rfl) (by with_reducible rfl) ?_; rotate_left 1; (first | exact Duet.pb (by assumption) | exact Duet.qb (by assumption) | with_reducible assumption | (refine RefAt.below ?_ (by assumption); with_reducible assumption) | (refine RefAt.below ?_ (by assumption); refine RefAt.below ?_ (by assumption); with_reducible assumption) | (refine RefAt.below ?_ (by assumption); refine RefAt.below ?_ (by assumption); refine RefAt.below ?_ (by assumption); with_reducible assumption)); rintro e w' ⟨r, rfl, hr, hb⟩; obtain ⟨br, pr, nr, cr, hrs⟩ := hr.shape; subst hrs)
      | (go_at_call 18; refine calls_at (cmp_big ?_ ?_ _ _ _ ?_ ?_ ?_) (by with_reducible rfl) (by with_reducible rfl) ?_; rotate_left 2; (first | exact Duet.pa (by assumption) | exact Duet.qa (by assumption) | with_reducible assumption | (refine BigAt.below ?_ (by assumption); with_reducible assumption) | (refine BigAt.below ?_ (by assumption); refine BigAt.below ?_ (by assumption); with_reducible assumption) | (refine BigAt.below ?_ (by assumption); refine BigAt.below ?_ (by assumption); refine BigAt.below ?_ (by assumption); with_reducible assumption)); (first | exact Duet.pa (by assumption) | exact Duet.qa (by assumption) | with_reducible assumption | (refine BigAt.below ?_ (by assumption); with_reducible assumption) | (refine BigAt.below ?_ (by assumption); refine BigAt.below ?_ (by assumption); with_reducible assumption) | (refine BigAt.below ?_ (by assumption); refine BigAt.below ?_ (by assumption); refine BigAt.below ?_ (by assumption); with_reducible assumption)); (with_reducible assumption); rintro e w' ⟨rfl, hb⟩; first | rw [Ec.out] | rw [Ed.out])
      | (go_at_call 52; refine calls_at (refCmp_any ?_ ?_ _ _ _ ?_ ?_) (by with_reducible rfl) (by with_reducible rfl) ?_; rotate_left 2; (first | exact Duet.pb (by assumption) | exact Duet.qb (by assumption) | with_reducible assumption | (refine RefAt.below ?_ (by assumption); with_reducible assumption) | (refine RefAt.below ?_ (by assumption); refine RefAt.below ?_ (by assumption); with_reducible assumption) | (refine RefAt.below ?_ (by assumption); refine RefAt.below ?_ (by assumption); refine RefAt.below ?_ (by assumption); with_reducible assumption)); (first | exact Duet.pb (by assumption) | exact Duet.qb (by assumption) | with_reducible assumption | (refine RefAt.below ?_ (by assumption); with_reducible assumption) | (refine RefAt.below ?_ (by assumption); refine RefAt.below ?_ (by assumption); with_reducible assumption) | (refine RefAt.below ?_ (by assumption); refine RefAt.below ?_ (by assumption); refine RefAt.below ?_ (by assumption); with_reducible assumption)); rintro e w' ⟨rfl, hb⟩; first | rw [Ec.out] | rw [Ed.out])
      | (go_at_call 12; refine calls_at (is_big ?_ _ _ _ ?_ ?_ ?_ ?_) (by with_reducible rfl) (by with_reducible rfl) ?_; rotate_left 1; (first | exact Duet.pa (by assumption) | exact Duet.qa (by assumption) | with_reducible assumption | (refine BigAt.below ?_ (by assumption); with_reducible assumption) | (refine BigAt.below ?_ (by assumption); refine BigAt.below ?_ (by assumption); with_reducible assumption) | (refine BigAt.below ?_ (by assumption); refine BigAt.below ?_ (by assumption); refine BigAt.below ?_ (by assumption); with_reducible assumption)); (first | exact Duet.pb (by assumption) | exact Duet.qb (by assumption) | with_reducible assumption | (refine RefAt.below ?_ (by assumption); with_reducible assumption) | (refine RefAt.below ?_ (by assumption); refine RefAt.below ?_ (by assumption); with_reducible assumption) | (refine RefAt.below ?_ (by assumption); refine RefAt.below ?_ (by assumption); refine RefAt.below ?_ (by assumption); with_reducible assumption)); (exact Duet.tab (by assumption)); (with_reducible assumption); rintro e w' ⟨rfl, hb⟩)
      | (go_at_call 31; refine calls_at (pairOk_any x _ _ _ _ _ _ _ (Duet.pa (by assumption)) (Duet.pb (by assumption)) (Duet.tab (by assumption)) lx') (by with_reducible rfl) (by with_reducible rfl) ?_; rintro e w' ⟨rfl, hb⟩)
      | (go_at_call 31; refine calls_at (pairOk_any y _ _ _ _ _ _ _ (Duet.qa (by assumption)) (Duet.qb (by assumption)) (Duet.tab (by assumption)) ly') (by with_reducible rfl) (by with_reducible rfl) ?_; rintro e w' ⟨rfl, hb⟩))
    rename_i hHeld
    have hT2 : Duet W w.heap.size (w.heap.size + 1) n1 n2 q1 q2 d1 d2 p1 p2 l1 l2 c1 c2 x y w'.drew := Duet.next hHeld (Below.refl _ _).drew
    have hT3 : Duet W w.heap.size (w.heap.size + 1) n1 n2 q1 q2 d1 d2 p1 p2 l1 l2 c1 c2 x y w' := hHeld
    obtain ⟨a0, a1, a2, a3, b0, b1, b2, b3, _⟩ := id hT3
    clear hT hHeld
    go_wp2_with fail
    refine (pairOk_any x _ _ _ _ _ _ _ (Duet.pa hT3) (Duet.pb hT3) (Duet.tab hT3) lx').mono ?_
    rintro e w5 ⟨rfl, hb5⟩
    have hT5 := Duet.next hT3 hb5
    clear a0 a1 a2 a3 b0 b1 b2 b3 hT2
    obtain ⟨_, _, _, _, b0, b1, b2, b3, _⟩ := id hT5
    go_wp2_with fail
    refine (pairOk_any y _ _ _ _ _ _ _ (Duet.qa hT5) (Duet.qb hT5) (Duet.tab hT5) ly').mono ?_
    rintro e w6 ⟨rfl, hb6⟩
    have hfin : Below w.heap.size w w6 := KW.out.trans ((Duet.rest (hT5.next hb6)).mono KW.out.size)
    go_wp2
    go_ret
    exact ⟨rfl, hfin⟩
end Go.Proofs.YtangepgiamhenaaDoor

namespace Go.Proofs.YtangepgiamhenaaDoor
open Go.RowKit
open Bn (limbs)

theorem two_full (x y : Int) (n1 n2 : Int) (q1 q2 : Option Addr) (d1 d2 : Bool) (p1 p2 : Option Addr) (l1 l2 c1 c2 : Nat) (w : World)
    (ha : BigAt w (.agg #[.int .i64 n1, .pointer q1]) x) (hb : RefAt w (.agg #[.bool d1, .slice p1 l1 c1]) x) (hc : BigAt w (.agg #[.int .i64 n2, .pointer q2]) y) (hd : RefAt w (.agg #[.bool d2, .slice p2 l2 c2]) y) (ht : Tab w) (lx : (limbs x.natAbs).length ≤ 3000) (ly : (limbs y.natAbs).length ≤ 3000) :
    Calls Tryd.prog 20 #[.agg #[.int .i64 n1, .pointer q1, .bool d1, .slice p1 l1 c1], .agg #[.int .i64 n2, .pointer q2, .bool d2, .slice p2 l2 c2]] w fun e w' => e = .returned (.bool true) ∧ Below w.heap.size w w' := by
  by_cases hy : y < 1
  · refine two_any x y 0 11 false n1 n2 q1 q2 d1 d2 p1 p2 l1 l2 c1 c2 w ha hb hc hd ht lx ly (by decide) (fun w' va vb h1 h2 => ?_) (fun w' va vb h1 h2 => refDivUp_none x y va vb w' h1 h2 hy) (.inr ⟨rfl, rfl⟩)
    refine (divUp_none x y va vb w' h1 h2 hy).mono ?_
    rintro e w'' ⟨rfl, hb'⟩
    exact ⟨_, rfl, .inl ⟨by unfold Fits; omega, rfl⟩, hb'⟩
  · have hy' : 0 < y := by omega
    refine two_any x y (divUpI x y) 0 true n1 n2 q1 q2 d1 d2 p1 p2 l1 l2 c1 c2 w ha hb hc hd ht lx ly ?_ (fun w' va vb h1 h2 => divUp_big x y va vb w' h1 h2 (by omega) hy') (fun w' va vb h1 h2 => refDivUp_any x y va vb w' h1 h2 (by omega) (by omega) hy') (.inl ⟨rfl, rfl⟩)
    have h3 : (limbs x.natAbs).length ≤ 1000000 := by omega
    refine limbs_mono ?_ h3
    have h1 := divUpI_bound (a := x) hy'
    rcases Int.le_total 0 x with h | h
    · have := h1.1 h; omega
    · have := h1.2 h; omega

/-- What stays of the four boxes that the pairs are made of. -/
def Four (M A B C D : Nat) (n1 n2 : Int) (q1 q2 : Option Addr) (d1 d2 : Bool) (s1 s2 : Value) (w' : World) : Prop :=
  w'.cell? ⟨A, 0, none⟩ = some (.int .i64 n1) ∧ w'.cell? ⟨A, 1, none⟩ = some (.pointer q1) ∧ w'.cell? ⟨B, 0, none⟩ = some (.bool d1) ∧ w'.cell? ⟨B, 1, none⟩ = some s1 ∧
  w'.cell? ⟨C, 0, none⟩ = some (.int .i64 n2) ∧ w'.cell? ⟨C, 1, none⟩ = some (.pointer q2) ∧ w'.cell? ⟨D, 0, none⟩ = some (.bool d2) ∧ w'.cell? ⟨D, 1, none⟩ = some s2 ∧ M ≤ w'.heap.size ∧ A < M ∧ B < M ∧ C < M ∧ D < M
theorem Four.alloc {M A B C D : Nat} {n1 n2 : Int} {q1 q2 : Option Addr} {d1 d2 : Bool} {s1 s2 : Value} {w' : World} (h : Four M A B C D n1 n2 q1 q2 d1 d2 s1 s2 w') (o : Obj) : Four M A B C D n1 n2 q1 q2 d1 d2 s1 s2 (w'.alloc o) := by
  obtain ⟨h1, h2, h3, h4, h5, h6, h7, h8, h9, hA, hB, hC, hD⟩ := h
  exact ⟨(World.cell?_alloc_past o A 0 (by omega)).trans h1, (World.cell?_alloc_past o A 1 (by omega)).trans h2, (World.cell?_alloc_past o B 0 (by omega)).trans h3, (World.cell?_alloc_past o B 1 (by omega)).trans h4, (World.cell?_alloc_past o C 0 (by omega)).trans h5, (World.cell?_alloc_past o C 1 (by omega)).trans h6, (World.cell?_alloc_past o D 0 (by omega)).trans h7, (World.cell?_alloc_past o D 1 (by omega)).trans h8, by simp; omega, hA, hB, hC, hD⟩
theorem four_alloc {M A B C D : Nat} {n1 n2 : Int} {q1 q2 : Option Addr} {d1 d2 : Bool} {s1 s2 : Value} {w' : World} (h : (w'.drew).cell? ⟨A, 0, none⟩ = some (.int .i64 n1) ∧ (w'.drew).cell? ⟨A, 1, none⟩ = some (.pointer q1) ∧ (w'.drew).cell? ⟨B, 0, none⟩ = some (.bool d1) ∧ (w'.drew).cell? ⟨B, 1, none⟩ = some s1 ∧ (w'.drew).cell? ⟨C, 0, none⟩ = some (.int .i64 n2) ∧ (w'.drew).cell? ⟨C, 1, none⟩ = some (.pointer q2) ∧ (w'.drew).cell? ⟨D, 0, none⟩ = some (.bool d2) ∧ (w'.drew).cell? ⟨D, 1, none⟩ = some s2 ∧ M ≤ (w'.drew).heap.size ∧ A < M ∧ B < M ∧ C < M ∧ D < M) (o : Obj) : ((w'.alloc o).drew).cell? ⟨A, 0, none⟩ = some (.int .i64 n1) ∧ ((w'.alloc o).drew).cell? ⟨A, 1, none⟩ = some (.pointer q1) ∧ ((w'.alloc o).drew).cell? ⟨B, 0, none⟩ = some (.bool d1) ∧ ((w'.alloc o).drew).cell? ⟨B, 1, none⟩ = some s1 ∧ ((w'.alloc o).drew).cell? ⟨C, 0, none⟩ = some (.int .i64 n2) ∧ ((w'.alloc o).drew).cell? ⟨C, 1, none⟩ = some (.pointer q2) ∧ ((w'.alloc o).drew).cell? ⟨D, 0, none⟩ = some (.bool d2) ∧ ((w'.alloc o).drew).cell? ⟨D, 1, none⟩ = some s2 ∧ M ≤ ((w'.alloc o).drew).heap.size ∧ A < M ∧ B < M ∧ C < M ∧ D < M := Four.alloc (w' := w') h o

set_option maxRecDepth 100000 in
set_option maxHeartbeats 4000000 in
theorem bigTwo_walk (s t : ByteArray) (x y e1 e2 : Int) (o1 o2 : Bool) (w : World) (ht : Tab w) (hs : s.size ≤ 3000) (htt : t.size ≤ 3000)
    (HP1 : Hid (∀ w, Calls Tryd.prog 9 #[.string s] w fun e w' => ∃ v, e = .returned (.tuple #[v, .int .i64 e1]) ∧ BigAt w' v x ∧ Below w.heap.size w w'))
    (HP2 : Hid (∀ w, Calls Tryd.prog 9 #[.string t] w fun e w' => ∃ v, e = .returned (.tuple #[v, .int .i64 e2]) ∧ BigAt w' v y ∧ Below w.heap.size w w'))
    (HR1 : Hid (∀ w, Calls Tryd.prog 10 #[.string s] w fun e w' => ∃ v, e = .returned (.tuple #[v, .bool o1]) ∧ RefAt w' v x ∧ Below w.heap.size w w'))
    (HR2 : Hid (∀ w, Calls Tryd.prog 10 #[.string t] w fun e w' => ∃ v, e = .returned (.tuple #[v, .bool o2]) ∧ RefAt w' v y ∧ Below w.heap.size w w'))
    (lx : (limbs x.natAbs).length ≤ 3000) (ly : (limbs y.natAbs).length ≤ 3000) (h1 : e1 = 0 ∧ o1 = true ∨ e1 = 10 ∧ o1 = false) (h2 : e2 = 0 ∧ o2 = true ∨ e2 = 10 ∧ o2 = false) :
    Calls Tryd.prog 5 #[.string s, .string t] w fun e w' => e = .returned (.bool true) ∧ Below w.heap.size w w' := by
  have hsI : ¬ (3000 : Int) < (s.size : Int) := by omega
  have htI : ¬ (3000 : Int) < (t.size : Int) := by omega
  clear hs htt
  go_enter Tryd.func5, Tryd.ntmps5
  go_wp2_with fail
  refine (HP1.out _).mono ?_
  rintro e w1 ⟨va, rfl, hA, hb1⟩
  obtain ⟨n1, q1, rfl⟩ := hA.shape
  go_wp2_with fail
  generalize hW1 : w1.alloc (.cells #[.int .i64 n1, .pointer q1] 24) = W1
  obtain ⟨bA, hB1, hs1⟩ := new_box w1 n1 q1 hW1
  clear hW1
  refine (HP2.out _).mono ?_
  rintro e w2 ⟨vc, rfl, hC, hb2⟩
  obtain ⟨n2, q2, rfl⟩ := hC.shape
  go_wp2_with fail
  generalize hW2 : w2.alloc (.cells #[.int .i64 n2, .pointer q2] 24) = W2
  obtain ⟨bC, hB2, hs2⟩ := new_box w2 n2 q2 hW2
  clear hW2
  refine (HR1.out _).mono ?_
  rintro e w3 ⟨vb, rfl, hRb, hb3⟩
  obtain ⟨d1, p1, l1, c1, rfl⟩ := hRb.shape
  go_wp2_with fail
  obtain ⟨W3, hW3⟩ : ∃ W3, w3.alloc (.cells #[.bool d1, .slice p1 l1 c1] 30) = W3 := ⟨_, rfl⟩
  have hB3 : Below w3.heap.size w3 W3 := by rw [← hW3]; exact (Below.refl _ _).alloc (Nat.le_refl _) _
  have bB : W3.heap[w3.heap.size]? = some (.cells #[.bool d1, .slice p1 l1 c1] 30) := by rw [← hW3]; exact World.alloc_heap_new w3 _
  have hs3 : W3.heap.size = w3.heap.size + 1 := by rw [← hW3]; simp
  rw [hW3]
  clear hW3
  refine (HR2.out _).mono ?_
  rintro e w4 ⟨vd, rfl, hRd, hb4⟩
  obtain ⟨d2, p2, l2, c2, rfl⟩ := hRd.shape
  obtain ⟨W4, hW4⟩ : ∃ W4, w4.alloc (.cells #[.bool d2, .slice p2 l2 c2] 30) = W4 := ⟨_, rfl⟩
  have hB4 : Below w4.heap.size w4 W4 := by rw [← hW4]; exact (Below.refl _ _).alloc (Nat.le_refl _) _
  have bD : W4.heap[w4.heap.size]? = some (.cells #[.bool d2, .slice p2 l2 c2] 30) := by rw [← hW4]; exact World.alloc_heap_new w4 _
  have hs4 : W4.heap.size = w4.heap.size + 1 := by rw [← hW4]; simp
  have k3 : Below W3.heap.size W3 W4 := hb4.trans (hB4.mono hb4.size)
  have k2 : Below W2.heap.size W2 W4 := (hb3.trans (hB3.mono hb3.size)).trans (k3.mono (Nat.le_trans hb3.size hB3.size))
  have k1 : Below W1.heap.size W1 W4 := (hb2.trans (hB2.mono hb2.size)).trans (k2.mono (Nat.le_trans hb2.size hB2.size))
  have kw : Below w.heap.size w W4 := (hb1.trans (hB1.mono hb1.size)).trans (k1.mono (Nat.le_trans hb1.size hB1.size))
  obtain ⟨a0, a1, _, _⟩ := box_facts ((k1.block w1.heap.size (by omega)).trans bA)
  obtain ⟨e0, e1', _, _⟩ := box_facts ((k2.block w2.heap.size (by omega)).trans bC)
  obtain ⟨b0, b1, _, _⟩ := rbox_facts ((k3.block w3.heap.size (by omega)).trans bB)
  obtain ⟨f0, f1, _, _⟩ := rbox_facts bD
  have HA4 : Hid (BigAt W4 (.agg #[.int .i64 n1, .pointer q1]) x) := (hA.below hB1).below k1
  have HC4 : Hid (BigAt W4 (.agg #[.int .i64 n2, .pointer q2]) y) := (hC.below hB2).below k2
  have HB4 : Hid (RefAt W4 (.agg #[.bool d1, .slice p1 l1 c1]) x) := (hRb.below hB3).below k3
  have HD4 : Hid (RefAt W4 (.agg #[.bool d2, .slice p2 l2 c2]) y) := hRd.below hB4
  have HT4 : Hid (Tab W4) := ht.below kw ht.2
  have KW : Hid (Below w.heap.size w W4) := kw
  have g1 := k1.size
  have g2 := k2.size
  have g3 := k3.size
  have hF : Four W4.heap.size w1.heap.size w3.heap.size w2.heap.size w4.heap.size n1 n2 q1 q2 d1 d2 (.slice p1 l1 c1) (.slice p2 l2 c2) W4.drew := ⟨a0, a1, b0, b1, e0, e1', f0, f1, Nat.le_refl _, by omega, by omega, by omega, by omega⟩
  clear g1 g2 g3
  clear hb1 hb2 hb3 hb4 hB1 hB2 hB3 hB4 k1 k2 k3 kw bA bC bB bD hA hC hRb hRd ht hs1 hs2 hs3 hs4 HP1 HP2 HR1 HR2
  rcases h1 with ⟨rfl, rfl⟩ | ⟨rfl, rfl⟩ <;> rcases h2 with ⟨rfl, rfl⟩ | ⟨rfl, rfl⟩
  all_goals
    have hF' := hF
    unfold Four at hF'
    go_wp2_with (go_at_call 11; go_in)
    go_region_held3 (fun w' => w'.cell? ⟨w1.heap.size, 0, none⟩ = some (.int .i64 n1) ∧ w'.cell? ⟨w1.heap.size, 1, none⟩ = some (.pointer q1) ∧ w'.cell? ⟨w3.heap.size, 0, none⟩ = some (.bool d1) ∧ w'.cell? ⟨w3.heap.size, 1, none⟩ = some (.slice p1 l1 c1) ∧ w'.cell? ⟨w2.heap.size, 0, none⟩ = some (.int .i64 n2) ∧ w'.cell? ⟨w2.heap.size, 1, none⟩ = some (.pointer q2) ∧ w'.cell? ⟨w4.heap.size, 0, none⟩ = some (.bool d2) ∧ w'.cell? ⟨w4.heap.size, 1, none⟩ = some (.slice p2 l2 c2) ∧ W4.heap.size ≤ w'.heap.size ∧ w1.heap.size < W4.heap.size ∧ w3.heap.size < W4.heap.size ∧ w2.heap.size < W4.heap.size ∧ w4.heap.size < W4.heap.size)
      (first | with_reducible exact hF' | with_reducible exact four_alloc hF' _ | with_reducible exact four_alloc (four_alloc hF' _) _)
      (fail)
    rename_i hHeld
    clear hHeld
    generalize hV : (W4.alloc (.cells #[.int .i64 n1, .pointer q1, .bool d1, .slice p1 l1 c1] 46)).alloc (.cells #[.int .i64 n2, .pointer q2, .bool d2, .slice p2 l2 c2] 46) = V
    obtain ⟨v1, v2, hBV, hsV⟩ := two_objs W4 _ _ hV
    have hS : Duet V (W4.heap.size) (W4.heap.size + 1) n1 n2 q1 q2 d1 d2 p1 p2 l1 l2 c1 c2 x y V.drew := by
      refine ⟨?_, ?_, ?_, ?_, ?_, ?_, ?_, ?_, by show _ < V.heap.size; omega, by show _ < V.heap.size; omega, (HT4.out.below hBV.drew HT4.out.2), (HA4.out.below hBV).below (Below.refl _ _).drew, (HB4.out.below hBV).below (Below.refl _ _).drew, (HC4.out.below hBV).below (Below.refl _ _).drew, (HD4.out.below hBV).below (Below.refl _ _).drew, (Below.refl _ _).drew⟩ <;> (show V.cell? _ = _; simp [World.cell?, v1, v2])
    have KV : Hid (Below w.heap.size w V) := KW.out.trans (hBV.mono KW.out.size)
    clear hV v1 v2 hBV hsV
    rotate_left 1
    rename_i hHeld
    clear hHeld
    generalize hV : (W4.alloc (.cells #[.int .i64 n2, .pointer q2, .bool d2, .slice p2 l2 c2] 46)).alloc (.cells #[.int .i64 n1, .pointer q1, .bool d1, .slice p1 l1 c1] 46) = V
    obtain ⟨v1, v2, hBV, hsV⟩ := two_objs W4 _ _ hV
    have hS : Duet V (W4.heap.size + 1) (W4.heap.size) n1 n2 q1 q2 d1 d2 p1 p2 l1 l2 c1 c2 x y V.drew := by
      refine ⟨?_, ?_, ?_, ?_, ?_, ?_, ?_, ?_, by show _ < V.heap.size; omega, by show _ < V.heap.size; omega, (HT4.out.below hBV.drew HT4.out.2), (HA4.out.below hBV).below (Below.refl _ _).drew, (HB4.out.below hBV).below (Below.refl _ _).drew, (HC4.out.below hBV).below (Below.refl _ _).drew, (HD4.out.below hBV).below (Below.refl _ _).drew, (Below.refl _ _).drew⟩ <;> (show V.cell? _ = _; simp [World.cell?, v1, v2])
    have KV : Hid (Below w.heap.size w V) := KW.out.trans (hBV.mono KW.out.size)
    clear hV v1 v2 hBV hsV
    rotate_left 1
    all_goals
      obtain ⟨a0, a1, a2, a3, b0, b1, b2, b3, _⟩ := id hS
      clear hF hF' hW4
      go_wp2_with (first
        | (go_at_call 20; refine calls_at (two_full x y _ _ _ _ _ _ _ _ _ _ _ _ _ (Duet.pa hS) (Duet.pb hS) (Duet.qa hS) (Duet.qb hS) (Duet.tab hS) lx ly) (by with_reducible rfl) (by with_reducible rfl) ?_; rintro e w' ⟨rfl, hb⟩; have hS := Duet.next hS hb; obtain ⟨a0, a1, a2, a3, b0, b1, b2, b3, _⟩ := id hS)
        | (go_at_call 20; refine calls_at (two_full y x _ _ _ _ _ _ _ _ _ _ _ _ _ (Duet.qa hS) (Duet.qb hS) (Duet.pa hS) (Duet.pb hS) (Duet.tab hS) ly lx) (by with_reducible rfl) (by with_reducible rfl) ?_; rintro e w' ⟨rfl, hb⟩; have hS := Duet.next hS hb; obtain ⟨a0, a1, a2, a3, b0, b1, b2, b3, _⟩ := id hS)
        | (go_at_call 20; refine calls_at (two_full x x _ _ _ _ _ _ _ _ _ _ _ _ _ (Duet.pa hS) (Duet.pb hS) (Duet.pa hS) (Duet.pb hS) (Duet.tab hS) lx lx) (by with_reducible rfl) (by with_reducible rfl) ?_; rintro e w' ⟨rfl, hb⟩; have hS := Duet.next hS hb; obtain ⟨a0, a1, a2, a3, b0, b1, b2, b3, _⟩ := id hS)
        | (go_at_call 20; refine calls_at (two_full y y _ _ _ _ _ _ _ _ _ _ _ _ _ (Duet.qa hS) (Duet.qb hS) (Duet.qa hS) (Duet.qb hS) (Duet.tab hS) ly ly) (by with_reducible rfl) (by with_reducible rfl) ?_; rintro e w' ⟨rfl, hb⟩; have hS := Duet.next hS hb; obtain ⟨a0, a1, a2, a3, b0, b1, b2, b3, _⟩ := id hS))
      go_ret
      exact ⟨rfl, KV.out.trans ((Duet.rest hS).mono KV.out.size)⟩
end Go.Proofs.YtangepgiamhenaaDoor

namespace Go.Proofs.YtangepgiamhenaaDoor
open Go.ChangeShapes Go.WideShapes Go.ChangeAt Go.RowKit
open Go.ChangeMaps (open_string shut_string)
open Bn (limbs)

set_option maxRecDepth 100000 in
set_option maxHeartbeats 1000000 in
/-- BigTwo, where a text is too long. -/
theorem bigTwo_long (s t : ByteArray) (w : World) (h : 3000 < s.size ∨ 3000 < t.size) :
    Calls Tryd.prog 5 #[.string s, .string t] w fun e w' => e = .returned (.bool true) ∧ Below w.heap.size w w' := by
  by_cases h1 : 3000 < s.size
  · have hsI : (3000 : Int) < (s.size : Int) := by omega
    go_enter Tryd.func5, Tryd.ntmps5
    go_wp2
    go_ret
    exact ⟨rfl, Below.refl _ _⟩
  · have hsI : ¬ (3000 : Int) < (s.size : Int) := by omega
    have htI : (3000 : Int) < (t.size : Int) := by omega
    go_enter Tryd.func5, Tryd.ntmps5
    go_wp2
    go_ret
    exact ⟨rfl, Below.refl _ _⟩

theorem err_some (o : Option Int) : errOf o = 0 ∧ o.isSome = true ∨ errOf o = 10 ∧ o.isSome = false := by
  cases o
  · exact .inr ⟨rfl, rfl⟩
  · exact .inl ⟨rfl, rfl⟩

theorem bigTwo_any (s t : ByteArray) (w : World) (ht : Tab w) :
    Calls Tryd.prog 5 #[.string s, .string t] w fun e w' => e = .returned (.bool true) ∧ Below w.heap.size w w' := by
  by_cases h : 3000 < s.size ∨ 3000 < t.size
  · exact bigTwo_long s t w h
  · have hs : s.size ≤ 3000 := by omega
    have htt : t.size ≤ 3000 := by omega
    have lx : (limbs ((parseZ s.data.toList).getD 0).natAbs).length ≤ 3000 := by
      have h1 := parse_len s.data.toList
      have h2 : s.data.toList.length = s.size := by simp
      omega
    have ly : (limbs ((parseZ t.data.toList).getD 0).natAbs).length ≤ 3000 := by
      have h1 := parse_len t.data.toList
      have h2 : t.data.toList.length = t.size := by simp
      omega
    exact bigTwo_walk s t _ _ _ _ _ _ w ht hs htt (fun w => parse_any s w (by omega)) (fun w => parse_any t w (by omega)) (fun w => refParse_any s w (by omega)) (fun w => refParse_any t w (by omega)) lx ly (err_some _) (err_some _)

set_option maxRecDepth 100000 in
theorem bigTwo_lifted (os : Os) (started : os.Started) (H : Type) (enc : TypeId × Value → H) :
    ReturnsInHanded {} Tryd.checked os 5 .any (fun w args => (Rows.bigTwoSpec.pre enc Tryd.prog Tryd.f5 [] false w args ∧ laidMetH Tryd.prog laid3 w) ∧ sizedMet enc Tryd.prog Tryd.f5 (OpenSpec.ofChange Rows.bigTwoSpec) false w args)
      (Rows.bigTwoSpec.post enc Tryd.prog Tryd.f5 false true false false) := by
  refine returnsInHanded_of_change_and (C := Tryd.checked) (X := fun w _ => laidMetH Tryd.prog laid3 w) (fun _ _ _ hh h => h.of_heap hh) own started (by kernel_rfl) Tryd.func5
    (ChangeSpec.witness_shaped (enc := enc) (C := Tryd.checked) (os := os) (X := fun w _ => laidMetH Tryd.prog laid3 w) false (World.doorLaid Tryd.prog 400 os) #[.string ⟨#[]⟩, .string ⟨#[]⟩] 8 rfl (World.shaped_of_RefB (by kernel_rfl) (by kernel_rfl)) (by kernel_rfl) (by kernel_rfl) (by kernel_rfl) (door_met os _)) ?_
  intro W base args ds gs before hval0 hW _ _ hL _
  have hval : ∀ (j : Nat) t v, Tryd.f5.params[j]? = some t → args[j]? = some v → Value.okWide Tryd.prog W .any base t v := hval0
  have hW' := hW
  obtain ⟨p, q, hA0, hV, rfl, hfz, hnd⟩ := hW
  have hA : DataW.TrodAll enc Tryd.prog W 0 (fun _ => true) true Tryd.f5.params.toList args.toList ds p := hA0
  rw [Tryd.params5] at hA hval
  obtain ⟨v0, v1, d0, d1, p0, p1, rfl, rfl, rfl, h0, h1⟩ := trodAll_two hA
  obtain ⟨rfl, rfl⟩ := trodVars_none hV
  obtain ⟨a0, rfl, rfl, rfl, w0⟩ := open_string Tryd.underlying9 (hval 0 9 v0 rfl rfl) h0
  obtain ⟨a1, rfl, rfl, rfl, w1⟩ := open_string Tryd.underlying9 (hval 1 9 v1 rfl rfl) h1
  clear hA0 hval0
  simp only [List.append_nil] at hW'
  refine (bigTwo_any a0 a1 W (tab_of_laid hL)).mono fun e W' ⟨he, hb⟩ => ?_
  subst he
  refine ⟨_, rfl, _, _, _, [], [], [], hW', ?_, ?_, rfl, hb.frame _, fun h => by cases h⟩
  · exact trodAll_mk1 (shut_bool Tryd.underlying4 _)
  · exact trodAll_mk2 (shut_string Tryd.underlying9 w0) (shut_string Tryd.underlying9 w1)

theorem bigTwo_row : Rows.BigTwoSaid :=
  OpenClaim.holds_of_wide 5 Tryd.f5 rfl rfl rfl rfl rfl rfl rfl ⟨rfl, rfl, rfl, rfl, rfl⟩ rfl rfl rfl rfl rfl (by kernel_rfl) Tryd.func5 (by kernel_rfl)
    (of_decide_eq_true (by kernel_rfl)) (by unfold Func.isWrapper; first | (rw [if_pos (by decide +kernel)]; kernel_rfl) | (rw [if_neg (by decide +kernel)]; exact ⟨rfl, rfl⟩))
    (fun os started H enc _ => bigTwo_lifted os started H enc)

/-- The statement. -/
theorem bigTwo_holds : Rows.BigTwoCardSaid :=
  Claim7.holds_tied_plain_at .later [] [.data, .data, .data] true (true, "5a5df85e1cf99a72e39d10f06d12b3f48c6686ba944ce6c46bfa08f2b9904a62") false
    bigTwo_row (fun _ h => by cases h) (by kernel_rfl) (fun _ h => by cases h) bigTwo_row_tie rfl ⟨rfl, rfl⟩ (by kernel_rfl) rfl
    (fun f fn hf hfn => by
      obtain rfl : f = 5 := Option.some.inj ((show Tryd.prog.funcNamed "hallmark/hallmarklaw1.BigTwo" = some 5 by kernel_rfl).symm.trans hf) |>.symm
      obtain rfl : fn = Tryd.f5 := (Option.some.inj (Tryd.func5.symm.trans hfn)).symm
      exact ⟨by kernel_rfl, fun j t ht => by
        rw [Tryd.params5] at ht
        have hm : t ∈ [9, 9] := by simpa using Array.mem_of_getElem? ht
        have hall : ([9, 9].all fun u => !Tryd.prog.wantsStandIn u) = true := by kernel_rfl
        exact (show Tryd.prog.wantsStandIn t = false by simpa using List.all_eq_true.1 hall t hm)⟩)
    (by kernel_rfl)

end Go.Proofs.YtangepgiamhenaaDoor
