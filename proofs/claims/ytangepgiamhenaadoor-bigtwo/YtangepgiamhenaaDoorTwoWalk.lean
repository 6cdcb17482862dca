/-
  BigTwo: the walk.
-/
import Derived.Test.YtangepgiamhenaaDoorPair
import Derived.Test.YtangepgiamhenaaDoorParsesWalk
namespace Go.Proofs.YtangepgiamhenaaDoor
open Go.RowKit
open Bn (limbs)

theorem two_full (x y : Int) (n1 n2 : Int) (q1 q2 : Option Addr) (d1 d2 : Bool) (p1 p2 : Option Addr) (l1 l2 c1 c2 : Nat) (w : World)
    (ha : BigAt w (.agg #[.int .i64 n1, .pointer q1]) x) (hb : RefAt w (.agg #[.bool d1, .slice p1 l1 c1]) x) (hc : BigAt w (.agg #[.int .i64 n2, .pointer q2]) y) (hd : RefAt w (.agg #[.bool d2, .slice p2 l2 c2]) y) (ht : Tab w) (lx : (limbs x.natAbs).length ≤ 3000) (ly : (limbs y.natAbs).length ≤ 3000) :
    Calls Tryd.prog 20 #[.agg #[.int .i64 n1, .pointer q1, .bool d1, .slice p1 l1 c1], .agg #[.int .i64 n2, .pointer q2, .bool d2, .slice p2 l2 c2]] w fun e w' => e = .returned (.bool true) ∧ Below w.heap.size w w' := by
  by_cases hy : y < 1
  · refine two_any x y 0 11 false n1 n2 q1 q2 d1 d2 p1 p2 l1 l2 c1 c2 w ha hb hc hd ht lx ly (by decide) (fun w' va vb h1 h2 => ?_) (fun w' va vb h1 h2 => refDivUp_none x y va vb w' h1 h2 hy) (.inr ⟨rfl, rfl⟩)
    refine (divUp_none x y va vb w' h1 h2 hy).mono ?_
    rintro e w'' ⟨rfl, hb'⟩
    exact ⟨_, rfl, .inl ⟨by unfold Fits; omega, rfl⟩, hb'⟩
  · have hy' : 0 < y := by omega
    refine two_any x y (divUpI x y) 0 true n1 n2 q1 q2 d1 d2 p1 p2 l1 l2 c1 c2 w ha hb hc hd ht lx ly ?_ (fun w' va vb h1 h2 => divUp_big x y va vb w' h1 h2 (by omega) hy') (fun w' va vb h1 h2 => refDivUp_any x y va vb w' h1 h2 (by omega) (by omega) hy') (.inl ⟨rfl, rfl⟩)
    have h3 : (limbs x.natAbs).length ≤ 1000000 := by omega
    refine limbs_mono ?_ h3
    have h1 := divUpI_bound (a := x) hy'
    rcases Int.le_total 0 x with h | h
    · have := h1.1 h; omega
    · have := h1.2 h; omega

/-- What stays of the four boxes that the pairs are made of. -/
def Four (M A B C D : Nat) (n1 n2 : Int) (q1 q2 : Option Addr) (d1 d2 : Bool) (s1 s2 : Value) (w' : World) : Prop :=
  w'.cell? ⟨A, 0, none⟩ = some (.int .i64 n1) ∧ w'.cell? ⟨A, 1, none⟩ = some (.pointer q1) ∧ w'.cell? ⟨B, 0, none⟩ = some (.bool d1) ∧ w'.cell? ⟨B, 1, none⟩ = some s1 ∧
  w'.cell? ⟨C, 0, none⟩ = some (.int .i64 n2) ∧ w'.cell? ⟨C, 1, none⟩ = some (.pointer q2) ∧ w'.cell? ⟨D, 0, none⟩ = some (.bool d2) ∧ w'.cell? ⟨D, 1, none⟩ = some s2 ∧ M ≤ w'.heap.size ∧ A < M ∧ B < M ∧ C < M ∧ D < M
theorem Four.alloc {M A B C D : Nat} {n1 n2 : Int} {q1 q2 : Option Addr} {d1 d2 : Bool} {s1 s2 : Value} {w' : World} (h : Four M A B C D n1 n2 q1 q2 d1 d2 s1 s2 w') (o : Obj) : Four M A B C D n1 n2 q1 q2 d1 d2 s1 s2 (w'.alloc o) := by
  obtain ⟨h1, h2, h3, h4, h5, h6, h7, h8, h9, hA, hB, hC, hD⟩ := h
  exact ⟨(World.cell?_alloc_past o A 0 (by omega)).trans h1, (World.cell?_alloc_past o A 1 (by omega)).trans h2, (World.cell?_alloc_past o B 0 (by omega)).trans h3, (World.cell?_alloc_past o B 1 (by omega)).trans h4, (World.cell?_alloc_past o C 0 (by omega)).trans h5, (World.cell?_alloc_past o C 1 (by omega)).trans h6, (World.cell?_alloc_past o D 0 (by omega)).trans h7, (World.cell?_alloc_past o D 1 (by omega)).trans h8, by simp; omega, hA, hB, hC, hD⟩
theorem four_alloc {M A B C D : Nat} {n1 n2 : Int} {q1 q2 : Option Addr} {d1 d2 : Bool} {s1 s2 : Value} {w' : World} (h : (w'.drew).cell? ⟨A, 0, none⟩ = some (.int .i64 n1) ∧ (w'.drew).cell? ⟨A, 1, none⟩ = some (.pointer q1) ∧ (w'.drew).cell? ⟨B, 0, none⟩ = some (.bool d1) ∧ (w'.drew).cell? ⟨B, 1, none⟩ = some s1 ∧ (w'.drew).cell? ⟨C, 0, none⟩ = some (.int .i64 n2) ∧ (w'.drew).cell? ⟨C, 1, none⟩ = some (.pointer q2) ∧ (w'.drew).cell? ⟨D, 0, none⟩ = some (.bool d2) ∧ (w'.drew).cell? ⟨D, 1, none⟩ = some s2 ∧ M ≤ (w'.drew).heap.size ∧ A < M ∧ B < M ∧ C < M ∧ D < M) (o : Obj) : ((w'.alloc o).drew).cell? ⟨A, 0, none⟩ = some (.int .i64 n1) ∧ ((w'.alloc o).drew).cell? ⟨A, 1, none⟩ = some (.pointer q1) ∧ ((w'.alloc o).drew).cell? ⟨B, 0, none⟩ = some (.bool d1) ∧ ((w'.alloc o).drew).cell? ⟨B, 1, none⟩ = some s1 ∧ ((w'.alloc o).drew).cell? ⟨C, 0, none⟩ = some (.int .i64 n2) ∧ ((w'.alloc o).drew).cell? ⟨C, 1, none⟩ = some (.pointer q2) ∧ ((w'.alloc o).drew).cell? ⟨D, 0, none⟩ = some (.bool d2) ∧ ((w'.alloc o).drew).cell? ⟨D, 1, none⟩ = some s2 ∧ M ≤ ((w'.alloc o).drew).heap.size ∧ A < M ∧ B < M ∧ C < M ∧ D < M := Four.alloc (w' := w') h o

set_option maxRecDepth 100000 in
set_option maxHeartbeats 4000000 in
theorem bigTwo_walk (s t : ByteArray) (x y e1 e2 : Int) (o1 o2 : Bool) (w : World) (ht : Tab w) (hs : s.size ≤ 3000) (htt : t.size ≤ 3000)
    (HP1 : Hid (∀ w, Calls Tryd.prog 9 #[.string s] w fun e w' => ∃ v, e = .returned (.tuple #[v, .int .i64 e1]) ∧ BigAt w' v x ∧ Below w.heap.size w w'))
    (HP2 : Hid (∀ w, Calls Tryd.prog 9 #[.string t] w fun e w' => ∃ v, e = .returned (.tuple #[v, .int .i64 e2]) ∧ BigAt w' v y ∧ Below w.heap.size w w'))
    (HR1 : Hid (∀ w, Calls Tryd.prog 10 #[.string s] w fun e w' => ∃ v, e = .returned (.tuple #[v, .bool o1]) ∧ RefAt w' v x ∧ Below w.heap.size w w'))
    (HR2 : Hid (∀ w, Calls Tryd.prog 10 #[.string t] w fun e w' => ∃ v, e = .returned (.tuple #[v, .bool o2]) ∧ RefAt w' v y ∧ Below w.heap.size w w'))
    (lx : (limbs x.natAbs).length ≤ 3000) (ly : (limbs y.natAbs).length ≤ 3000) (h1 : e1 = 0 ∧ o1 = true ∨ e1 = 10 ∧ o1 = false) (h2 : e2 = 0 ∧ o2 = true ∨ e2 = 10 ∧ o2 = false) :
    Calls Tryd.prog 5 #[.string s, .string t] w fun e w' => e = .returned (.bool true) ∧ Below w.heap.size w w' := by
  have hsI : ¬ (3000 : Int) < (s.size : Int) := by omega
  have htI : ¬ (3000 : Int) < (t.size : Int) := by omega
  clear hs htt
  go_enter Tryd.func5, Tryd.ntmps5
  go_wp2_with fail
  refine (HP1.out _).mono ?_
  rintro e w1 ⟨va, rfl, hA, hb1⟩
  obtain ⟨n1, q1, rfl⟩ := hA.shape
  go_wp2_with fail
  generalize hW1 : w1.alloc (.cells #[.int .i64 n1, .pointer q1] 24) = W1
  obtain ⟨bA, hB1, hs1⟩ := new_box w1 n1 q1 hW1
  clear hW1
  refine (HP2.out _).mono ?_
  rintro e w2 ⟨vc, rfl, hC, hb2⟩
  obtain ⟨n2, q2, rfl⟩ := hC.shape
  go_wp2_with fail
  generalize hW2 : w2.alloc (.cells #[.int .i64 n2, .pointer q2] 24) = W2
  obtain ⟨bC, hB2, hs2⟩ := new_box w2 n2 q2 hW2
  clear hW2
  refine (HR1.out _).mono ?_
  rintro e w3 ⟨vb, rfl, hRb, hb3⟩
  obtain ⟨d1, p1, l1, c1, rfl⟩ := hRb.shape
  go_wp2_with fail
  obtain ⟨W3, hW3⟩ : ∃ W3, w3.alloc (.cells #[.bool d1, .slice p1 l1 c1] 30) = W3 := ⟨_, rfl⟩
  have hB3 : Below w3.heap.size w3 W3 := by rw [← hW3]; exact (Below.refl _ _).alloc (Nat.le_refl _) _
  have bB : W3.heap[w3.heap.size]? = some (.cells #[.bool d1, .slice p1 l1 c1] 30) := by rw [← hW3]; exact World.alloc_heap_new w3 _
  have hs3 : W3.heap.size = w3.heap.size + 1 := by rw [← hW3]; simp
  rw [hW3]
  clear hW3
  refine (HR2.out _).mono ?_
  rintro e w4 ⟨vd, rfl, hRd, hb4⟩
  obtain ⟨d2, p2, l2, c2, rfl⟩ := hRd.shape
  obtain ⟨W4, hW4⟩ : ∃ W4, w4.alloc (.cells #[.bool d2, .slice p2 l2 c2] 30) = W4 := ⟨_, rfl⟩
  have hB4 : Below w4.heap.size w4 W4 := by rw [← hW4]; exact (Below.refl _ _).alloc (Nat.le_refl _) _
  have bD : W4.heap[w4.heap.size]? = some (.cells #[.bool d2, .slice p2 l2 c2] 30) := by rw [← hW4]; exact World.alloc_heap_new w4 _
  have hs4 : W4.heap.size = w4.heap.size + 1 := by rw [← hW4]; simp
  have k3 : Below W3.heap.size W3 W4 := hb4.trans (hB4.mono hb4.size)
  have k2 : Below W2.heap.size W2 W4 := (hb3.trans (hB3.mono hb3.size)).trans (k3.mono (Nat.le_trans hb3.size hB3.size))
  have k1 : Below W1.heap.size W1 W4 := (hb2.trans (hB2.mono hb2.size)).trans (k2.mono (Nat.le_trans hb2.size hB2.size))
  have kw : Below w.heap.size w W4 := (hb1.trans (hB1.mono hb1.size)).trans (k1.mono (Nat.le_trans hb1.size hB1.size))
  obtain ⟨a0, a1, _, _⟩ := box_facts ((k1.block w1.heap.size (by omega)).trans bA)
  obtain ⟨e0, e1', _, _⟩ := box_facts ((k2.block w2.heap.size (by omega)).trans bC)
  obtain ⟨b0, b1, _, _⟩ := rbox_facts ((k3.block w3.heap.size (by omega)).trans bB)
  obtain ⟨f0, f1, _, _⟩ := rbox_facts bD
  have HA4 : Hid (BigAt W4 (.agg #[.int .i64 n1, .pointer q1]) x) := (hA.below hB1).below k1
  have HC4 : Hid (BigAt W4 (.agg #[.int .i64 n2, .pointer q2]) y) := (hC.below hB2).below k2
  have HB4 : Hid (RefAt W4 (.agg #[.bool d1, .slice p1 l1 c1]) x) := (hRb.below hB3).below k3
  have HD4 : Hid (RefAt W4 (.agg #[.bool d2, .slice p2 l2 c2]) y) := hRd.below hB4
  have HT4 : Hid (Tab W4) := ht.below kw ht.2
  have KW : Hid (Below w.heap.size w W4) := kw
  have g1 := k1.size
  have g2 := k2.size
  have g3 := k3.size
  have hF : Four W4.heap.size w1.heap.size w3.heap.size w2.heap.size w4.heap.size n1 n2 q1 q2 d1 d2 (.slice p1 l1 c1) (.slice p2 l2 c2) W4.drew := ⟨a0, a1, b0, b1, e0, e1', f0, f1, Nat.le_refl _, by omega, by omega, by omega, by omega⟩
  clear g1 g2 g3
  clear hb1 hb2 hb3 hb4 hB1 hB2 hB3 hB4 k1 k2 k3 kw bA bC bB bD hA hC hRb hRd ht hs1 hs2 hs3 hs4 HP1 HP2 HR1 HR2
  rcases h1 with ⟨rfl, rfl⟩ | ⟨rfl, rfl⟩ <;> rcases h2 with ⟨rfl, rfl⟩ | ⟨rfl, rfl⟩
  all_goals
    have hF' := hF
    unfold Four at hF'
    go_wp2_with (go_at_call 11; go_in)
    go_region_held3 (fun w' => w'.cell? ⟨w1.heap.size, 0, none⟩ = some (.int .i64 n1) ∧ w'.cell? ⟨w1.heap.size, 1, none⟩ = some (.pointer q1) ∧ w'.cell? ⟨w3.heap.size, 0, none⟩ = some (.bool d1) ∧ w'.cell? ⟨w3.heap.size, 1, none⟩ = some (.slice p1 l1 c1) ∧ w'.cell? ⟨w2.heap.size, 0, none⟩ = some (.int .i64 n2) ∧ w'.cell? ⟨w2.heap.size, 1, none⟩ = some (.pointer q2) ∧ w'.cell? ⟨w4.heap.size, 0, none⟩ = some (.bool d2) ∧ w'.cell? ⟨w4.heap.size, 1, none⟩ = some (.slice p2 l2 c2) ∧ W4.heap.size ≤ w'.heap.size ∧ w1.heap.size < W4.heap.size ∧ w3.heap.size < W4.heap.size ∧ w2.heap.size < W4.heap.size ∧ w4.heap.size < W4.heap.size)
      (first | with_reducible exact hF' | with_reducible exact four_alloc hF' _ | with_reducible exact four_alloc (four_alloc hF' _) _)
      (fail)
    rename_i hHeld
    clear hHeld
    generalize hV : (W4.alloc (.cells #[.int .i64 n1, .pointer q1, .bool d1, .slice p1 l1 c1] 46)).alloc (.cells #[.int .i64 n2, .pointer q2, .bool d2, .slice p2 l2 c2] 46) = V
    obtain ⟨v1, v2, hBV, hsV⟩ := two_objs W4 _ _ hV
    have hS : Duet V (W4.heap.size) (W4.heap.size + 1) n1 n2 q1 q2 d1 d2 p1 p2 l1 l2 c1 c2 x y V.drew := by
      refine ⟨?_, ?_, ?_, ?_, ?_, ?_, ?_, ?_, by show _ < V.heap.size; omega, by show _ < V.heap.size; omega, (HT4.out.below hBV.drew HT4.out.2), (HA4.out.below hBV).below (Below.refl _ _).drew, (HB4.out.below hBV).below (Below.refl _ _).drew, (HC4.out.below hBV).below (Below.refl _ _).drew, (HD4.out.below hBV).below (Below.refl _ _).drew, (Below.refl _ _).drew⟩ <;> (show V.cell? _ = _; simp [World.cell?, v1, v2])
    have KV : Hid (Below w.heap.size w V) := KW.out.trans (hBV.mono KW.out.size)
    clear hV v1 v2 hBV hsV
    rotate_left 1
    rename_i hHeld
    clear hHeld
    generalize hV : (W4.alloc (.cells #[.int .i64 n2, .pointer q2, .bool d2, .slice p2 l2 c2] 46)).alloc (.cells #[.int .i64 n1, .pointer q1, .bool d1, .slice p1 l1 c1] 46) = V
    obtain ⟨v1, v2, hBV, hsV⟩ := two_objs W4 _ _ hV
    have hS : Duet V (W4.heap.size + 1) (W4.heap.size) n1 n2 q1 q2 d1 d2 p1 p2 l1 l2 c1 c2 x y V.drew := by
      refine ⟨?_, ?_, ?_, ?_, ?_, ?_, ?_, ?_, by show _ < V.heap.size; omega, by show _ < V.heap.size; omega, (HT4.out.below hBV.drew HT4.out.2), (HA4.out.below hBV).below (Below.refl _ _).drew, (HB4.out.below hBV).below (Below.refl _ _).drew, (HC4.out.below hBV).below (Below.refl _ _).drew, (HD4.out.below hBV).below (Below.refl _ _).drew, (Below.refl _ _).drew⟩ <;> (show V.cell? _ = _; simp [World.cell?, v1, v2])
    have KV : Hid (Below w.heap.size w V) := KW.out.trans (hBV.mono KW.out.size)
    clear hV v1 v2 hBV hsV
    rotate_left 1
    all_goals
      obtain ⟨a0, a1, a2, a3, b0, b1, b2, b3, _⟩ := id hS
      clear hF hF' hW4
      go_wp2_with (first
        | (go_at_call 20; refine calls_at (two_full x y _ _ _ _ _ _ _ _ _ _ _ _ _ (Duet.pa hS) (Duet.pb hS) (Duet.qa hS) (Duet.qb hS) (Duet.tab hS) lx ly) (by with_reducible rfl) (by with_reducible rfl) ?_; rintro e w' ⟨rfl, hb⟩; have hS := Duet.next hS hb; obtain ⟨a0, a1, a2, a3, b0, b1, b2, b3, _⟩ := id hS)
        | (go_at_call 20; refine calls_at (two_full y x _ _ _ _ _ _ _ _ _ _ _ _ _ (Duet.qa hS) (Duet.qb hS) (Duet.pa hS) (Duet.pb hS) (Duet.tab hS) ly lx) (by with_reducible rfl) (by with_reducible rfl) ?_; rintro e w' ⟨rfl, hb⟩; have hS := Duet.next hS hb; obtain ⟨a0, a1, a2, a3, b0, b1, b2, b3, _⟩ := id hS)
        | (go_at_call 20; refine calls_at (two_full x x _ _ _ _ _ _ _ _ _ _ _ _ _ (Duet.pa hS) (Duet.pb hS) (Duet.pa hS) (Duet.pb hS) (Duet.tab hS) lx lx) (by with_reducible rfl) (by with_reducible rfl) ?_; rintro e w' ⟨rfl, hb⟩; have hS := Duet.next hS hb; obtain ⟨a0, a1, a2, a3, b0, b1, b2, b3, _⟩ := id hS)
        | (go_at_call 20; refine calls_at (two_full y y _ _ _ _ _ _ _ _ _ _ _ _ _ (Duet.qa hS) (Duet.qb hS) (Duet.qa hS) (Duet.qb hS) (Duet.tab hS) ly ly) (by with_reducible rfl) (by with_reducible rfl) ?_; rintro e w' ⟨rfl, hb⟩; have hS := Duet.next hS hb; obtain ⟨a0, a1, a2, a3, b0, b1, b2, b3, _⟩ := id hS))
      go_ret
      exact ⟨rfl, KV.out.trans ((Duet.rest hS).mono KV.out.size)⟩
end Go.Proofs.YtangepgiamhenaaDoor
