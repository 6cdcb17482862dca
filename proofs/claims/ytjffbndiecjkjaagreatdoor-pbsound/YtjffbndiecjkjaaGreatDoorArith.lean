/-
  Package big: compareLimbs, Neg, Cmp, Add, Sub.
-/
import Derived.Test.YtjffbndiecjkjaaGreatDoorCompare
import Derived.Test.YtjffbndiecjkjaaGreatDoorIsBig
namespace Go.Proofs.YtjffbndiecjkjaaGreatDoor
open Go.RowKit
open Bn (limbs)

theorem compareInt_cmpI (a b : Int) : Lib.compareInt a b = cmpI a b := by
  unfold Lib.compareInt
  split
  · rename_i h; rw [cmpI_lt h]
  · split
    · rename_i h; rw [cmpI_gt h]
    · rw [cmpI_eq (by omega) (by omega)]

set_option maxRecDepth 100000 in
set_option maxHeartbeats 1000000 in
theorem compareLimbs_any (x y : Nat) (va vb : Value) (w : World) (ha : U32At w va (limbs x)) (hb : U32At w vb (limbs y)) (hx : (limbs x).length ≤ 5000000) :
    Calls Tryz.prog 65 #[va, vb] w fun e w' => e = .returned (.int .i64 (cmpI x y)) ∧ Below w.heap.size w w' := by
  by_cases hl : (limbs x).length = (limbs y).length
  · exact compareLimbs_same x y va vb w ha hb hl hx
  · obtain ⟨a, cap, rfl, hm⟩ := ha.form
    obtain ⟨b, capb, rfl, hmb⟩ := hb.form
    have hne : (((limbs x).length : Int) != ((limbs y).length : Int)) = true := by simp; omega
    have HE : Hid (Lib.compareInt ((limbs x).length : Int) ((limbs y).length : Int) = cmpI x y) := by
      show _ = _
      rw [compareInt_cmpI]
      rcases Nat.lt_or_ge (limbs x).length (limbs y).length with h | h
      · rw [cmpI_lt (show ((limbs x).length : Int) < ((limbs y).length : Int) by omega), cmpI_lt (by have := lt_of_length h; omega)]
      · rw [cmpI_gt (show ((limbs y).length : Int) < ((limbs x).length : Int) by omega), cmpI_gt (by have := lt_of_length (x := y) (y := x) (by omega); omega)]
    clear ha hb hl
    generalize (limbs x).length = lx at *
    generalize (limbs y).length = ly at *
    go_enter Tryz.func65, Tryz.ntmps65
    go_wp2_with fail
    have hs1 : (w.alloc (.cells #[.slice b ly capb] 76)).heap.size = w.heap.size + 1 := by simp
    have hc1 : ((w.alloc (.cells #[.slice b ly capb] 76)).alloc (.cells #[.int .i64 0] 3)).cell? ⟨w.heap.size + 1, 0, none⟩ = some (.int .i64 0) ∧ ((w.alloc (.cells #[.slice b ly capb] 76)).alloc (.cells #[.int .i64 0] 3)).frozen? ⟨w.heap.size + 1, 0, none⟩ = false := by
      rw [← hs1]; exact cell_new1 _ _ _
    have hB : Below w.heap.size w ((w.alloc (.cells #[.slice b ly capb] 76)).alloc (.cells #[.int .i64 0] 3)) := ((Below.refl _ _).alloc (Nat.le_refl _) _).alloc (by simp) _
    generalize (w.alloc (.cells #[.slice b ly capb] 76)).alloc (.cells #[.int .i64 0] 3) = W at *
    obtain ⟨hc, hf⟩ := hc1
    refine (Tryz.cmp_Compare_int _ _ _).mono ?_
    rintro e w1 ⟨rfl, rfl⟩
    rw [HE.out]
    go_wp2
    exact bodyPost_ret (v := .int .i64 (cmpI x y)) (by simp [results, Tryz.results65, go_sem, World.cell?_setCell_same' _ _ _ (show (w1.cell? ⟨w.heap.size + 1, 0, none⟩).isSome = true by rw [hc]; rfl)]) rfl ⟨rfl, hB.setCell (p := ⟨w.heap.size + 1, 0, none⟩) (Nat.le_succ _) _⟩

/-- Two boxes that have just been made: a number's, and the result's. -/
theorem two_boxes (w : World) (y : Int) (q : Option Addr) {W : World} (hW : (w.alloc (.cells #[.int .i64 y, .pointer q] 33)).alloc (.cells #[.int .i64 0, .pointer none] 33) = W) :
    W.heap[w.heap.size]? = some (.cells #[.int .i64 y, .pointer q] 33) ∧ W.heap[w.heap.size + 1]? = some (.cells #[.int .i64 0, .pointer none] 33) ∧ Below w.heap.size w W ∧ W.heap.size = w.heap.size + 2 := by
  subst hW
  have hs1 : (w.alloc (.cells #[.int .i64 y, .pointer q] 33)).heap.size = w.heap.size + 1 := by simp
  refine ⟨?_, ?_, ((Below.refl _ _).alloc (Nat.le_refl _) _).alloc (by simp) _, by simp⟩
  · exact (Below.heap_alloc _ _ _ (by simp)).trans (World.alloc_heap_new w _)
  · rw [← hs1]; exact World.alloc_heap_new _ _
theorem box_facts {W : World} {N : Nat} {y : Int} {q : Option Addr} (hN : W.heap[N]? = some (.cells #[.int .i64 y, .pointer q] 33)) :
    W.cell? ⟨N, 0, none⟩ = some (.int .i64 y) ∧ W.cell? ⟨N, 1, none⟩ = some (.pointer q) ∧ W.frozen? ⟨N, 0, none⟩ = false ∧ W.frozen? ⟨N, 1, none⟩ = false := by
  refine ⟨?_, ?_, ?_, ?_⟩ <;> simp [World.cell?, World.frozen?, hN]

/-- A number's box, written over. -/
theorem box_set {W : World} {N : Nat} {y : Int} {q : Option Addr} (hN : W.heap[N]? = some (.cells #[.int .i64 y, .pointer q] 33)) (a b : Value) :
    ((W.setCell ⟨N, 0, none⟩ a).setCell ⟨N, 1, none⟩ b).cell? ⟨N, 0, none⟩ = some a ∧ ((W.setCell ⟨N, 0, none⟩ a).setCell ⟨N, 1, none⟩ b).cell? ⟨N, 1, none⟩ = some b := by
  obtain ⟨h0, h1, _, _⟩ := box_facts hN
  refine ⟨?_, ?_⟩
  · rw [World.cell?_setCell_other (h := show (⟨N, 1, none⟩ : Addr) ≠ ⟨N, 0, none⟩ by simp)]
    exact World.cell?_setCell_same' _ _ _ (by rw [h0]; rfl)
  · refine World.cell?_setCell_same' _ _ _ ?_
    rw [World.cell?_setCell_other (h := show (⟨N, 0, none⟩ : Addr) ≠ ⟨N, 1, none⟩ by simp), h1]; rfl

set_option maxRecDepth 100000 in
set_option maxHeartbeats 1000000 in
/-- Neg. -/
theorem neg_big (z : Int) (v : Value) (w : World) (h : BigAt w v z) :
    Calls Tryz.prog 82 #[v] w fun e w' => ∃ r, e = .returned r ∧ BigAt w' r (-z) ∧ Below w.heap.size w w' := by
  have HS : Hid (sg (!(decide (z < 0))) z.natAbs = -z) := by
    show _ = _
    unfold sg
    by_cases hz : z < 0
    · simp [hz]; omega
    · simp [hz]; omega
  by_cases hs : Fits z ∧ z ≠ -9223372036854775808
  · obtain ⟨hf, hm⟩ := hs
    rcases h with ⟨_, rfl⟩ | ⟨hnf, _⟩
    · have h1 : -9223372036854775808 ≤ z := hf.1
      have h2 : z ≤ 9223372036854775807 := hf.2
      have hmb : (z != -9223372036854775808) = true := by simp; exact hm
      have hz : z ≠ -9223372036854775808 := hm
      clear HS hf hm
      go_enter Tryz.func82, Tryz.ntmps82
      go_wp2_with fail
      generalize hW : (w.alloc (.cells #[.int .i64 z, .pointer none] 33)).alloc (.cells #[.int .i64 0, .pointer none] 33) = W
      obtain ⟨hA, hR, hBW, hsz⟩ := two_boxes w z none hW
      clear hW
      refine (of_any _ _).mono ?_
      rintro e w1 ⟨rfl, hb1⟩
      have hR3 := (hb1.block (w.heap.size + 1) (by omega)).trans hR
      obtain ⟨r0, r1, r2, r3⟩ := box_facts hR3
      obtain ⟨m0, m1⟩ := box_set hR3 (.int .i64 (-z)) (.pointer none)
      go_wp2
      exact bodyPost_ret (v := .agg #[.int .i64 (-z), .pointer none]) (by simp [results, Tryz.results82, go_sem, m0, m1]) rfl ⟨_, rfl, .inl ⟨⟨by omega, by omega⟩, rfl⟩, ((hBW.trans (hb1.mono hBW.size)).setCell (p := ⟨w.heap.size + 1, 0, none⟩) (Nat.le_succ _) _).setCell (p := ⟨w.heap.size + 1, 1, none⟩) (Nat.le_succ _) _⟩
    · exact absurd hf hnf
  · have HB : Hid (BigAt w v z) := h
    rcases h with ⟨hf, rfl⟩ | ⟨hnf, p, s, rfl, _, _, _, _⟩
    · have hz : z = -9223372036854775808 := Classical.byContradiction fun e => hs ⟨hf, e⟩
      have hzb : (z != -9223372036854775808) = false := by simp; exact hz
      clear hs hf hz
      go_enter Tryz.func82, Tryz.ntmps82
      go_wp2_with fail
      generalize hW : (w.alloc (.cells #[.int .i64 z, .pointer none] 33)).alloc (.cells #[.int .i64 0, .pointer none] 33) = W
      obtain ⟨hA, hR, hBW, hsz⟩ := two_boxes w z none hW
      have HB' : Hid (BigAt W (.agg #[.int .i64 z, .pointer none]) z) := HB.out.below hBW
      obtain ⟨a0, a1, _, _⟩ := box_facts hA
      clear hW
      go_region_with (first
        | (go_at_call 46; refine (negative_big z _ _ (show BigAt W.drew _ z from HB'.out)).mono ?_; rintro e w1 ⟨rfl, hb0⟩; have hb1 : Below W.heap.size W w1 := (Below.refl W.heap.size W).drew.trans hb0; have hA1 := (hb1.block w.heap.size (by omega)).trans hA; obtain ⟨a01, a11, _, _⟩ := box_facts hA1)
        | (go_at_call 63; refine (limbs_any z _ _ (HB'.out.below hb1)).mono ?_; rintro e w2 ⟨lv, rfl, hU, hb2⟩; obtain ⟨la, lc, hlv, _⟩ := hU.form; subst hlv)
        | (go_at_call 44; refine (settled_any _ z.natAbs _ _ hU).mono ?_; rintro e w3 ⟨r, rfl, hB3, hb3⟩; have hb13 : Below W.heap.size W w3 := hb1.trans ((hb2.mono hb1.size).trans (hb3.mono (Nat.le_trans hb1.size hb2.size))); have hR3 := (hb13.block (w.heap.size + 1) (by omega)).trans hR; obtain ⟨r0, r1, r2, r3⟩ := box_facts hR3; obtain ⟨y3, q3, hr3⟩ := hB3.shape; subst hr3))
      all_goals
        obtain ⟨m0, m1⟩ := box_set hR3 (.int .i64 y3) (.pointer q3)
        rw [HS.out] at hB3
        go_wp2
        exact bodyPost_ret (v := .agg #[.int .i64 y3, .pointer q3]) (by simp [results, Tryz.results82, go_sem, m0, m1]) rfl ⟨_, rfl, hB3.setBox hR3 _ _, ((hBW.trans (hb13.mono hBW.size)).setCell (p := ⟨w.heap.size + 1, 0, none⟩) (Nat.le_succ _) _).setCell (p := ⟨w.heap.size + 1, 1, none⟩) (Nat.le_succ _) _⟩
    · clear hs
      go_enter Tryz.func82, Tryz.ntmps82
      go_wp2_with fail
      generalize hW : (w.alloc (.cells #[.int .i64 0, .pointer (some ⟨p, 0, none⟩)] 33)).alloc (.cells #[.int .i64 0, .pointer none] 33) = W
      obtain ⟨hA, hR, hBW, hsz⟩ := two_boxes w 0 (some ⟨p, 0, none⟩) hW
      have HB' : Hid (BigAt W (.agg #[.int .i64 0, .pointer (some ⟨p, 0, none⟩)]) z) := HB.out.below hBW
      obtain ⟨a0, a1, _, _⟩ := box_facts hA
      clear hW
      go_region_with (first
        | (go_at_call 46; refine (negative_big z _ _ (show BigAt W.drew _ z from HB'.out)).mono ?_; rintro e w1 ⟨rfl, hb0⟩; have hb1 : Below W.heap.size W w1 := (Below.refl W.heap.size W).drew.trans hb0; have hA1 := (hb1.block w.heap.size (by omega)).trans hA; obtain ⟨a01, a11, _, _⟩ := box_facts hA1)
        | (go_at_call 63; refine (limbs_any z _ _ (HB'.out.below hb1)).mono ?_; rintro e w2 ⟨lv, rfl, hU, hb2⟩; obtain ⟨la, lc, hlv, _⟩ := hU.form; subst hlv)
        | (go_at_call 44; refine (settled_any _ z.natAbs _ _ hU).mono ?_; rintro e w3 ⟨r, rfl, hB3, hb3⟩; have hb13 : Below W.heap.size W w3 := hb1.trans ((hb2.mono hb1.size).trans (hb3.mono (Nat.le_trans hb1.size hb2.size))); have hR3 := (hb13.block (w.heap.size + 1) (by omega)).trans hR; obtain ⟨r0, r1, r2, r3⟩ := box_facts hR3; obtain ⟨y3, q3, hr3⟩ := hB3.shape; subst hr3))
      all_goals
        obtain ⟨m0, m1⟩ := box_set hR3 (.int .i64 y3) (.pointer q3)
        rw [HS.out] at hB3
        go_wp2
        exact bodyPost_ret (v := .agg #[.int .i64 y3, .pointer q3]) (by simp [results, Tryz.results82, go_sem, m0, m1]) rfl ⟨_, rfl, hB3.setBox hR3 _ _, ((hBW.trans (hb13.mono hBW.size)).setCell (p := ⟨w.heap.size + 1, 0, none⟩) (Nat.le_succ _) _).setCell (p := ⟨w.heap.size + 1, 1, none⟩) (Nat.le_succ _) _⟩

end Go.Proofs.YtjffbndiecjkjaaGreatDoor
