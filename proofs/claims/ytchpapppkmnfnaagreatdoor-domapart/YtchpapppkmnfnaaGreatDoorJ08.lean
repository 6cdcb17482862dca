/-
  Put together: DmFrom, DmAt, MdPlaces.
-/
import Derived.Test.YtchpapppkmnfnaaGreatDoorJ06
namespace Go.Proofs.YtchpapppkmnfnaaGreatDoor
open Go.RowKit

/-- How far a word is moved, and what is left of it. -/
def fCl (x : Int) : Int := if 32 < (if x < 0 then 0 else x) then 32 else if x < 0 then 0 else x
def fWd (k i : Int) : Int := 4294967295 * 2 ^ (fCl (k - i * 32)).toNat % 4294967296

set_option maxRecDepth 10000 in
set_option maxHeartbeats 400000 in
theorem from_any (q : Int) (w : World) (h1 : -100000 ≤ q) (h2 : q ≤ 100000) : Calls Tryz.prog 73 #[.int .i64 q] w fun e w' => e = .returned (btVal (fWd q 0) (fWd q 1)) ∧ Below w.heap.size w w' := by
  obtain ⟨W, hW⟩ : ∃ W, (w.alloc (.cells #[.int .u32 0, .int .u32 0] 87)).alloc (.cells #[.int .u32 0, .int .u32 0] 87) = W := ⟨_, rfl⟩
  have hb0 : Below w.heap.size w W := by rw [← hW]; exact ((Below.refl _ _).alloc (Nat.le_refl _) _).alloc (by simp) _
  have HB : Hid (Below w.heap.size w W) := hb0
  have g0 : W.heap[w.heap.size]? = some (.cells #[.int .u32 0, .int .u32 0] 87 (0, 0)) := by rw [← hW, heap_alloc_old (w.alloc _) _ (by simp)]; exact heap_alloc_new w _
  have g1 : W.heap[w.heap.size + 1]? = some (.cells #[.int .u32 0, .int .u32 0] 87 (0, 0)) := by rw [← hW]; exact heap_alloc2_new w _ _
  have c0 : W.cell? ⟨w.heap.size, 0, none⟩ = some (.int .u32 0) := cell_of g0 0
  have c1 : W.cell? ⟨w.heap.size, 1, none⟩ = some (.int .u32 0) := cell_of g0 1
  have c2 : W.cell? ⟨w.heap.size + 1, 0, none⟩ = some (.int .u32 0) := cell_of g1 0
  have c3 : W.cell? ⟨w.heap.size + 1, 1, none⟩ = some (.int .u32 0) := cell_of g1 1
  have z0 : ∀ i, W.frozen? ⟨w.heap.size, i, none⟩ = false := frozen_of g0
  have z1 : ∀ i, W.frozen? ⟨w.heap.size + 1, i, none⟩ = false := frozen_of g1
  have HR : Hid (((W.setCell ⟨w.heap.size + 1, 0, none⟩ (.int .u32 (fWd q 0))).setCell ⟨w.heap.size + 1, 1, none⟩ (.int .u32 (fWd q 1))).heap[w.heap.size]? = some (.cells #[.int .u32 0, .int .u32 0] 87 (0, 0))) := by
    show _ = _
    rw [heap_setCell_other _ _ _ _ (by simp), heap_setCell_other _ _ _ _ (by simp)]
    exact g0
  clear hb0 g0 g1
  go_enter Tryz.func73, Tryz.ntmps73
  go_wp2_with fail
  go_loopw [6] (fun iv wr => ∃ k : Nat, iv = .int .i64 (k : Int) ∧ ((k = 0 ∧ wr = W) ∨ (k = 1 ∧ wr = W.setCell ⟨w.heap.size + 1, 0, none⟩ (.int .u32 (fWd q 0))) ∨ (k = 2 ∧ wr = (W.setCell ⟨w.heap.size + 1, 0, none⟩ (.int .u32 (fWd q 0))).setCell ⟨w.heap.size + 1, 1, none⟩ (.int .u32 (fWd q 1))))) (fun iv _ => 2 - (intOf iv).toNat)
  case atStart => exact ⟨0, rfl, .inl ⟨rfl, rfl⟩⟩
  case round =>
    obtain ⟨k, rfl, hk⟩ := hrel
    rcases hk with ⟨rfl, rfl⟩ | ⟨rfl, rfl⟩ | ⟨rfl, rfl⟩
    · go_wp2
      go_roundw
      case rel => exact ⟨1, rfl, by simp [fWd, fCl]⟩
      case measure => simp [intOf]
    · go_wp2
      go_roundw
      case rel => exact ⟨2, rfl, by simp [fWd, fCl]⟩
      case measure => simp [intOf]
    · go_wp2
      exact bodyPost_ret (v := btVal (fWd q 0) (fWd q 1)) (results_cell_row Tryz.results73 _ _ w.heap.size 87 #[.int .u32 (fWd q 0), .int .u32 (fWd q 1)] (0, 0) _ rfl (set2 HR.out _ _) und65 rfl info65) rfl ⟨rfl, ((((HB.out.setCell (by simp) _).setCell (by simp) _).setCell (by simp) _).setCell (by simp) _)⟩
end Go.Proofs.YtchpapppkmnfnaaGreatDoor

namespace Go.Proofs.YtchpapppkmnfnaaGreatDoor
open Go.RowKit

/-- A domain, as a value. -/
def dmVal (f a b : Int) : Value := .agg #[.int .i64 f, .int .u32 a, .int .u32 b]
/-- Where a number stands. -/
def dPlc (f v : Int) : Int := min (max v (f - 1)) (f + 64) - f
theorem dPlc_lo (f v : Int) : -1 ≤ dPlc f v := by unfold dPlc; omega
theorem dPlc_hi (f v : Int) : dPlc f v ≤ 64 := by unfold dPlc; omega

set_option maxRecDepth 10000 in
set_option maxHeartbeats 400000 in
theorem place_any (f a b v : Int) (w : World) (h1 : -1000000000 ≤ f) (h2 : f ≤ 1000000000) : Calls Tryz.prog 99 #[dmVal f a b, .int .i64 v] w fun e w' => e = .returned (.int .i64 (dPlc f v)) ∧ Below w.heap.size w w' := by
  unfold dmVal
  go_enter Tryz.func99, Tryz.ntmps99
  go_wp2
  all_goals (go_ret; exact ⟨ret_int (by unfold dPlc; omega), (Below.refl _ _).alloc (Nat.le_refl _) _⟩)

/-- Is a place in a set? -/
def btAt (a b k : Int) : Bool := decide (0 ≤ k) && decide (k < 64) && (bits .and .u32 ((if k < 32 then a else b) / 2 ^ (k % 32).toNat) 1 == 1)

set_option maxRecDepth 10000 in
set_option maxHeartbeats 400000 in
theorem at_any (a b k : Int) (w : World) : Calls Tryz.prog 104 #[btVal a b, .int .i64 k] w fun e w' => e = .returned (.bool (btAt a b k)) ∧ Below w.heap.size w w' := by
  unfold btVal
  have HB : Hid (Below w.heap.size w (w.alloc (.cells #[.int .u32 a, .int .u32 b] 87))) := (Below.refl _ _).alloc (Nat.le_refl _) _
  by_cases h0 : 0 ≤ k
  · by_cases h1 : k < 64
    · by_cases h2 : k < 32
      · have e : k / 32 = 0 := by omega
        go_enter Tryz.func104, Tryz.ntmps104
        go_wp2
        go_ret
        exact ⟨ret_bool (by simp [btAt, h0, h1, h2]), HB.out⟩
      · have e : k / 32 = 1 := by omega
        go_enter Tryz.func104, Tryz.ntmps104
        go_wp2
        go_ret
        exact ⟨ret_bool (by simp [btAt, h0, h1, Int.not_lt.2 h2]), HB.out⟩
    · go_enter Tryz.func104, Tryz.ntmps104
      go_wp2
      go_ret
      exact ⟨ret_bool (by simp [btAt, Int.not_lt.2 h1]), HB.out⟩
  · go_enter Tryz.func104, Tryz.ntmps104
    go_wp2
    go_ret
    exact ⟨ret_bool (by simp [btAt, Int.not_le.2 h0]), HB.out⟩

end Go.Proofs.YtchpapppkmnfnaaGreatDoor

namespace Go.Proofs.YtchpapppkmnfnaaGreatDoor
open Go.RowKit

set_option maxHeartbeats 400000 in
theorem areCoefs_any (v : Value) (l : List (Int × Int)) (w : World) (h : TermsAt w v l) : Calls Tryz.prog 115 #[v] w fun e w' => e = .returned (.bool (Md.coefsB l)) ∧ Below w.heap.size w w' := by
  obtain ⟨a, cap, rfl, _⟩ := id h
  have H : Hid (TermsAt w (.slice a l.length cap) l) := h
  clear h
  go_enter Tryz.func115, Tryz.ntmps115
  go_wp2_with (go_at_call 172; refine (everyT_coef _ l _ H.out).mono ?_; rintro e w' ⟨rfl, hb⟩)
  go_ret
  exact ⟨rfl, hb⟩

set_option maxHeartbeats 400000 in
theorem areTermPlaces_any (v : Value) (l : List (Int × Int)) (n : Int) (w : World) (h : TermsAt w v l) : Calls Tryz.prog 119 #[v, .int .i64 n] w fun e w' => e = .returned (.bool (l.all fun t => Md.plB n t.2)) ∧ Below w.heap.size w w' := by
  obtain ⟨a, cap, rfl, _⟩ := id h
  have hb0 : Below w.heap.size w (w.alloc (.cells #[.int .i64 n] 3)) := (Below.refl _ _).alloc (Nat.le_refl _) _
  have H : Hid (TermsAt (w.alloc (.cells #[.int .i64 n] 3)) (.slice a l.length cap) l) := h.below hb0
  have HB : Hid (Below w.heap.size w (w.alloc (.cells #[.int .i64 n] 3))) := hb0
  clear h hb0
  go_enter Tryz.func119, Tryz.ntmps119
  go_wp2_with (go_at_call 172; refine (everyT_place _ l n _ _ H.out (by simp) (by simp)).mono ?_; rintro e w' ⟨rfl, hb⟩)
  go_ret
  exact ⟨rfl, HB.out.trans (hb.mono (by simp))⟩

set_option maxRecDepth 10000 in
set_option maxHeartbeats 1000000 in
theorem arePlaces_any (c : Md.Cn) (vt vx vb vr : Value) (n : Int) (w : World) (h : CnAt w c vt vx vb vr) : Calls Tryz.prog 114 #[cnVal c vt vx vb vr, .int .i64 n] w fun e w' => e = .returned (.bool (Md.placesB c n)) ∧ Below w.heap.size w w' := by
  obtain ⟨ta, tc, rfl, _⟩ := id h.t
  obtain ⟨xa, xc, rfl, _⟩ := id h.x
  obtain ⟨ba, bc, rfl, _⟩ := id h.b
  obtain ⟨ra, rc, rfl, _⟩ := id h.r
  unfold cnVal
  obtain ⟨W, hW⟩ : ∃ W, (w.alloc (.cells #[.int .i64 c.kind, .int .i64 c.op, .slice ta c.terms.length tc, .int .i64 c.k, .int .i64 c.v, .int .i64 c.x, .int .i64 c.y, .slice xa c.xs.length xc, .slice ba c.table.length bc, .slice ra c.rows.length rc] 78)).alloc (.cells #[.int .i64 n] 3) = W := ⟨_, rfl⟩
  have hb0 : Below w.heap.size w W := by rw [← hW]; exact ((Below.refl _ _).alloc (Nat.le_refl _) _).alloc (by simp) _
  have HT : Hid (TermsAt W (.slice ta c.terms.length tc) c.terms) := h.t.below hb0
  have HX : Hid (IntsAt W (.slice xa c.xs.length xc) c.xs) := h.x.below hb0
  have HB : Hid (Below w.heap.size w W) := hb0
  have c2 : W.cell? ⟨w.heap.size, 2, none⟩ = some (.slice ta c.terms.length tc) := by rw [← hW]; simp
  have c5 : W.cell? ⟨w.heap.size, 5, none⟩ = some (.int .i64 c.x) := by rw [← hW]; simp
  have c6 : W.cell? ⟨w.heap.size, 6, none⟩ = some (.int .i64 c.y) := by rw [← hW]; simp
  have c7 : W.cell? ⟨w.heap.size, 7, none⟩ = some (.slice xa c.xs.length xc) := by rw [← hW]; simp
  have n0 : W.cell? ⟨w.heap.size + 1, 0, none⟩ = some (.int .i64 n) := by rw [← hW]; simp
  have hsz : W.heap.size = w.heap.size + 1 + 1 := by rw [← hW]; simp
  have hsI : w.heap.size + 1 < W.heap.size := by omega
  have HN : Hid (∀ w1, Below W.heap.size W w1 → w1.cell? ⟨w.heap.size + 1, 0, none⟩ = some (.int .i64 n)) := fun w1 hb => (hb.cell (p := ⟨w.heap.size + 1, 0, none⟩) hsI).trans n0
  have HC7 : Hid (∀ w1, Below W.heap.size W w1 → w1.cell? ⟨w.heap.size, 7, none⟩ = some (.slice xa c.xs.length xc)) := fun w1 hb => (hb.cell (p := ⟨w.heap.size, 7, none⟩) (show w.heap.size < W.heap.size by omega)).trans c7
  clear h hb0 hsz
  have hres : Hid (Md.placesB c n = (Md.plB n c.x && Md.plB n c.y && c.terms.all (fun t => Md.plB n t.2) && c.xs.all (Md.plB n))) := rfl
  cases p1 : Md.plB n c.x
  · go_enter Tryz.func114, Tryz.ntmps114
    go_wp2_with (first | (go_at_call 169; refine (isPlace_any _ _ _).mono ?_; rintro e w' ⟨rfl, rfl⟩))
    go_ret
    exact ⟨ret_bool (by rw [hres.out]; simp [p1]), HB.out⟩
  · cases p2 : Md.plB n c.y
    · go_enter Tryz.func114, Tryz.ntmps114
      go_wp2_with (first | (go_at_call 169; refine (isPlace_any _ _ _).mono ?_; rintro e w' ⟨rfl, rfl⟩))
      go_ret
      exact ⟨ret_bool (by rw [hres.out]; simp [p2]), HB.out⟩
    · cases p3 : c.terms.all (fun t => Md.plB n t.2)
      · go_enter Tryz.func114, Tryz.ntmps114
        go_wp2_with (first | (go_at_call 169; refine (isPlace_any _ _ _).mono ?_; rintro e w' ⟨rfl, rfl⟩) | (go_at_call 119; refine (areTermPlaces_any _ c.terms n _ HT.out).mono ?_; rintro e w1 ⟨rfl, hb1⟩))
        go_ret
        exact ⟨ret_bool (by rw [hres.out, p3]; simp), HB.out.trans (hb1.mono HB.out.size)⟩
      · go_enter Tryz.func114, Tryz.ntmps114
        go_wp2_with (first | (go_at_call 169; refine (isPlace_any _ _ _).mono ?_; rintro e w' ⟨rfl, rfl⟩) | (go_at_call 119; refine (areTermPlaces_any _ c.terms n _ HT.out).mono ?_; rintro e w1 ⟨rfl, hb1⟩; have e7 := HC7.out _ hb1) | (go_at_call 170; refine (every_place _ c.xs n _ _ (HX.out.below hb1) (HN.out _ hb1)).mono ?_; rintro e w2 ⟨rfl, rfl⟩))
        go_ret
        exact ⟨ret_bool (by rw [hres.out, p3, p1, p2]; simp), HB.out.trans (hb1.mono HB.out.size)⟩
end Go.Proofs.YtchpapppkmnfnaaGreatDoor
