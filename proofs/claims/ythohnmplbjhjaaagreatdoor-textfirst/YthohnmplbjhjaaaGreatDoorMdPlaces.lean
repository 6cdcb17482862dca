/-
  Package model: the places and coefficients of a constraint.
-/
import Derived.Test.YthohnmplbjhjaaaGreatDoorJ05
namespace Go.Proofs.YthohnmplbjhjaaaGreatDoor
open Go.RowKit

set_option maxHeartbeats 400000 in
theorem areCoefs_any (v : Value) (l : List (Int × Int)) (w : World) (h : TermsAt w v l) : Calls Tryz.prog 62 #[v] w fun e w' => e = .returned (.bool (Md.coefsB l)) ∧ Below w.heap.size w w' := by
  obtain ⟨a, cap, rfl, _⟩ := id h
  have H : Hid (TermsAt w (.slice a l.length cap) l) := h
  clear h
  go_enter Tryz.func62, Tryz.ntmps62
  go_wp2_with (go_at_call 120; refine (everyT_coef _ l _ H.out).mono ?_; rintro e w' ⟨rfl, hb⟩)
  go_ret
  exact ⟨rfl, hb⟩

set_option maxHeartbeats 400000 in
theorem areTermPlaces_any (v : Value) (l : List (Int × Int)) (n : Int) (w : World) (h : TermsAt w v l) : Calls Tryz.prog 66 #[v, .int .i64 n] w fun e w' => e = .returned (.bool (l.all fun t => Md.plB n t.2)) ∧ Below w.heap.size w w' := by
  obtain ⟨a, cap, rfl, _⟩ := id h
  have hb0 : Below w.heap.size w (w.alloc (.cells #[.int .i64 n] 3)) := (Below.refl _ _).alloc (Nat.le_refl _) _
  have H : Hid (TermsAt (w.alloc (.cells #[.int .i64 n] 3)) (.slice a l.length cap) l) := h.below hb0
  have HB : Hid (Below w.heap.size w (w.alloc (.cells #[.int .i64 n] 3))) := hb0
  clear h hb0
  go_enter Tryz.func66, Tryz.ntmps66
  go_wp2_with (go_at_call 120; refine (everyT_place _ l n _ _ H.out (by simp) (by simp)).mono ?_; rintro e w' ⟨rfl, hb⟩)
  go_ret
  exact ⟨rfl, HB.out.trans (hb.mono (by simp))⟩

set_option maxRecDepth 10000 in
set_option maxHeartbeats 1000000 in
theorem arePlaces_any (c : Md.Cn) (vt vx vb vr : Value) (n : Int) (w : World) (h : CnAt w c vt vx vb vr) : Calls Tryz.prog 61 #[cnVal c vt vx vb vr, .int .i64 n] w fun e w' => e = .returned (.bool (Md.placesB c n)) ∧ Below w.heap.size w w' := by
  obtain ⟨ta, tc, rfl, _⟩ := id h.t
  obtain ⟨xa, xc, rfl, _⟩ := id h.x
  obtain ⟨ba, bc, rfl, _⟩ := id h.b
  obtain ⟨ra, rc, rfl, _⟩ := id h.r
  unfold cnVal
  obtain ⟨W, hW⟩ : ∃ W, (w.alloc (.cells #[.int .i64 c.kind, .int .i64 c.op, .slice ta c.terms.length tc, .int .i64 c.k, .int .i64 c.v, .int .i64 c.x, .int .i64 c.y, .slice xa c.xs.length xc, .slice ba c.table.length bc, .slice ra c.rows.length rc] 61)).alloc (.cells #[.int .i64 n] 3) = W := ⟨_, rfl⟩
  have hb0 : Below w.heap.size w W := by rw [← hW]; exact ((Below.refl _ _).alloc (Nat.le_refl _) _).alloc (by simp) _
  have HT : Hid (TermsAt W (.slice ta c.terms.length tc) c.terms) := h.t.below hb0
  have HX : Hid (IntsAt W (.slice xa c.xs.length xc) c.xs) := h.x.below hb0
  have HB : Hid (Below w.heap.size w W) := hb0
  have c2 : W.cell? ⟨w.heap.size, 2, none⟩ = some (.slice ta c.terms.length tc) := by rw [← hW]; simp
  have c5 : W.cell? ⟨w.heap.size, 5, none⟩ = some (.int .i64 c.x) := by rw [← hW]; simp
  have c6 : W.cell? ⟨w.heap.size, 6, none⟩ = some (.int .i64 c.y) := by rw [← hW]; simp
  have c7 : W.cell? ⟨w.heap.size, 7, none⟩ = some (.slice xa c.xs.length xc) := by rw [← hW]; simp
  have n0 : W.cell? ⟨w.heap.size + 1, 0, none⟩ = some (.int .i64 n) := by rw [← hW]; simp
  have hsz : W.heap.size = w.heap.size + 1 + 1 := by rw [← hW]; simp
  have hsI : w.heap.size + 1 < W.heap.size := by omega
  have HN : Hid (∀ w1, Below W.heap.size W w1 → w1.cell? ⟨w.heap.size + 1, 0, none⟩ = some (.int .i64 n)) := fun w1 hb => (hb.cell (p := ⟨w.heap.size + 1, 0, none⟩) hsI).trans n0
  have HC7 : Hid (∀ w1, Below W.heap.size W w1 → w1.cell? ⟨w.heap.size, 7, none⟩ = some (.slice xa c.xs.length xc)) := fun w1 hb => (hb.cell (p := ⟨w.heap.size, 7, none⟩) (show w.heap.size < W.heap.size by omega)).trans c7
  clear h hb0 hsz
  have hres : Hid (Md.placesB c n = (Md.plB n c.x && Md.plB n c.y && c.terms.all (fun t => Md.plB n t.2) && c.xs.all (Md.plB n))) := rfl
  cases p1 : Md.plB n c.x
  · go_enter Tryz.func61, Tryz.ntmps61
    go_wp2_with (first | (go_at_call 117; refine (isPlace_any _ _ _).mono ?_; rintro e w' ⟨rfl, rfl⟩))
    go_ret
    exact ⟨ret_bool (by rw [hres.out]; simp [p1]), HB.out⟩
  · cases p2 : Md.plB n c.y
    · go_enter Tryz.func61, Tryz.ntmps61
      go_wp2_with (first | (go_at_call 117; refine (isPlace_any _ _ _).mono ?_; rintro e w' ⟨rfl, rfl⟩))
      go_ret
      exact ⟨ret_bool (by rw [hres.out]; simp [p2]), HB.out⟩
    · cases p3 : c.terms.all (fun t => Md.plB n t.2)
      · go_enter Tryz.func61, Tryz.ntmps61
        go_wp2_with (first | (go_at_call 117; refine (isPlace_any _ _ _).mono ?_; rintro e w' ⟨rfl, rfl⟩) | (go_at_call 66; refine (areTermPlaces_any _ c.terms n _ HT.out).mono ?_; rintro e w1 ⟨rfl, hb1⟩))
        go_ret
        exact ⟨ret_bool (by rw [hres.out, p3]; simp), HB.out.trans (hb1.mono HB.out.size)⟩
      · go_enter Tryz.func61, Tryz.ntmps61
        go_wp2_with (first | (go_at_call 117; refine (isPlace_any _ _ _).mono ?_; rintro e w' ⟨rfl, rfl⟩) | (go_at_call 66; refine (areTermPlaces_any _ c.terms n _ HT.out).mono ?_; rintro e w1 ⟨rfl, hb1⟩; have e7 := HC7.out _ hb1) | (go_at_call 118; refine (every_place _ c.xs n _ _ (HX.out.below hb1) (HN.out _ hb1)).mono ?_; rintro e w2 ⟨rfl, rfl⟩))
        go_ret
        exact ⟨ret_bool (by rw [hres.out, p3, p1, p2]; simp), HB.out.trans (hb1.mono HB.out.size)⟩
end Go.Proofs.YthohnmplbjhjaaaGreatDoor
