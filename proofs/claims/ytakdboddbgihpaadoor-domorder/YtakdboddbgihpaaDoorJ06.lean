/-
  Put together: MdEveryR, MdPlaces, DmFrom, DmAt.
-/
import Derived.Test.YtakdboddbgihpaaDoorJ05
import Derived.Test.YtakdboddbgihpaaDoorJ04
namespace Go.Proofs.YtakdboddbgihpaaDoor
open Go.RowKit

set_option maxHeartbeats 400000 in
theorem areNumbers_any (v : Value) (l : List Int) (w : World) (h : IntsAt w v l) : Calls Tryd.prog 60 #[v] w fun e w' => e = .returned (.bool (l.all Md.numB)) ∧ w' = w := by
  go_enter Tryd.func60, Tryd.ntmps60
  go_wp2_with (go_at_call 74; refine (every_num _ l _ h).mono ?_; rintro e w' ⟨rfl, rfl⟩)
  go_ret
  exact ⟨rfl, rfl⟩

set_option maxHeartbeats 400000 in
theorem clos120 (ua : Option Addr) (m uc : Nat) (xa : Option Addr) (n xc : Nat) (p : Nat) (w : World) (h : w.cell? ⟨p, 7, none⟩ = some (.slice xa n xc)) : Calls Tryd.prog 72 #[.slice ua m uc, .pointer (some ⟨p, 0, none⟩)] w fun e w' => e = .returned (.bool (m == n)) ∧ w' = w := by
  go_enter Tryd.func72, Tryd.ntmps72
  go_wp2
  go_ret
  exact ⟨ret_bool (by rw [Bool.eq_iff_iff]; simp; omega), rfl⟩

set_option maxHeartbeats 400000 in
theorem everyR_num (v : Value) (l : List (List Int)) (w : World) (h : RowsAt w v l) : Calls Tryd.prog 61 #[v, .func (.func 60) #[] #[]] w fun e w' => e = .returned (.bool (l.all (fun r => r.all Md.numB))) ∧ w' = w := by
  obtain ⟨a, cap, rfl, hm, hc⟩ := h
  unfold maxLen at hm
  have HC : Hid (0 < l.length → ∃ b off, a = some ⟨b, off, none⟩ ∧ b < w.heap.size ∧ ∀ j (h : j < l.length), ∃ u, w.cell? ⟨b, off + j, none⟩ = some u ∧ IntsAt w u l[j]) := hc
  have HB0 : Hid (Below w.heap.size w w) := Below.refl _ _
  have H0 : Hid ((l.take 0).all (fun r => r.all Md.numB) = true) := by show _ = _; simp
  clear hc
  go_enter Tryd.func61, Tryd.ntmps61
  go_wp2
  go_loop [9] (fun iv => ∃ k : Nat, iv = .int .i64 (k : Int) ∧ k ≤ l.length ∧ Hid ((l.take k).all (fun r => r.all Md.numB) = true)) (fun iv => l.length - (intOf iv).toNat)
  case atStart => exact ⟨0, rfl, Nat.zero_le _, H0⟩
  case round =>
    obtain ⟨k, rfl, hk, hA⟩ := hrel
    clear H0
    by_cases hlt : k < l.length
    · obtain ⟨b, off, rfl, hb, hc⟩ := HC.out (by omega)
      obtain ⟨u, hcell, hu⟩ := hc k hlt
      have HU : Hid (IntsAt w u l[k]) := hu
      obtain ⟨ua, uc, rfl, _⟩ := hu.form
      have hkI : (k : Int) < (l.length : Int) := by omega
      clear hc hu
      cases hp : (fun r => r.all Md.numB) l[k]
      · have hres : Hid (l.all (fun r => r.all Md.numB) = false) := Md.all_stop hlt hp
        generalize l[k] = x at *
        simp only at hp
        go_wp2_with (go_at_call 60; refine (areNumbers_any _ x _ HU.out).mono ?_; rintro e w2 ⟨rfl, rfl⟩)
        go_ret
        exact ⟨ret_bool hres.out.symm, rfl⟩
      · have hres : Hid ((l.take (k + 1)).all (fun r => r.all Md.numB) = true) := Md.all_next hA.out hlt hp
        generalize l[k] = x at *
        simp only at hp
        go_wp2_with (go_at_call 60; refine (areNumbers_any _ x _ HU.out).mono ?_; rintro e w2 ⟨rfl, rfl⟩)
        go_round
        case rel => exact ⟨k + 1, by go_num, by omega, hres⟩
        case measure => simp [intOf]; omega
    · have hkI : ¬ (k : Int) < (l.length : Int) := by omega
      have hres : Hid (l.all (fun r => r.all Md.numB) = true) := Md.all_done hA.out (by omega)
      go_wp2
      go_ret
      exact ⟨ret_bool hres.out.symm, rfl⟩

set_option maxHeartbeats 400000 in
theorem everyR_len (v : Value) (l : List (List Int)) (xa : Option Addr) (n xc p : Nat) (w : World) (h : RowsAt w v l) (hp : w.cell? ⟨p, 7, none⟩ = some (.slice xa n xc)) : Calls Tryd.prog 61 #[v, .func (.func 72) #[] #[.pointer (some ⟨p, 0, none⟩)]] w fun e w' => e = .returned (.bool (l.all (fun r => r.length == n))) ∧ w' = w := by
  obtain ⟨a, cap, rfl, hm, hc⟩ := h
  unfold maxLen at hm
  have HC : Hid (0 < l.length → ∃ b off, a = some ⟨b, off, none⟩ ∧ b < w.heap.size ∧ ∀ j (h : j < l.length), ∃ u, w.cell? ⟨b, off + j, none⟩ = some u ∧ IntsAt w u l[j]) := hc
  have HP : Hid (w.cell? ⟨p, 7, none⟩ = some (.slice xa n xc)) := hp
  clear hp
  have H0 : Hid ((l.take 0).all (fun r => r.length == n) = true) := by show _ = _; simp
  clear hc
  go_enter Tryd.func61, Tryd.ntmps61
  go_wp2
  go_loop [9] (fun iv => ∃ k : Nat, iv = .int .i64 (k : Int) ∧ k ≤ l.length ∧ Hid ((l.take k).all (fun r => r.length == n) = true)) (fun iv => l.length - (intOf iv).toNat)
  case atStart => exact ⟨0, rfl, Nat.zero_le _, H0⟩
  case round =>
    obtain ⟨k, rfl, hk, hA⟩ := hrel
    clear H0
    by_cases hlt : k < l.length
    · obtain ⟨b, off, rfl, hb, hc⟩ := HC.out (by omega)
      obtain ⟨u, hcell, hu⟩ := hc k hlt
      have HU : Hid (IntsAt w u l[k]) := hu
      obtain ⟨ua, uc, rfl, _⟩ := hu.form
      have hkI : (k : Int) < (l.length : Int) := by omega
      clear hc hu
      cases hp : (fun r => r.length == n) l[k]
      · have hres : Hid (l.all (fun r => r.length == n) = false) := Md.all_stop hlt hp
        generalize l[k] = x at *
        simp only at hp
        go_wp2_with (go_at_call 72; refine (clos120 _ _ _ xa n xc _ _ HP.out).mono ?_; rintro e w2 ⟨rfl, rfl⟩)
        go_ret
        exact ⟨ret_bool hres.out.symm, rfl⟩
      · have hres : Hid ((l.take (k + 1)).all (fun r => r.length == n) = true) := Md.all_next hA.out hlt hp
        generalize l[k] = x at *
        simp only at hp
        go_wp2_with (go_at_call 72; refine (clos120 _ _ _ xa n xc _ _ HP.out).mono ?_; rintro e w2 ⟨rfl, rfl⟩)
        go_round
        case rel => exact ⟨k + 1, by go_num, by omega, hres⟩
        case measure => simp [intOf]; omega
    · have hkI : ¬ (k : Int) < (l.length : Int) := by omega
      have hres : Hid (l.all (fun r => r.length == n) = true) := Md.all_done hA.out (by omega)
      go_wp2
      go_ret
      exact ⟨ret_bool hres.out.symm, rfl⟩
end Go.Proofs.YtakdboddbgihpaaDoor

namespace Go.Proofs.YtakdboddbgihpaaDoor
open Go.RowKit

set_option maxHeartbeats 400000 in
theorem areCoefs_any (v : Value) (l : List (Int × Int)) (w : World) (h : TermsAt w v l) : Calls Tryd.prog 59 #[v] w fun e w' => e = .returned (.bool (Md.coefsB l)) ∧ Below w.heap.size w w' := by
  obtain ⟨a, cap, rfl, _⟩ := id h
  have H : Hid (TermsAt w (.slice a l.length cap) l) := h
  clear h
  go_enter Tryd.func59, Tryd.ntmps59
  go_wp2_with (go_at_call 76; refine (everyT_coef _ l _ H.out).mono ?_; rintro e w' ⟨rfl, hb⟩)
  go_ret
  exact ⟨rfl, hb⟩

set_option maxHeartbeats 400000 in
theorem areTermPlaces_any (v : Value) (l : List (Int × Int)) (n : Int) (w : World) (h : TermsAt w v l) : Calls Tryd.prog 63 #[v, .int .i64 n] w fun e w' => e = .returned (.bool (l.all fun t => Md.plB n t.2)) ∧ Below w.heap.size w w' := by
  obtain ⟨a, cap, rfl, _⟩ := id h
  have hb0 : Below w.heap.size w (w.alloc (.cells #[.int .i64 n] 3)) := (Below.refl _ _).alloc (Nat.le_refl _) _
  have H : Hid (TermsAt (w.alloc (.cells #[.int .i64 n] 3)) (.slice a l.length cap) l) := h.below hb0
  have HB : Hid (Below w.heap.size w (w.alloc (.cells #[.int .i64 n] 3))) := hb0
  clear h hb0
  go_enter Tryd.func63, Tryd.ntmps63
  go_wp2_with (go_at_call 76; refine (everyT_place _ l n _ _ H.out (by simp) (by simp)).mono ?_; rintro e w' ⟨rfl, hb⟩)
  go_ret
  exact ⟨rfl, HB.out.trans (hb.mono (by simp))⟩

set_option maxRecDepth 10000 in
set_option maxHeartbeats 1000000 in
theorem arePlaces_any (c : Md.Cn) (vt vx vb vr : Value) (n : Int) (w : World) (h : CnAt w c vt vx vb vr) : Calls Tryd.prog 58 #[cnVal c vt vx vb vr, .int .i64 n] w fun e w' => e = .returned (.bool (Md.placesB c n)) ∧ Below w.heap.size w w' := by
  obtain ⟨ta, tc, rfl, _⟩ := id h.t
  obtain ⟨xa, xc, rfl, _⟩ := id h.x
  obtain ⟨ba, bc, rfl, _⟩ := id h.b
  obtain ⟨ra, rc, rfl, _⟩ := id h.r
  unfold cnVal
  obtain ⟨W, hW⟩ : ∃ W, (w.alloc (.cells #[.int .i64 c.kind, .int .i64 c.op, .slice ta c.terms.length tc, .int .i64 c.k, .int .i64 c.v, .int .i64 c.x, .int .i64 c.y, .slice xa c.xs.length xc, .slice ba c.table.length bc, .slice ra c.rows.length rc] 71)).alloc (.cells #[.int .i64 n] 3) = W := ⟨_, rfl⟩
  have hb0 : Below w.heap.size w W := by rw [← hW]; exact ((Below.refl _ _).alloc (Nat.le_refl _) _).alloc (by simp) _
  have HT : Hid (TermsAt W (.slice ta c.terms.length tc) c.terms) := h.t.below hb0
  have HX : Hid (IntsAt W (.slice xa c.xs.length xc) c.xs) := h.x.below hb0
  have HB : Hid (Below w.heap.size w W) := hb0
  have c2 : W.cell? ⟨w.heap.size, 2, none⟩ = some (.slice ta c.terms.length tc) := by rw [← hW]; simp
  have c5 : W.cell? ⟨w.heap.size, 5, none⟩ = some (.int .i64 c.x) := by rw [← hW]; simp
  have c6 : W.cell? ⟨w.heap.size, 6, none⟩ = some (.int .i64 c.y) := by rw [← hW]; simp
  have c7 : W.cell? ⟨w.heap.size, 7, none⟩ = some (.slice xa c.xs.length xc) := by rw [← hW]; simp
  have n0 : W.cell? ⟨w.heap.size + 1, 0, none⟩ = some (.int .i64 n) := by rw [← hW]; simp
  have hsz : W.heap.size = w.heap.size + 1 + 1 := by rw [← hW]; simp
  have hsI : w.heap.size + 1 < W.heap.size := by omega
  have HN : Hid (∀ w1, Below W.heap.size W w1 → w1.cell? ⟨w.heap.size + 1, 0, none⟩ = some (.int .i64 n)) := fun w1 hb => (hb.cell (p := ⟨w.heap.size + 1, 0, none⟩) hsI).trans n0
  have HC7 : Hid (∀ w1, Below W.heap.size W w1 → w1.cell? ⟨w.heap.size, 7, none⟩ = some (.slice xa c.xs.length xc)) := fun w1 hb => (hb.cell (p := ⟨w.heap.size, 7, none⟩) (show w.heap.size < W.heap.size by omega)).trans c7
  clear h hb0 hsz
  have hres : Hid (Md.placesB c n = (Md.plB n c.x && Md.plB n c.y && c.terms.all (fun t => Md.plB n t.2) && c.xs.all (Md.plB n))) := rfl
  cases p1 : Md.plB n c.x
  · go_enter Tryd.func58, Tryd.ntmps58
    go_wp2_with (first | (go_at_call 73; refine (isPlace_any _ _ _).mono ?_; rintro e w' ⟨rfl, rfl⟩))
    go_ret
    exact ⟨ret_bool (by rw [hres.out]; simp [p1]), HB.out⟩
  · cases p2 : Md.plB n c.y
    · go_enter Tryd.func58, Tryd.ntmps58
      go_wp2_with (first | (go_at_call 73; refine (isPlace_any _ _ _).mono ?_; rintro e w' ⟨rfl, rfl⟩))
      go_ret
      exact ⟨ret_bool (by rw [hres.out]; simp [p2]), HB.out⟩
    · cases p3 : c.terms.all (fun t => Md.plB n t.2)
      · go_enter Tryd.func58, Tryd.ntmps58
        go_wp2_with (first | (go_at_call 73; refine (isPlace_any _ _ _).mono ?_; rintro e w' ⟨rfl, rfl⟩) | (go_at_call 63; refine (areTermPlaces_any _ c.terms n _ HT.out).mono ?_; rintro e w1 ⟨rfl, hb1⟩))
        go_ret
        exact ⟨ret_bool (by rw [hres.out, p3]; simp), HB.out.trans (hb1.mono HB.out.size)⟩
      · go_enter Tryd.func58, Tryd.ntmps58
        go_wp2_with (first | (go_at_call 73; refine (isPlace_any _ _ _).mono ?_; rintro e w' ⟨rfl, rfl⟩) | (go_at_call 63; refine (areTermPlaces_any _ c.terms n _ HT.out).mono ?_; rintro e w1 ⟨rfl, hb1⟩; have e7 := HC7.out _ hb1) | (go_at_call 74; refine (every_place _ c.xs n _ _ (HX.out.below hb1) (HN.out _ hb1)).mono ?_; rintro e w2 ⟨rfl, rfl⟩))
        go_ret
        exact ⟨ret_bool (by rw [hres.out, p3, p1, p2]; simp), HB.out.trans (hb1.mono HB.out.size)⟩
end Go.Proofs.YtakdboddbgihpaaDoor

namespace Go.Proofs.YtakdboddbgihpaaDoor
open Go.RowKit

/-- How far a word is moved, and what is left of it. -/
def fCl (x : Int) : Int := if 32 < (if x < 0 then 0 else x) then 32 else if x < 0 then 0 else x
def fWd (k i : Int) : Int := 4294967295 * 2 ^ (fCl (k - i * 32)).toNat % 4294967296

set_option maxRecDepth 10000 in
set_option maxHeartbeats 400000 in
theorem from_any (q : Int) (w : World) (h1 : -100000 ≤ q) (h2 : q ≤ 100000) : Calls Tryd.prog 40 #[.int .i64 q] w fun e w' => e = .returned (btVal (fWd q 0) (fWd q 1)) ∧ Below w.heap.size w w' := by
  obtain ⟨W, hW⟩ : ∃ W, (w.alloc (.cells #[.int .u32 0, .int .u32 0] 65)).alloc (.cells #[.int .u32 0, .int .u32 0] 65) = W := ⟨_, rfl⟩
  have hb0 : Below w.heap.size w W := by rw [← hW]; exact ((Below.refl _ _).alloc (Nat.le_refl _) _).alloc (by simp) _
  have HB : Hid (Below w.heap.size w W) := hb0
  have g0 : W.heap[w.heap.size]? = some (.cells #[.int .u32 0, .int .u32 0] 65 (0, 0)) := by rw [← hW, heap_alloc_old (w.alloc _) _ (by simp)]; exact heap_alloc_new w _
  have g1 : W.heap[w.heap.size + 1]? = some (.cells #[.int .u32 0, .int .u32 0] 65 (0, 0)) := by rw [← hW]; exact heap_alloc2_new w _ _
  have c0 : W.cell? ⟨w.heap.size, 0, none⟩ = some (.int .u32 0) := cell_of g0 0
  have c1 : W.cell? ⟨w.heap.size, 1, none⟩ = some (.int .u32 0) := cell_of g0 1
  have c2 : W.cell? ⟨w.heap.size + 1, 0, none⟩ = some (.int .u32 0) := cell_of g1 0
  have c3 : W.cell? ⟨w.heap.size + 1, 1, none⟩ = some (.int .u32 0) := cell_of g1 1
  have z0 : ∀ i, W.frozen? ⟨w.heap.size, i, none⟩ = false := frozen_of g0
  have z1 : ∀ i, W.frozen? ⟨w.heap.size + 1, i, none⟩ = false := frozen_of g1
  have HR : Hid (((W.setCell ⟨w.heap.size + 1, 0, none⟩ (.int .u32 (fWd q 0))).setCell ⟨w.heap.size + 1, 1, none⟩ (.int .u32 (fWd q 1))).heap[w.heap.size]? = some (.cells #[.int .u32 0, .int .u32 0] 65 (0, 0))) := by
    show _ = _
    rw [heap_setCell_other _ _ _ _ (by simp), heap_setCell_other _ _ _ _ (by simp)]
    exact g0
  clear hb0 g0 g1
  go_enter Tryd.func40, Tryd.ntmps40
  go_wp2_with fail
  go_loopw [6] (fun iv wr => ∃ k : Nat, iv = .int .i64 (k : Int) ∧ ((k = 0 ∧ wr = W) ∨ (k = 1 ∧ wr = W.setCell ⟨w.heap.size + 1, 0, none⟩ (.int .u32 (fWd q 0))) ∨ (k = 2 ∧ wr = (W.setCell ⟨w.heap.size + 1, 0, none⟩ (.int .u32 (fWd q 0))).setCell ⟨w.heap.size + 1, 1, none⟩ (.int .u32 (fWd q 1))))) (fun iv _ => 2 - (intOf iv).toNat)
  case atStart => exact ⟨0, rfl, .inl ⟨rfl, rfl⟩⟩
  case round =>
    obtain ⟨k, rfl, hk⟩ := hrel
    rcases hk with ⟨rfl, rfl⟩ | ⟨rfl, rfl⟩ | ⟨rfl, rfl⟩
    · go_wp2
      go_roundw
      case rel => exact ⟨1, rfl, by simp [fWd, fCl]⟩
      case measure => simp [intOf]
    · go_wp2
      go_roundw
      case rel => exact ⟨2, rfl, by simp [fWd, fCl]⟩
      case measure => simp [intOf]
    · go_wp2
      exact bodyPost_ret (v := btVal (fWd q 0) (fWd q 1)) (results_cell_row Tryd.results40 _ _ w.heap.size 65 #[.int .u32 (fWd q 0), .int .u32 (fWd q 1)] (0, 0) _ rfl (set2 HR.out _ _) und65 rfl info65) rfl ⟨rfl, ((((HB.out.setCell (by simp) _).setCell (by simp) _).setCell (by simp) _).setCell (by simp) _)⟩
end Go.Proofs.YtakdboddbgihpaaDoor

namespace Go.Proofs.YtakdboddbgihpaaDoor
open Go.RowKit

/-- A domain, as a value. -/
def dmVal (f a b : Int) : Value := .agg #[.int .i64 f, .int .u32 a, .int .u32 b]
/-- Where a number stands. -/
def dPlc (f v : Int) : Int := min (max v (f - 1)) (f + 64) - f
theorem dPlc_lo (f v : Int) : -1 ≤ dPlc f v := by unfold dPlc; omega
theorem dPlc_hi (f v : Int) : dPlc f v ≤ 64 := by unfold dPlc; omega

set_option maxRecDepth 10000 in
set_option maxHeartbeats 400000 in
theorem place_any (f a b v : Int) (w : World) (h1 : -1000000000 ≤ f) (h2 : f ≤ 1000000000) : Calls Tryd.prog 44 #[dmVal f a b, .int .i64 v] w fun e w' => e = .returned (.int .i64 (dPlc f v)) ∧ Below w.heap.size w w' := by
  unfold dmVal
  go_enter Tryd.func44, Tryd.ntmps44
  go_wp2
  all_goals (go_ret; exact ⟨ret_int (by unfold dPlc; omega), (Below.refl _ _).alloc (Nat.le_refl _) _⟩)

/-- Is a place in a set? -/
def btAt (a b k : Int) : Bool := decide (0 ≤ k) && decide (k < 64) && (bits .and .u32 ((if k < 32 then a else b) / 2 ^ (k % 32).toNat) 1 == 1)

set_option maxRecDepth 10000 in
set_option maxHeartbeats 400000 in
theorem at_any (a b k : Int) (w : World) : Calls Tryd.prog 43 #[btVal a b, .int .i64 k] w fun e w' => e = .returned (.bool (btAt a b k)) ∧ Below w.heap.size w w' := by
  unfold btVal
  have HB : Hid (Below w.heap.size w (w.alloc (.cells #[.int .u32 a, .int .u32 b] 65))) := (Below.refl _ _).alloc (Nat.le_refl _) _
  by_cases h0 : 0 ≤ k
  · by_cases h1 : k < 64
    · by_cases h2 : k < 32
      · have e : k / 32 = 0 := by omega
        go_enter Tryd.func43, Tryd.ntmps43
        go_wp2
        go_ret
        exact ⟨ret_bool (by simp [btAt, h0, h1, h2]), HB.out⟩
      · have e : k / 32 = 1 := by omega
        go_enter Tryd.func43, Tryd.ntmps43
        go_wp2
        go_ret
        exact ⟨ret_bool (by simp [btAt, h0, h1, Int.not_lt.2 h2]), HB.out⟩
    · go_enter Tryd.func43, Tryd.ntmps43
      go_wp2
      go_ret
      exact ⟨ret_bool (by simp [btAt, Int.not_lt.2 h1]), HB.out⟩
  · go_enter Tryd.func43, Tryd.ntmps43
    go_wp2
    go_ret
    exact ⟨ret_bool (by simp [btAt, Int.not_le.2 h0]), HB.out⟩

end Go.Proofs.YtakdboddbgihpaaDoor
