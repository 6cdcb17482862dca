/-
  Put together: MdRef, MdAt, MdEvery.
-/
import Derived.Test.YtdfbmfikhccajaaDoorJ05
namespace Go.Proofs.YtdfbmfikhccajaaDoor
open Go.RowKit
/-- The mark of a place. -/
def lotI (k : Nat) : Int := if k % 2 = 0 then -7701 else -7702
end Go.Proofs.YtdfbmfikhccajaaDoor

namespace Go.Proofs.YtdfbmfikhccajaaDoor
open Go.RowKit

/-- A slice of ints. -/
def IntsAt (w : World) (v : Value) (l : List Int) : Prop :=
  ∃ a cap, v = .slice a l.length cap ∧ l.length ≤ maxLen ∧ (0 < l.length → ∃ b off, a = some ⟨b, off, none⟩ ∧ b < w.heap.size ∧ ∀ j (h : j < l.length), w.cell? ⟨b, off + j, none⟩ = some (.int .i64 l[j]))
/-- A slice of terms. -/
def TermsAt (w : World) (v : Value) (l : List (Int × Int)) : Prop :=
  ∃ a cap, v = .slice a l.length cap ∧ l.length ≤ maxLen ∧ (0 < l.length → ∃ b off, a = some ⟨b, off, none⟩ ∧ b < w.heap.size ∧
    ∀ j (h : j < l.length), w.cell? ⟨b, off + j * 2, none⟩ = some (.int .i64 l[j].1) ∧ w.cell? ⟨b, off + j * 2 + 1, none⟩ = some (.int .i64 l[j].2))
/-- A slice of slices of ints. -/
def RowsAt (w : World) (v : Value) (l : List (List Int)) : Prop :=
  ∃ a cap, v = .slice a l.length cap ∧ l.length ≤ maxLen ∧ (0 < l.length → ∃ b off, a = some ⟨b, off, none⟩ ∧ b < w.heap.size ∧
    ∀ j (h : j < l.length), ∃ u, w.cell? ⟨b, off + j, none⟩ = some u ∧ IntsAt w u l[j])
/-- A constraint's value. -/
def cnVal (c : Md.Cn) (vt vx vb vr : Value) : Value :=
  .agg #[.int .i64 c.kind, .int .i64 c.op, vt, .int .i64 c.k, .int .i64 c.v, .int .i64 c.x, .int .i64 c.y, vx, vb, vr]
/-- Its lists. -/
structure CnAt (w : World) (c : Md.Cn) (vt vx vb vr : Value) : Prop where
  t : TermsAt w vt c.terms
  x : IntsAt w vx c.xs
  xcap : ∀ a n cp, vx = .slice a n cp → n ≤ cp
  b : IntsAt w vb c.table
  r : RowsAt w vr c.rows

theorem IntsAt.mono {w w' : World} {v : Value} {l : List Int} (h : IntsAt w v l) (hs : w.heap.size ≤ w'.heap.size) (hb : ∀ b o, b < w.heap.size → w'.cell? ⟨b, o, none⟩ = w.cell? ⟨b, o, none⟩) : IntsAt w' v l := by
  obtain ⟨a, cap, hv, hl, hc⟩ := h
  refine ⟨a, cap, hv, hl, fun h0 => ?_⟩
  obtain ⟨b, off, ha, hbs, hcell⟩ := hc h0
  exact ⟨b, off, ha, Nat.lt_of_lt_of_le hbs hs, fun j hj => (hb _ _ hbs).trans (hcell j hj)⟩
theorem IntsAt.below {w w' : World} {v : Value} {l : List Int} (h : IntsAt w v l) (hb : Below w.heap.size w w') : IntsAt w' v l := h.mono hb.size (bcell hb).1
theorem TermsAt.below {w w' : World} {v : Value} {l : List (Int × Int)} (h : TermsAt w v l) (hb : Below w.heap.size w w') : TermsAt w' v l := by
  obtain ⟨a, cap, hv, hl, hc⟩ := h
  refine ⟨a, cap, hv, hl, fun h0 => ?_⟩
  obtain ⟨b, off, ha, hbs, hcell⟩ := hc h0
  exact ⟨b, off, ha, Nat.lt_of_lt_of_le hbs hb.size, fun j hj => ⟨((bcell hb).1 _ _ hbs).trans (hcell j hj).1, ((bcell hb).1 _ _ hbs).trans (hcell j hj).2⟩⟩
theorem RowsAt.below {w w' : World} {v : Value} {l : List (List Int)} (h : RowsAt w v l) (hb : Below w.heap.size w w') : RowsAt w' v l := by
  obtain ⟨a, cap, hv, hl, hc⟩ := h
  refine ⟨a, cap, hv, hl, fun h0 => ?_⟩
  obtain ⟨b, off, ha, hbs, hcell⟩ := hc h0
  refine ⟨b, off, ha, Nat.lt_of_lt_of_le hbs hb.size, fun j hj => ?_⟩
  obtain ⟨u, hu, hI⟩ := hcell j hj
  exact ⟨u, ((bcell hb).1 _ _ hbs).trans hu, hI.below hb⟩
theorem CnAt.below {w w' : World} {c : Md.Cn} {vt vx vb vr : Value} (h : CnAt w c vt vx vb vr) (hb : Below w.heap.size w w') : CnAt w' c vt vx vb vr :=
  ⟨h.t.below hb, h.x.below hb, h.xcap, h.b.below hb, h.r.below hb⟩
theorem IntsAt.form {w : World} {v : Value} {l : List Int} (h : IntsAt w v l) : ∃ a cap, v = .slice a l.length cap ∧ l.length ≤ maxLen := by
  obtain ⟨a, cap, hv, hl, _⟩ := h
  exact ⟨a, cap, hv, hl⟩
theorem TermsAt.form {w : World} {v : Value} {l : List (Int × Int)} (h : TermsAt w v l) : ∃ a cap, v = .slice a l.length cap ∧ l.length ≤ maxLen := by
  obtain ⟨a, cap, hv, hl, _⟩ := h
  exact ⟨a, cap, hv, hl⟩
theorem RowsAt.form {w : World} {v : Value} {l : List (List Int)} (h : RowsAt w v l) : ∃ a cap, v = .slice a l.length cap ∧ l.length ≤ maxLen := by
  obtain ⟨a, cap, hv, hl, _⟩ := h
  exact ⟨a, cap, hv, hl⟩

set_option maxHeartbeats 400000 in
theorem every_num (v : Value) (l : List Int) (w : World) (h : IntsAt w v l) : Calls Tryd.prog 54 #[v, .func (.func 33) #[] #[]] w fun e w' => e = .returned (.bool (l.all Md.numB)) ∧ w' = w := by
  obtain ⟨a, cap, rfl, hm, hc⟩ := h
  unfold maxLen at hm
  have HC : Hid (0 < l.length → ∃ b off, a = some ⟨b, off, none⟩ ∧ b < w.heap.size ∧ ∀ j (h : j < l.length), w.cell? ⟨b, off + j, none⟩ = some (.int .i64 l[j])) := hc
  have H0 : Hid ((l.take 0).all Md.numB = true) := by show _ = _; simp
  clear hc
  go_enter Tryd.func54, Tryd.ntmps54
  go_wp2
  go_loop [9] (fun iv => ∃ k : Nat, iv = .int .i64 (k : Int) ∧ k ≤ l.length ∧ Hid ((l.take k).all Md.numB = true)) (fun iv => l.length - (intOf iv).toNat)
  case atStart => exact ⟨0, rfl, Nat.zero_le _, H0⟩
  case round =>
    obtain ⟨k, rfl, hk, hA⟩ := hrel
    clear H0
    by_cases hlt : k < l.length
    · obtain ⟨b, off, rfl, hb, hc⟩ := HC.out (by omega)
      have hcell := hc k hlt
      have hkI : (k : Int) < (l.length : Int) := by omega
      clear hc
      cases hp : Md.numB l[k]
      · have hres : Hid (l.all Md.numB = false) := Md.all_stop hlt hp
        generalize l[k] = x at *
        go_wp2_with (go_at_call 33; refine (isNumber_any _ _).mono ?_; rintro e w' ⟨rfl, rfl⟩)
        go_ret
        exact ⟨ret_bool hres.out.symm, rfl⟩
      · have hres : Hid ((l.take (k + 1)).all Md.numB = true) := Md.all_next hA.out hlt hp
        generalize l[k] = x at *
        go_wp2_with (go_at_call 33; refine (isNumber_any _ _).mono ?_; rintro e w' ⟨rfl, rfl⟩)
        go_round
        case rel => exact ⟨k + 1, by go_num, by omega, hres⟩
        case measure => simp [intOf]; omega
    · have hkI : ¬ (k : Int) < (l.length : Int) := by omega
      have hres : Hid (l.all Md.numB = true) := Md.all_done hA.out (by omega)
      go_wp2
      go_ret
      exact ⟨ret_bool hres.out.symm, rfl⟩
end Go.Proofs.YtdfbmfikhccajaaDoor

namespace Go.Proofs.YtdfbmfikhccajaaDoor
open Go.RowKit

set_option maxHeartbeats 400000 in
theorem clos122 (x n : Int) (p : Nat) (w : World) (h : w.cell? ⟨p, 0, none⟩ = some (.int .i64 n)) : Calls Tryd.prog 55 #[.int .i64 x, .pointer (some ⟨p, 0, none⟩)] w fun e w' => e = .returned (.bool (Md.plB n x)) ∧ w' = w := by
  go_enter Tryd.func55, Tryd.ntmps55
  go_wp2_with (go_at_call 53; refine (isPlace_any _ _ _).mono ?_; rintro e w' ⟨rfl, rfl⟩)
  go_ret
  exact ⟨rfl, rfl⟩

set_option maxHeartbeats 400000 in
theorem every_place (v : Value) (l : List Int) (n : Int) (p : Nat) (w : World) (h : IntsAt w v l) (hp : w.cell? ⟨p, 0, none⟩ = some (.int .i64 n)) : Calls Tryd.prog 54 #[v, .func (.func 55) #[] #[.pointer (some ⟨p, 0, none⟩)]] w fun e w' => e = .returned (.bool (l.all (Md.plB n))) ∧ w' = w := by
  obtain ⟨a, cap, rfl, hm, hc⟩ := h
  unfold maxLen at hm
  have HC : Hid (0 < l.length → ∃ b off, a = some ⟨b, off, none⟩ ∧ b < w.heap.size ∧ ∀ j (h : j < l.length), w.cell? ⟨b, off + j, none⟩ = some (.int .i64 l[j])) := hc
  have HP : Hid (w.cell? ⟨p, 0, none⟩ = some (.int .i64 n)) := hp
  have H0 : Hid ((l.take 0).all (Md.plB n) = true) := by show _ = _; simp
  clear hc hp
  go_enter Tryd.func54, Tryd.ntmps54
  go_wp2
  go_loop [9] (fun iv => ∃ k : Nat, iv = .int .i64 (k : Int) ∧ k ≤ l.length ∧ Hid ((l.take k).all (Md.plB n) = true)) (fun iv => l.length - (intOf iv).toNat)
  case atStart => exact ⟨0, rfl, Nat.zero_le _, H0⟩
  case round =>
    obtain ⟨k, rfl, hk, hA⟩ := hrel
    clear H0
    by_cases hlt : k < l.length
    · obtain ⟨b, off, rfl, hb, hc⟩ := HC.out (by omega)
      have hcell := hc k hlt
      have hkI : (k : Int) < (l.length : Int) := by omega
      clear hc
      cases hp : Md.plB n l[k]
      · have hres : Hid (l.all (Md.plB n) = false) := Md.all_stop hlt hp
        generalize l[k] = x at *
        go_wp2_with (go_at_call 55; refine (clos122 _ n _ _ HP.out).mono ?_; rintro e w' ⟨rfl, rfl⟩)
        go_ret
        exact ⟨ret_bool hres.out.symm, rfl⟩
      · have hres : Hid ((l.take (k + 1)).all (Md.plB n) = true) := Md.all_next hA.out hlt hp
        generalize l[k] = x at *
        go_wp2_with (go_at_call 55; refine (clos122 _ n _ _ HP.out).mono ?_; rintro e w' ⟨rfl, rfl⟩)
        go_round
        case rel => exact ⟨k + 1, by go_num, by omega, hres⟩
        case measure => simp [intOf]; omega
    · have hkI : ¬ (k : Int) < (l.length : Int) := by omega
      have hres : Hid (l.all (Md.plB n) = true) := Md.all_done hA.out (by omega)
      go_wp2
      go_ret
      exact ⟨ret_bool hres.out.symm, rfl⟩

set_option maxHeartbeats 400000 in
theorem clos124 (c x : Int) (w : World) : Calls Tryd.prog 57 #[.agg #[.int .i64 c, .int .i64 x]] w fun e w' => e = .returned (.bool (Md.cfB c)) ∧ Below w.heap.size w w' := by
  by_cases h : c = 0
  · subst h
    go_enter Tryd.func57, Tryd.ntmps57
    go_wp2
    go_ret
    exact ⟨rfl, (Below.refl _ _).alloc (Nat.le_refl _) _⟩
  · have hb : (c != 0) = true := by simp [h]
    have hd : Md.cfB c = decide (-1000000 ≤ c ∧ c ≤ 1000000) := by unfold Md.cfB; simp [h]
    rw [hd]; clear hd
    go_enter Tryd.func57, Tryd.ntmps57
    go_wp2
    all_goals (go_ret; refine ⟨ret_bool ?_, (Below.refl _ _).alloc (Nat.le_refl _) _⟩; rw [Bool.eq_iff_iff]; simp; try omega)

set_option maxHeartbeats 400000 in
theorem clos125 (c x n : Int) (p : Nat) (w : World) (hp : p < w.heap.size) (h : w.cell? ⟨p, 0, none⟩ = some (.int .i64 n)) : Calls Tryd.prog 58 #[.agg #[.int .i64 c, .int .i64 x], .pointer (some ⟨p, 0, none⟩)] w fun e w' => e = .returned (.bool (Md.plB n x)) ∧ Below w.heap.size w w' := by
  go_enter Tryd.func58, Tryd.ntmps58
  go_wp2_with (go_at_call 53; refine (isPlace_any _ _ _).mono ?_; rintro e w' ⟨rfl, rfl⟩)
  go_ret
  exact ⟨rfl, (Below.refl _ _).alloc (Nat.le_refl _) _⟩
end Go.Proofs.YtdfbmfikhccajaaDoor
