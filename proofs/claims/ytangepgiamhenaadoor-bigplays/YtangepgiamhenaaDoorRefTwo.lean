/-
  Put together: RefCmp, RefSmall.
-/
import Derived.Test.YtangepgiamhenaaDoorRefOf
import Derived.WalkSmall
import Derived.Deep.RegionHeld3
import Derived.Deep.DrawnRows
namespace Go.Proofs.YtangepgiamhenaaDoor
open Go.RowKit
open Bn (limbs)

/-- A slice of numbers that has one is no nil. -/
theorem IntsAt.pos {w : World} {v : Value} {l : List Nat} (h : IntsAt w v l) (hl : 0 < l.length) : ∃ b cap, v = .slice (some ⟨b, 0, none⟩) l.length cap ∧ b < w.heap.size ∧ l.length ≤ cap ∧ cap ≤ maxLen ∧
    ∀ j (h : j < l.length), w.cell? ⟨b, j, none⟩ = some (.int .i64 ((l[j] : Nat) : Int)) := by
  rcases h with h | h
  · rw [h.2] at hl; simp at hl
  · exact h
theorem IntsAt.form {w : World} {v : Value} {l : List Nat} (h : IntsAt w v l) : ∃ a cap, v = .slice a l.length cap ∧ l.length ≤ maxLen := by
  rcases h with h | ⟨b, cap, hv, _, h1, h2, _⟩
  · rw [h.2]; exact ⟨none, 0, h.1, by simp⟩
  · exact ⟨_, cap, hv, by omega⟩

theorem top_step (x k : Nat) : x / 1000000000 ^ k = 1000000000 * (x / 1000000000 ^ (k + 1)) + x / 1000000000 ^ k % 1000000000 := by
  have : x / 1000000000 ^ (k + 1) = x / 1000000000 ^ k / 1000000000 := by rw [Nat.pow_succ, Nat.div_div_eq_div_mul]
  rw [this]; omega
theorem lt_of_top {x y k : Nat} (h : x / 1000000000 ^ k < y / 1000000000 ^ k) : x < y := by
  rcases Nat.lt_or_ge x y with h1 | h1
  · exact h1
  · have := Nat.div_le_div_right (c := 1000000000 ^ k) h1
    omega
theorem lt_of_length {x y : Nat} (h : (limbs x).length < (limbs y).length) : x < y := by
  have h1 := (Bn.limbs_length_le x (limbs x).length).1 (Nat.le_refl _)
  have h2 : ¬ y < 1000000000 ^ (limbs x).length := fun h3 => by
    have := (Bn.limbs_length_le y (limbs x).length).2 h3
    omega
  omega

/-- What is known in sizes' loop: of the limbs from k on both say the same. -/
theorem sizes_lt {x y k : Nat} (hx : k < (limbs x).length) (hy : k < (limbs y).length) (h : x / 1000000000 ^ (k + 1) = y / 1000000000 ^ (k + 1)) (hlt : (limbs x)[k] < (limbs y)[k]) : x < y := by
  rw [Bn.get_limbs hx, Bn.get_limbs hy] at hlt
  refine lt_of_top (k := k) ?_
  rw [top_step x, top_step y, h]; omega
theorem sizes_eq {x y k : Nat} (hx : k < (limbs x).length) (hy : k < (limbs y).length) (h : x / 1000000000 ^ (k + 1) = y / 1000000000 ^ (k + 1)) (he : (limbs x)[k] = (limbs y)[k]) : x / 1000000000 ^ k = y / 1000000000 ^ k := by
  rw [Bn.get_limbs hx, Bn.get_limbs hy] at he
  rw [top_step x, top_step y, h]; omega

set_option maxHeartbeats 400000 in
set_option maxRecDepth 100000 in
theorem sizes_any (x y : Nat) (va vb : Value) (w : World) (ha : IntsAt w va (limbs x)) (hb : IntsAt w vb (limbs y)) :
    Calls Tryd.prog 54 #[va, vb] w fun e w' => e = .returned (.int .i64 (cmpI x y)) ∧ Below w.heap.size w w' := by
  obtain ⟨aa, ca, rfl, hla⟩ := ha.form
  obtain ⟨ab, cb, rfl, hlb⟩ := hb.form
  unfold maxLen at hla hlb
  rcases Nat.lt_trichotomy (limbs x).length (limbs y).length with hlt | heq | hgt
  · have hne : (((limbs x).length : Int) != ((limbs y).length : Int)) = true := by simp; omega
    go_enter Tryd.func54, Tryd.ntmps54
    go_wp2
    go_ret
    exact ⟨ret_int (cmpI_lt (by have := lt_of_length hlt; omega)).symm, Below.refl _ _⟩
  · have hne : (((limbs x).length : Int) != ((limbs y).length : Int)) = false := by simp; omega
    have HE : Hid ((limbs x).length = (limbs y).length) := heq
    have HA : Hid (IntsAt w (.slice aa (limbs x).length ca) (limbs x)) := ha
    have HB : Hid (IntsAt w (.slice ab (limbs y).length cb) (limbs y)) := hb
    have H0 : Hid (x / 1000000000 ^ (limbs x).length = y / 1000000000 ^ (limbs x).length) := by
      have h1 := (Bn.limbs_length_le x (limbs x).length).1 (Nat.le_refl _)
      have h2 := (Bn.limbs_length_le y (limbs y).length).1 (Nat.le_refl _)
      rw [← heq] at h2
      show _ = _
      rw [Nat.div_eq_of_lt h1, Nat.div_eq_of_lt h2]
    clear heq ha hb
    go_enter Tryd.func54, Tryd.ntmps54
    go_wp2
    go_loopw [5] (fun iv wr => ∃ (k : Nat) (i : Int), iv = .int .i64 i ∧ i = (k : Int) - 1 ∧ k ≤ (limbs x).length ∧ Hid (x / 1000000000 ^ k = y / 1000000000 ^ k) ∧ Below w.heap.size w wr) (fun iv _ => (intOf iv + 1).toNat)
    case atStart => exact ⟨(limbs x).length, _, rfl, rfl, Nat.le_refl _, H0, Below.refl _ _⟩
    case round =>
      obtain ⟨k, i, rfl, hik, hk, hH, hbel⟩ := hrel
      clear H0
      cases k with
      | zero =>
        obtain rfl : i = -1 := by omega
        clear hik
        go_wp2
        go_ret
        have e : x = y := by have := hH.out; simpa using this
        exact ⟨ret_int (cmpI_eq (by omega) (by omega)).symm, hbel⟩
      | succ j =>
        obtain rfl : i = (j : Int) := by omega
        have hjx : j < (limbs x).length := by omega
        have hjy : j < (limbs y).length := by have := HE.out; omega
        obtain ⟨ba, ca', hva, hba, _, _, hca⟩ := HA.out.pos (by omega)
        obtain ⟨bb, cb', hvb, hbb, _, _, hcb⟩ := HB.out.pos (by omega)
        injection hva with e1 e2 e3
        injection hvb with e4 e5 e6
        subst e1 e3 e4 e6
        have h1 : wr.cell? ⟨ba, j, none⟩ = some (.int .i64 (((limbs x)[j] : Nat) : Int)) := (hbel.cell (p := ⟨ba, j, none⟩) hba).trans (hca j hjx)
        have h2 : wr.cell? ⟨bb, j, none⟩ = some (.int .i64 (((limbs y)[j] : Nat) : Int)) := (hbel.cell (p := ⟨bb, j, none⟩) hbb).trans (hcb j hjy)
        have h3 : (j : Int) < ((limbs x).length : Int) := by omega
        have h4 : (j : Int) < ((limbs y).length : Int) := by omega
        have h5 := Bn.limbs_get_lt hjx
        have h6 := Bn.limbs_get_lt hjy
        have HL : Hid ((limbs x)[j] < (limbs y)[j] → x < y) := sizes_lt hjx hjy hH.out
        have HG : Hid ((limbs y)[j] < (limbs x)[j] → y < x) := sizes_lt hjy hjx hH.out.symm
        have HQ : Hid ((limbs x)[j] = (limbs y)[j] → x / 1000000000 ^ j = y / 1000000000 ^ j) := sizes_eq hjx hjy hH.out
        generalize (limbs x)[j] = p at *
        generalize (limbs y)[j] = q at *
        clear hca hcb hH hik
        by_cases hpq : p < q
        · have hxy := HL.out hpq
          go_wp2
          go_quiet (fail)
          go_wp2
          go_ret
          exact ⟨ret_int (cmpI_lt (by omega)).symm, below_drewN hbel _⟩
        · have hpq' : ¬ (p : Int) < (q : Int) := by omega
          by_cases hqp : q < p
          · have hxy := HG.out hqp
            go_wp2
            go_quiet (fail)
            go_wp2
            go_quiet (fail)
            go_wp2
            go_ret
            exact ⟨ret_int (cmpI_gt (by omega)).symm, below_drewN (below_drewN hbel _) _⟩
          · have hqp' : ¬ (q : Int) < (p : Int) := by omega
            have hxy : Hid (x / 1000000000 ^ j = y / 1000000000 ^ j) := HQ.out (by omega)
            go_wp2
            go_quiet (fail)
            go_wp2
            go_quiet (fail)
            go_wp2
            go_roundw
            case rel => exact ⟨j, _, rfl, rfl, by omega, hxy, below_drewN hbel _⟩
            case measure => simp [intOf]
  · have hne : (((limbs x).length : Int) != ((limbs y).length : Int)) = true := by simp; omega
    go_enter Tryd.func54, Tryd.ntmps54
    go_wp2
    go_ret
    exact ⟨ret_int (cmpI_gt (by have := lt_of_length hgt; omega)).symm, Below.refl _ _⟩

set_option maxHeartbeats 400000 in
set_option maxRecDepth 100000 in
theorem refSign_any (z : Int) (v : Value) (w : World) (h : RefAt w v z) :
    Calls Tryd.prog 41 #[v] w fun e w' => e = .returned (.int .i64 z.sign) ∧ Below w.heap.size w w' := by
  obtain ⟨s, rfl, hs⟩ := h
  obtain ⟨aa, ca, rfl, hla⟩ := hs.form
  unfold maxLen at hla
  rcases Int.lt_trichotomy z 0 with h | h | h
  · have hd : decide (z < 0) = true := by simpa using h
    have hl : (((limbs z.natAbs).length : Int) == 0) = false := by
      have : limbs z.natAbs ≠ [] := fun e => by rw [Bn.limbs_eq_nil] at e; omega
      simp; exact this
    rw [hd]
    go_enter Tryd.func41, Tryd.ntmps41
    go_wp2
    go_ret
    exact ⟨ret_int (Int.sign_eq_neg_one_of_neg h).symm, (Below.refl _ _).alloc (Nat.le_refl _) _⟩
  · subst h
    go_enter Tryd.func41, Tryd.ntmps41
    go_wp2
    go_ret
    exact ⟨rfl, (Below.refl _ _).alloc (Nat.le_refl _) _⟩
  · have hd : decide (z < 0) = false := by simp; omega
    have hl : (((limbs z.natAbs).length : Int) == 0) = false := by
      have : limbs z.natAbs ≠ [] := fun e => by rw [Bn.limbs_eq_nil] at e; omega
      simp; exact this
    rw [hd]
    go_enter Tryd.func41, Tryd.ntmps41
    go_wp2
    go_ret
    exact ⟨ret_int (Int.sign_eq_one_of_pos h).symm, (Below.refl _ _).alloc (Nat.le_refl _) _⟩

set_option maxHeartbeats 400000 in
set_option maxRecDepth 100000 in
theorem refCmp_any (y z : Int) (u v : Value) (w : World) (hu : RefAt w u y) (hv : RefAt w v z) :
    Calls Tryd.prog 52 #[u, v] w fun e w' => e = .returned (.int .i64 (cmpI y z)) ∧ Below w.heap.size w w' := by
  obtain ⟨s, rfl, hs⟩ := hu
  obtain ⟨t, rfl, ht⟩ := hv
  obtain ⟨pa, cs, rfl, hls⟩ := hs.form
  obtain ⟨pb, ct, rfl, hlt⟩ := ht.form
  have hb0 : Below w.heap.size w ((w.alloc (.cells #[.bool (decide (y < 0)), .slice pa (limbs y.natAbs).length cs] 30)).alloc (.cells #[.bool (decide (z < 0)), .slice pb (limbs z.natAbs).length ct] 30)) :=
    ((Below.refl _ _).alloc (Nat.le_refl _) _).alloc (by simp) _
  have HS : Hid _ := hs.below hb0
  have HT : Hid _ := ht.below hb0
  clear hs ht
  have hdef : Hid (∀ a b : Bool, decide (y < 0) = a → decide (z < 0) = b → cmpI y z = if a = b then (if a then - cmpI y.natAbs z.natAbs else cmpI y.natAbs z.natAbs) else (if a then -1 else 1)) := by
    intro a b ha hb
    subst ha hb
    unfold cmpI
    by_cases h1 : y < 0 <;> by_cases h2 : z < 0 <;> simp [h1, h2]
    · rw [← Int.sign_neg]; congr 1; omega
    · omega
    · omega
    · congr 1; omega
  have hcb : ∀ a b : Int, -1 ≤ cmpI a b ∧ cmpI a b ≤ 1 := by
    intro a b; unfold cmpI; rcases Int.lt_trichotomy (a - b) 0 with h | h | h
    · rw [Int.sign_eq_neg_one_of_neg h]; decide
    · rw [h]; decide
    · rw [Int.sign_eq_one_of_pos h]; decide
  have hcb1 := hcb y.natAbs z.natAbs
  clear hcb
  generalize hd1 : decide (y < 0) = d1 at *
  generalize hd2 : decide (z < 0) = d2 at *
  have HD := hdef.out d1 d2 rfl rfl
  have HD1 : Hid _ := HD
  clear HD hdef hd1 hd2
  cases d1 <;> cases d2
  · go_enter Tryd.func52, Tryd.ntmps52
    go_wp2_with (go_at_call 54; refine (sizes_any y.natAbs z.natAbs _ _ _ HS.out HT.out).mono ?_; rintro e w' ⟨rfl, hb⟩; obtain ⟨hc, hf⟩ := bcell hb)
    go_ret
    exact ⟨ret_int (by rw [HD1.out]; rfl), hb0.trans (hb.mono (by simp; omega))⟩
  · go_enter Tryd.func52, Tryd.ntmps52
    go_wp2
    go_ret
    exact ⟨ret_int (by rw [HD1.out]; rfl), hb0⟩
  · go_enter Tryd.func52, Tryd.ntmps52
    go_wp2
    go_ret
    exact ⟨ret_int (by rw [HD1.out]; rfl), hb0⟩
  · go_enter Tryd.func52, Tryd.ntmps52
    go_wp2_with (go_at_call 54; refine (sizes_any y.natAbs z.natAbs _ _ _ HS.out HT.out).mono ?_; rintro e w' ⟨rfl, hb⟩; obtain ⟨hc, hf⟩ := bcell hb)
    go_ret
    exact ⟨ret_int (by rw [HD1.out]; rfl), hb0.trans (hb.mono (by simp; omega))⟩

end Go.Proofs.YtangepgiamhenaaDoor

namespace Go.Proofs.YtangepgiamhenaaDoor
open Go.RowKit
open Bn (limbs)
attribute [local go_sem ↓] Go.wp_at_zero Go.wp_at_succ

theorem ret_ib {k : IntKind} {a b : Int} {c d : Bool} (h : a = b) (h' : c = d) : Ending.returned (.tuple #[.int k a, .bool c]) = .returned (.tuple #[.int k b, .bool d]) := by rw [h, h']

/-- What stays of a document's number that lies boxed in block N, whatever grows. -/
def Boxed (W : World) (N : Nat) (d : Bool) (s : Value) (z : Int) (w' : World) : Prop :=
  w'.cell? ⟨N, 0, none⟩ = some (.bool d) ∧ w'.cell? ⟨N, 1, none⟩ = some s ∧ RefAt w' (.agg #[.bool d, s]) z ∧ N < w'.heap.size ∧ Below W.heap.size W w'

theorem Boxed.next {W : World} {N : Nat} {d : Bool} {s : Value} {z : Int} {w1 w2 : World} (h : Boxed W N d s z w1) (hb : Below w1.heap.size w1 w2) : Boxed W N d s z w2 := by
  obtain ⟨h1, h2, h3, h4, h5⟩ := h
  exact ⟨(hb.cell (p := ⟨N, 0, none⟩) h4).trans h1, (hb.cell (p := ⟨N, 1, none⟩) h4).trans h2, h3.below hb, Nat.lt_of_lt_of_le h4 hb.size, h5.trans (hb.mono h5.size)⟩

theorem Boxed.ref {W : World} {N : Nat} {d : Bool} {s : Value} {z : Int} {w1 : World} (h : Boxed W N d s z w1) : RefAt w1 (.agg #[.bool d, s]) z := h.2.2.1

set_option maxHeartbeats 400000 in
set_option maxRecDepth 100000 in
theorem refSmall_in (z : Int) (v : Value) (w : World) (h : RefAt w v z) (h1 : -9223372036854775808 ≤ z) (h2 : z ≤ 9223372036854775807) :
    Calls Tryd.prog 39 #[v] w fun e w' => e = .returned (.tuple #[.int .i64 z, .bool true]) ∧ Below w.heap.size w w' := by
  obtain ⟨s, rfl, hs⟩ := h
  obtain ⟨pa, cs, rfl, hls⟩ := hs.form
  unfold maxLen at hls
  have hb0 : Below w.heap.size w (w.alloc (.cells #[.bool (decide (z < 0)), .slice pa (limbs z.natAbs).length cs] 30)) := (Below.refl _ _).alloc (Nat.le_refl _) _
  have HR : RefAt (w.alloc (.cells #[.bool (decide (z < 0)), .slice pa (limbs z.natAbs).length cs] 30)) (.agg #[.bool (decide (z < 0)), .slice pa (limbs z.natAbs).length cs]) z := ⟨_, rfl, hs.below hb0⟩
  go_enter Tryd.func39, Tryd.ntmps39
  go_wp2
  generalize hW : w.alloc (.cells #[.bool (decide (z < 0)), .slice pa (limbs z.natAbs).length cs] 30) = W at *
  have hN : W.heap.size = w.heap.size + 1 := by rw [← hW]; simp
  have c0 : W.cell? ⟨w.heap.size, 0, none⟩ = some (.bool (decide (z < 0))) := by rw [← hW]; simp
  have c1 : W.cell? ⟨w.heap.size, 1, none⟩ = some (.slice pa (limbs z.natAbs).length cs) := by rw [← hW]; simp
  generalize hd : decide (z < 0) = d at *
  have HW : Hid _ := hW
  have HD : Hid _ := hd
  clear hW hd
  have hc1 : ¬ 0 < cmpI z 9223372036854775807 := by
    rcases Int.lt_or_eq_of_le h2 with h | h
    · rw [cmpI_lt h]; decide
    · rw [cmpI_eq (by omega) (by omega)]; decide
  have hc2 : ¬ cmpI z (-9223372036854775808) < 0 := by
    rcases Int.lt_or_eq_of_le h1 with h | h
    · rw [cmpI_gt h]; decide
    · rw [cmpI_eq (by omega) (by omega)]; decide
  have hc1' : decide (0 < cmpI z 9223372036854775807) = false := by simpa using hc1
  have hc2' : decide (cmpI z (-9223372036854775808) < 0) = false := by simpa using hc2
  clear hc1 hc2
  have hbW : Below w.heap.size w W := hb0
  have h1' : Hid _ := h1
  have h2' : Hid _ := h2
  clear h1 h2 hb0 hs
  have hS : Boxed W w.heap.size d (.slice pa (limbs z.natAbs).length cs) z W.drew := ⟨c0, c1, HR.below (Below.refl _ _).drew, by show _ < W.heap.size; omega, (Below.refl _ _).drew⟩
  go_region_held3 (fun w' => w'.cell? ⟨w.heap.size, 0, none⟩ = some (.bool d) ∧ w'.cell? ⟨w.heap.size, 1, none⟩ = some (.slice pa (limbs z.natAbs).length cs) ∧ RefAt w' (.agg #[.bool d, .slice pa (limbs z.natAbs).length cs]) z ∧ w.heap.size < w'.heap.size ∧ Below W.heap.size W w')
    (first | exact hS | (refine Boxed.next (by assumption) (by assumption)))
    (first
      | (go_at_call 15; refine (refOf_any _ _ (by decide) (by decide)).mono ?_; rintro e w' ⟨v, rfl, hr, hb⟩)
      | (go_at_call 52; refine (refCmp_any z _ _ _ _ (Boxed.ref (by assumption)) (by assumption)).mono ?_; rintro e w' ⟨rfl, hb⟩))
  rename_i hHeld
  obtain ⟨d0, d1, dr, dn, db⟩ := hHeld
  have hbw : Below w.heap.size w w' := hbW.trans (db.mono hbW.size)
  obtain ⟨s', es, hI⟩ := dr
  obtain rfl : Value.slice pa (limbs z.natAbs).length cs = s' := by injection es with e; injection e with e; simp at e; exact e.2
  have HI : Hid (IntsAt w' (.slice pa (limbs z.natAbs).length cs) (limbs z.natAbs)) := hI
  have hx1 : Hid (z.natAbs ≤ 9223372036854775808) := by have := h1'.out; have := h2'.out; show _ ≤ _; omega
  clear hI es c0 c1 HR HW hbW hS hr hb db dn hc1' hc2' hN
  go_wp2
  go_loop [4, 5] (fun nv iv => ∃ (k : Nat) (i m : Int), iv = .int .i64 i ∧ i = (k : Int) - 1 ∧ k ≤ (limbs z.natAbs).length ∧ nv = .int .i64 m ∧ m = -((z.natAbs / 1000000000 ^ k : Nat) : Int)) (fun _ iv => (intOf iv + 1).toNat)
  case atStart =>
    refine ⟨(limbs z.natAbs).length, _, _, rfl, rfl, Nat.le_refl _, rfl, ?_⟩
    rw [Nat.div_eq_of_lt ((Bn.limbs_length_le _ _).1 (Nat.le_refl _))]; rfl
  case round =>
    obtain ⟨k, i, m, rfl, hik, hk, rfl, hm⟩ := hrel
    cases k with
    | zero =>
      obtain rfl : i = -1 := by omega
      have hm' : m = -(z.natAbs : Int) := by rw [hm]; simp
      have hx := hx1.out
      have hz1 := h1'.out
      have hz2 := h2'.out
      have HD' := HD.out
      cases d with
      | true =>
        have hz : z < 0 := by simpa using HD'
        have HM : Hid (z = m) := by show z = m; omega
        clear hik hm hm' hx hz1 hz2 HD' hz HI
        go_wp2
        go_ret2
        exact ⟨ret_ib HM.out.symm rfl, hbw⟩
      | false =>
        have hz : ¬ z < 0 := by simpa using HD'
        have hmb : -9223372036854775807 ≤ m := by omega
        have hmb2 : m ≤ 0 := by omega
        have HM : Hid (z = -m) := by show z = -m; omega
        clear hik hm hm' hx hz1 hz2 HD' hz HI
        go_wp2
        go_ret2
        exact ⟨ret_ib HM.out.symm rfl, hbw⟩
    | succ j =>
      obtain rfl : i = (j : Int) := by omega
      have hj : j < (limbs z.natAbs).length := by omega
      obtain ⟨ba, ca', hva, hba, _, _, hca⟩ := HI.out.pos (by omega)
      injection hva with e1 e2 e3
      subst e1 e3
      have g1 := hca j hj
      have g2 := Bn.get_limbs hj
      have g3 := top_step z.natAbs j
      have g4 : z.natAbs / 1000000000 ^ j ≤ z.natAbs := Nat.div_le_self _ _
      have g5 := hx1.out
      rw [← g2] at g3
      have g6 := Bn.limbs_get_lt hj
      generalize (limbs z.natAbs)[j] = p at *
      have b1 : -9223372036854775808 ≤ 1000000000 * m := by omega
      have b2 : m ≤ 0 := by omega
      have b3 : -9223372036854775808 ≤ 1000000000 * m - (p : Int) := by omega
      have HM : Hid (1000000000 * m - (p : Int) = -((z.natAbs / 1000000000 ^ j : Nat) : Int)) := by show _ = _; omega
      have h3 : (j : Int) < ((limbs z.natAbs).length : Int) := by omega
      clear hik hm hca g2 g3 g4 g5 HI
      go_wp2
      go_round
      case rel => exact ⟨j, _, _, rfl, rfl, by omega, rfl, HM.out⟩
      case measure => simp [intOf]

end Go.Proofs.YtangepgiamhenaaDoor
