/-
  Put together: RefPlus, RefTimes.
-/
import Derived.Test.YtangepgiamhenaaDoorRefMade
import Derived.Test.YtangepgiamhenaaDoorSub
namespace Go.Proofs.YtangepgiamhenaaDoor
open Go.RowKit
open Bn (limbs)

/-- The slice value v writes, in w, the size N. -/
def SizeAt (w : World) (v : Value) (N : Nat) : Prop := ∃ l, IntsAt w v l ∧ (∀ d ∈ l, d < 1000000000) ∧ Bn.val l = N

theorem told_le_one (f : Nat → Nat) (h : ∀ p, f p ≤ 1999999998) (k : Nat) : (told f k).2 ≤ 1 := by
  induction k with
  | zero => simp [told]
  | succ k ih => simp only [told]; have := h k; omega

/-- One number more in a row of the call's own. -/
theorem ints_rel {W wr w1 : World} {B : Nat} {v v' : Value} {L : List Nat} {d : Nat} {c : Int} {o : Obj} (hc : c = (d : Int)) (hown : wr.ownsRow B 3 1 v L.length (cellsOf L)) (hbel : Below B W wr) (hB : B ≤ wr.heap.size)
    (hown1 : w1.ownsRow B 3 1 v' (L.length + 1) (cellsOf L ++ [.int .i64 c])) (hg : (wr.alloc o).grownBy w1 v.ownBlock) :
    w1.ownsRow B 3 1 v' (L ++ [d]).length (cellsOf (L ++ [d])) ∧ Below B W w1 := by
  refine ⟨?_, (hbel.alloc hB o).grown hg (by simp; omega) (fun g hg => (hown.lt g hg).1)⟩
  rw [cellsOf_snoc, List.length_append, ← hc]; exact hown1

theorem ints_at {w : World} {v : Value} {l : List Nat} {p : Option Addr} {c : Nat} (h : IntsAt w v l) (hv : v = .slice p l.length c) {k : Nat} (hk : k < l.length) : ∃ b, p = some ⟨b, 0, none⟩ ∧ w.cell? ⟨b, k, none⟩ = some (.int .i64 ((lAt l k : Nat) : Int)) := by
  obtain ⟨b, cap, hv', hlt, hl, hm, hc⟩ := h.pos (by omega)
  rw [hv] at hv'
  injection hv' with e1 e2 e3
  exact ⟨b, e1, by rw [lAt_get hk]; exact hc k hk⟩

set_option maxHeartbeats 4000000 in
set_option maxRecDepth 100000 in
/-- more. -/
theorem more_any (a b : List Nat) (va vb : Value) (w : World) (ha : IntsAt w va a) (hb : IntsAt w vb b) (hda : ∀ d ∈ a, d < 1000000000) (hdb : ∀ d ∈ b, d < 1000000000) (hla : a.length ≤ 5000000) (hlb : b.length ≤ 5000000) :
    Calls Tryd.prog 53 #[va, vb] w fun e w' => ∃ v, e = .returned v ∧ SizeAt w' v (Bn.val a + Bn.val b) ∧ Below w.heap.size w w' := by
  obtain ⟨i0, hi, hz0, hz1, hz2⟩ := info_parts Tryd.info3
  obtain ⟨pa, ca, hva, _⟩ := ha.form
  obtain ⟨pb, cb, hvb, _⟩ := hb.form
  subst hva
  subst hvb
  have HA : Hid (∀ wr, Below w.heap.size w wr → IntsAt wr (.slice pa a.length ca) a) := fun wr h => ha.below h
  have HB : Hid (∀ wr, Below w.heap.size w wr → IntsAt wr (.slice pb b.length cb) b) := fun wr h => hb.below h
  obtain ⟨n, hn⟩ : ∃ n, n = max a.length b.length := ⟨_, rfl⟩
  have hn1 : a.length ≤ n := by omega
  have hn2 : b.length ≤ n := by omega
  have hn3 : n ≤ 5000000 := by omega
  have hn4 : n ≤ a.length ∨ n ≤ b.length := by omega
  obtain ⟨f, hf⟩ : ∃ f : Nat → Nat, f = fun p => lAt a p + lAt b p := ⟨_, rfl⟩
  have hf0 : ∀ p, f p = lAt a p + lAt b p := fun p => by rw [hf]
  have hfs : ∀ p, f p ≤ 1999999998 := fun p => by have := lAt_lt hda p; have := lAt_lt hdb p; rw [hf0]; omega
  have HV : Hid (∀ k, n ≤ k → (told f k).2 = 0 → Bn.val (told f k).1 = Bn.val a + Bn.val b) := by
    intro k hk h0
    have h := told_val f k
    rw [h0, Nat.mul_zero, Nat.add_zero] at h
    rw [h, hf, sumP_add, sumP_all (by omega), sumP_all (by omega)]
  have HF : Hid (∀ p, f p = lAt a p + lAt b p) := hf0
  clear ha hb hn hf hf0
  go_enter Tryd.func53, Tryd.ntmps53
  go_wp2
  go_loopw [5, 6, 7] (fun ov cv iv wr => ∃ k : Nat, iv = .int .i64 (k : Int) ∧ k ≤ n + 1 ∧ cv = .int .i64 (((told f k).2 : Nat) : Int) ∧ (k = n + 1 → (told f k).2 = 0) ∧ wr.ownsRow w.heap.size 3 1 ov (told f k).1.length (cellsOf (told f k).1) ∧ Below w.heap.size w wr) (fun _ _ iv _ => n + 2 - (intOf iv).toNat)
  case atStart => exact ⟨0, rfl, by omega, rfl, fun _ => rfl, World.ownsRow_nil _ _ _ _, Below.refl _ _⟩
  case round =>
    obtain ⟨k, rfl, hk, rfl, hk0, hown, hbel⟩ := hrel
    have hc := told_le_one f hfs k
    have hlen := told_length f k
    have hfk := HF.out k
    have hxb := lAt_lt hda k
    have hyb := lAt_lt hdb k
    have HN : Hid (told f (k + 1) = ((told f k).1 ++ [((told f k).2 + (lAt a k + lAt b k)) % 1000000000], ((told f k).2 + (lAt a k + lAt b k)) / 1000000000)) := by show _ = _; rw [← hfk]; rfl
    have HZ : Hid (k = n → (told f (k + 1)).2 = 0) := by
      intro h
      rw [HN.out, lAt_past (l := a) (by omega), lAt_past (l := b) (by omega)]
      show ((told f k).2 + (0 + 0)) / 1000000000 = 0
      omega
    have HVk := HV.out k
    have hLd := told_lt f k
    have HE : Hid (n ≤ k → (told f k).2 = 0 → Bn.val (told f k).1 = Bn.val a + Bn.val b) := HVk
    have HLd : Hid (∀ d ∈ (told f k).1, d < 1000000000) := hLd
    clear HVk hLd hfk
    generalize (told f k).1 = L at *
    generalize (told f k).2 = c at *
    by_cases hka : k < a.length
    · by_cases hkb : k < b.length
      · have hkn : k ≤ n := by omega
        obtain ⟨ba, rfl, hca⟩ := ints_at (HA.out wr hbel) rfl hka
        have hkaI : (k : Int) < (a.length : Int) := by omega
        obtain ⟨bb, rfl, hcb⟩ := ints_at (HB.out wr hbel) rfl hkb
        have hkbI : (k : Int) < (b.length : Int) := by omega
        generalize lAt a k = x at *
        generalize lAt b k = y at *
        go_wp2_with (at_builtin; refine append_one wr rfl _ _ 28 rfl w.heap.size 3 i0 .i64 8 Tryd.underlying28 hi hz0 hz1 hz2 _ _ _ (by rfl) hown _ _ rfl (by rfl) (by omega) (by decide) hbel.size ?_; intro v' w1 hown1 hgrow)
        have R := ints_rel (d := (c + (x + y)) % 1000000000) (by omega) hown hbel hbel.size hown1 hgrow
        have HR : Hid (w1.ownsRow w.heap.size 3 1 v' (L ++ [(c + (x + y)) % 1000000000]).length (cellsOf (L ++ [(c + (x + y)) % 1000000000])) ∧ Below w.heap.size w w1) := R
        clear R hown hown1 hgrow
        go_wp2
        go_roundw
        case rel =>
          refine ⟨k + 1, by go_num, by omega, ?_, ?_, ?_, HR.out.2⟩
          · rw [HN.out]; congr 1 <;> omega
          · intro h; exact HZ.out (by omega)
          · rw [HN.out]; exact HR.out.1
        case measure => simp [intOf]; omega
      · have hkn : k ≤ n := by omega
        obtain ⟨ba, rfl, hca⟩ := ints_at (HA.out wr hbel) rfl hka
        have hkaI : (k : Int) < (a.length : Int) := by omega
        have hkbI : ¬ (k : Int) < (b.length : Int) := by omega
        have hy0 : lAt b k = 0 := lAt_past (by omega)
        generalize lAt a k = x at *
        generalize lAt b k = y at *
        subst hy0
        go_wp2_with (at_builtin; refine append_one wr rfl _ _ 28 rfl w.heap.size 3 i0 .i64 8 Tryd.underlying28 hi hz0 hz1 hz2 _ _ _ (by rfl) hown _ _ rfl (by rfl) (by omega) (by decide) hbel.size ?_; intro v' w1 hown1 hgrow)
        have R := ints_rel (d := (c + (x + 0)) % 1000000000) (by omega) hown hbel hbel.size hown1 hgrow
        have HR : Hid (w1.ownsRow w.heap.size 3 1 v' (L ++ [(c + (x + 0)) % 1000000000]).length (cellsOf (L ++ [(c + (x + 0)) % 1000000000])) ∧ Below w.heap.size w w1) := R
        clear R hown hown1 hgrow
        go_wp2
        go_roundw
        case rel =>
          refine ⟨k + 1, by go_num, by omega, ?_, ?_, ?_, HR.out.2⟩
          · rw [HN.out]; congr 1 <;> omega
          · intro h; exact HZ.out (by omega)
          · rw [HN.out]; exact HR.out.1
        case measure => simp [intOf]; omega
    · by_cases hkb : k < b.length
      · have hkn : k ≤ n := by omega
        have hkaI : ¬ (k : Int) < (a.length : Int) := by omega
        have hx0 : lAt a k = 0 := lAt_past (by omega)
        obtain ⟨bb, rfl, hcb⟩ := ints_at (HB.out wr hbel) rfl hkb
        have hkbI : (k : Int) < (b.length : Int) := by omega
        generalize lAt a k = x at *
        generalize lAt b k = y at *
        subst hx0
        go_wp2_with (at_builtin; refine append_one wr rfl _ _ 28 rfl w.heap.size 3 i0 .i64 8 Tryd.underlying28 hi hz0 hz1 hz2 _ _ _ (by rfl) hown _ _ rfl (by rfl) (by omega) (by decide) hbel.size ?_; intro v' w1 hown1 hgrow)
        have R := ints_rel (d := (c + (0 + y)) % 1000000000) (by omega) hown hbel hbel.size hown1 hgrow
        have HR : Hid (w1.ownsRow w.heap.size 3 1 v' (L ++ [(c + (0 + y)) % 1000000000]).length (cellsOf (L ++ [(c + (0 + y)) % 1000000000])) ∧ Below w.heap.size w w1) := R
        clear R hown hown1 hgrow
        go_wp2
        go_roundw
        case rel =>
          refine ⟨k + 1, by go_num, by omega, ?_, ?_, ?_, HR.out.2⟩
          · rw [HN.out]; congr 1 <;> omega
          · intro h; exact HZ.out (by omega)
          · rw [HN.out]; exact HR.out.1
        case measure => simp [intOf]; omega
      · by_cases hc0 : c = 0
        · have HEE : Hid (Bn.val L = Bn.val a + Bn.val b) := HE.out (by omega) hc0
          subst hc0
          have hkaI : ¬ (k : Int) < (a.length : Int) := by omega
          have hkbI : ¬ (k : Int) < (b.length : Int) := by omega
          go_wp2
          go_ret
          exact ⟨_, rfl, ⟨L, IntsAt.of_owns hown, HLd.out, HEE.out⟩, hbel⟩
        · have hkn : k ≤ n := by
            rcases Nat.lt_or_ge n k with h | h
            · exact absurd (hk0 (by omega)) hc0
            · exact h
          have hkaI : ¬ (k : Int) < (a.length : Int) := by omega
          have hx0 : lAt a k = 0 := lAt_past (by omega)
          have hkbI : ¬ (k : Int) < (b.length : Int) := by omega
          have hy0 : lAt b k = 0 := lAt_past (by omega)
          generalize lAt a k = x at *
          generalize lAt b k = y at *
          subst hx0
          subst hy0
          have hcI : (0 : Int) < (c : Int) := by omega
          go_wp2_with (at_builtin; refine append_one wr rfl _ _ 28 rfl w.heap.size 3 i0 .i64 8 Tryd.underlying28 hi hz0 hz1 hz2 _ _ _ (by rfl) hown _ _ rfl (by rfl) (by omega) (by decide) hbel.size ?_; intro v' w1 hown1 hgrow)
          have R := ints_rel (d := (c + (0 + 0)) % 1000000000) (by omega) hown hbel hbel.size hown1 hgrow
          have HR : Hid (w1.ownsRow w.heap.size 3 1 v' (L ++ [(c + (0 + 0)) % 1000000000]).length (cellsOf (L ++ [(c + (0 + 0)) % 1000000000])) ∧ Below w.heap.size w w1) := R
          clear R hown hown1 hgrow
          go_wp2
          go_roundw
          case rel =>
            refine ⟨k + 1, by go_num, by omega, ?_, ?_, ?_, HR.out.2⟩
            · rw [HN.out]; congr 1 <;> omega
            · intro h; exact HZ.out (by omega)
            · rw [HN.out]; exact HR.out.1
          case measure => simp [intOf]; omega

theorem took_step1 {a b : List Nat} {k : Nat} (ha : lAt a k < 1000000000) (hb : lAt b k < 1000000000) (ho : (took a b 1 k).2 ≤ 1) :
    took a b 1 (k + 1) = if lAt a k < (took a b 1 k).2 + lAt b k then ((took a b 1 k).1 ++ [lAt a k + 1000000000 - ((took a b 1 k).2 + lAt b k)], 1) else ((took a b 1 k).1 ++ [lAt a k - ((took a b 1 k).2 + lAt b k)], 0) := by
  simp only [took, Nat.mul_one]
  generalize (took a b 1 k).1 = L at *
  generalize (took a b 1 k).2 = o at *
  generalize lAt a k = x at *
  generalize lAt b k = y at *
  rcases Nat.lt_or_ge (o + y) 1000000000 with h | h
  · rw [Nat.mod_eq_of_lt h, Nat.div_eq_of_lt h]
  · have e : o + y = 1000000000 := by omega
    rw [e, if_neg (by omega), if_pos (by omega)]
    simp
theorem took_one {a b : List Nat} (ha : ∀ d ∈ a, d < 1000000000) (hb : ∀ d ∈ b, d < 1000000000) (k : Nat) : (took a b 1 k).2 ≤ 1 := by
  induction k with
  | zero => simp [took]
  | succ k ih => rw [took_step1 (lAt_lt ha k) (lAt_lt hb k) ih]; split <;> simp
theorem took_less {a b : List Nat} (ha : ∀ d ∈ a, d < 1000000000) (hl : b.length ≤ a.length) (h : Bn.val b ≤ Bn.val a) : Bn.val (took a b 1 a.length).1 = Bn.val a - Bn.val b := by
  have hv := took_val a b 1 a.length
  rw [List.take_length, List.take_of_length_le hl, Nat.one_mul] at hv
  have hlt := val_lt _ (took_lt a b 1 ha a.length)
  rw [took_length] at hlt
  rcases Nat.eq_zero_or_pos (took a b 1 a.length).2 with e | e
  · rw [e, Nat.mul_zero] at hv; omega
  · have := Nat.le_mul_of_pos_right (1000000000 ^ a.length) e
    omega

set_option maxHeartbeats 4000000 in
set_option maxRecDepth 100000 in
/-- less. -/
theorem less_any (a b : List Nat) (va vb : Value) (w : World) (ha : IntsAt w va a) (hb : IntsAt w vb b) (hda : ∀ d ∈ a, d < 1000000000) (hdb : ∀ d ∈ b, d < 1000000000) (hla : a.length ≤ 5000000) (hlb : b.length ≤ a.length) (hv : Bn.val b ≤ Bn.val a) :
    Calls Tryd.prog 55 #[va, vb] w fun e w' => ∃ v, e = .returned v ∧ SizeAt w' v (Bn.val a - Bn.val b) ∧ Below w.heap.size w w' := by
  obtain ⟨i0, hi, hz0, hz1, hz2⟩ := info_parts Tryd.info3
  obtain ⟨pa, ca, hva, _⟩ := ha.form
  obtain ⟨pb, cb, hvb, _⟩ := hb.form
  subst hva
  subst hvb
  have HA : Hid (∀ wr, Below w.heap.size w wr → IntsAt wr (.slice pa a.length ca) a) := fun wr h => ha.below h
  have HB : Hid (∀ wr, Below w.heap.size w wr → IntsAt wr (.slice pb b.length cb) b) := fun wr h => hb.below h
  have HV : Hid (Bn.val (took a b 1 a.length).1 = Bn.val a - Bn.val b) := took_less hda hlb hv
  clear ha hb
  go_enter Tryd.func55, Tryd.ntmps55
  go_wp2
  go_loopw [5, 6, 7] (fun ov cv iv wr => ∃ k : Nat, iv = .int .i64 (k : Int) ∧ k ≤ a.length ∧ cv = .int .i64 (((took a b 1 k).2 : Nat) : Int) ∧ wr.ownsRow w.heap.size 3 1 ov (took a b 1 k).1.length (cellsOf (took a b 1 k).1) ∧ Below w.heap.size w wr) (fun _ _ iv _ => a.length - (intOf iv).toNat)
  case atStart => exact ⟨0, rfl, Nat.zero_le _, rfl, World.ownsRow_nil _ _ _ _, Below.refl _ _⟩
  case round =>
    obtain ⟨k, rfl, hk, rfl, hown, hbel⟩ := hrel
    by_cases hka : k < a.length
    · have hkaI : (k : Int) < (a.length : Int) := by omega
      have hc := took_one hda hdb k
      have hlen := took_length a b 1 k
      have hxb := lAt_lt hda k
      have hyb := lAt_lt hdb k
      have HN0 : Hid (took a b 1 (k + 1) = if lAt a k < (took a b 1 k).2 + lAt b k then ((took a b 1 k).1 ++ [lAt a k + 1000000000 - ((took a b 1 k).2 + lAt b k)], 1) else ((took a b 1 k).1 ++ [lAt a k - ((took a b 1 k).2 + lAt b k)], 0)) := took_step1 hxb hyb hc
      generalize (took a b 1 k).1 = L at *
      generalize (took a b 1 k).2 = c at *
      by_cases hlt : lAt a k < c + lAt b k <;> by_cases hkb : k < b.length
      ·
        obtain ⟨ba, rfl, hca⟩ := ints_at (HA.out wr hbel) rfl hka
        obtain ⟨bb, rfl, hcb⟩ := ints_at (HB.out wr hbel) rfl hkb
        have hkbI : (k : Int) < (b.length : Int) := by omega
        generalize lAt a k = x at *
        generalize lAt b k = y at *
        have HN : Hid (took a b 1 (k + 1) = (L ++ [x + 1000000000 - (c + y)], 1)) := by show _ = _; rw [HN0.out, if_pos hlt]
        go_wp2_with (at_builtin; refine append_one wr rfl _ _ 28 rfl w.heap.size 3 i0 .i64 8 Tryd.underlying28 hi hz0 hz1 hz2 _ _ _ (by rfl) hown _ _ rfl (by rfl) (by omega) (by decide) hbel.size ?_; intro v' w1 hown1 hgrow)
        have R := ints_rel (d := x + 1000000000 - (c + y)) (by omega) hown hbel hbel.size hown1 hgrow
        have HR : Hid (w1.ownsRow w.heap.size 3 1 v' (L ++ [x + 1000000000 - (c + y)]).length (cellsOf (L ++ [x + 1000000000 - (c + y)])) ∧ Below w.heap.size w w1) := R
        clear R hown hown1 hgrow
        go_wp2
        go_roundw
        case rel =>
          refine ⟨k + 1, by go_num, by omega, ?_, ?_, HR.out.2⟩
          · rw [HN.out]; rfl
          · rw [HN.out]; exact HR.out.1
        case measure => simp [intOf]; omega
      ·
        obtain ⟨ba, rfl, hca⟩ := ints_at (HA.out wr hbel) rfl hka
        have hkbI : ¬ (k : Int) < (b.length : Int) := by omega
        have hy0 : lAt b k = 0 := lAt_past (by omega)
        generalize lAt a k = x at *
        generalize lAt b k = y at *
        subst hy0
        have HN : Hid (took a b 1 (k + 1) = (L ++ [x + 1000000000 - (c + 0)], 1)) := by show _ = _; rw [HN0.out, if_pos hlt]
        go_wp2_with (at_builtin; refine append_one wr rfl _ _ 28 rfl w.heap.size 3 i0 .i64 8 Tryd.underlying28 hi hz0 hz1 hz2 _ _ _ (by rfl) hown _ _ rfl (by rfl) (by omega) (by decide) hbel.size ?_; intro v' w1 hown1 hgrow)
        have R := ints_rel (d := x + 1000000000 - (c + 0)) (by omega) hown hbel hbel.size hown1 hgrow
        have HR : Hid (w1.ownsRow w.heap.size 3 1 v' (L ++ [x + 1000000000 - (c + 0)]).length (cellsOf (L ++ [x + 1000000000 - (c + 0)])) ∧ Below w.heap.size w w1) := R
        clear R hown hown1 hgrow
        go_wp2
        go_roundw
        case rel =>
          refine ⟨k + 1, by go_num, by omega, ?_, ?_, HR.out.2⟩
          · rw [HN.out]; rfl
          · rw [HN.out]; exact HR.out.1
        case measure => simp [intOf]; omega
      ·
        obtain ⟨ba, rfl, hca⟩ := ints_at (HA.out wr hbel) rfl hka
        obtain ⟨bb, rfl, hcb⟩ := ints_at (HB.out wr hbel) rfl hkb
        have hkbI : (k : Int) < (b.length : Int) := by omega
        generalize lAt a k = x at *
        generalize lAt b k = y at *
        have HN : Hid (took a b 1 (k + 1) = (L ++ [x - (c + y)], 0)) := by show _ = _; rw [HN0.out, if_neg hlt]
        go_wp2_with (at_builtin; refine append_one wr rfl _ _ 28 rfl w.heap.size 3 i0 .i64 8 Tryd.underlying28 hi hz0 hz1 hz2 _ _ _ (by rfl) hown _ _ rfl (by rfl) (by omega) (by decide) hbel.size ?_; intro v' w1 hown1 hgrow)
        have R := ints_rel (d := x - (c + y)) (by omega) hown hbel hbel.size hown1 hgrow
        have HR : Hid (w1.ownsRow w.heap.size 3 1 v' (L ++ [x - (c + y)]).length (cellsOf (L ++ [x - (c + y)])) ∧ Below w.heap.size w w1) := R
        clear R hown hown1 hgrow
        go_wp2
        go_roundw
        case rel =>
          refine ⟨k + 1, by go_num, by omega, ?_, ?_, HR.out.2⟩
          · rw [HN.out]; rfl
          · rw [HN.out]; exact HR.out.1
        case measure => simp [intOf]; omega
      ·
        obtain ⟨ba, rfl, hca⟩ := ints_at (HA.out wr hbel) rfl hka
        have hkbI : ¬ (k : Int) < (b.length : Int) := by omega
        have hy0 : lAt b k = 0 := lAt_past (by omega)
        generalize lAt a k = x at *
        generalize lAt b k = y at *
        subst hy0
        have HN : Hid (took a b 1 (k + 1) = (L ++ [x - (c + 0)], 0)) := by show _ = _; rw [HN0.out, if_neg hlt]
        go_wp2_with (at_builtin; refine append_one wr rfl _ _ 28 rfl w.heap.size 3 i0 .i64 8 Tryd.underlying28 hi hz0 hz1 hz2 _ _ _ (by rfl) hown _ _ rfl (by rfl) (by omega) (by decide) hbel.size ?_; intro v' w1 hown1 hgrow)
        have R := ints_rel (d := x - (c + 0)) (by omega) hown hbel hbel.size hown1 hgrow
        have HR : Hid (w1.ownsRow w.heap.size 3 1 v' (L ++ [x - (c + 0)]).length (cellsOf (L ++ [x - (c + 0)])) ∧ Below w.heap.size w w1) := R
        clear R hown hown1 hgrow
        go_wp2
        go_roundw
        case rel =>
          refine ⟨k + 1, by go_num, by omega, ?_, ?_, HR.out.2⟩
          · rw [HN.out]; rfl
          · rw [HN.out]; exact HR.out.1
        case measure => simp [intOf]; omega
    · obtain rfl : k = a.length := by omega
      have HL : Hid (∀ d ∈ (took a b 1 a.length).1, d < 1000000000) := took_lt a b 1 hda a.length
      generalize (took a b 1 a.length).1 = L at *
      generalize (took a b 1 a.length).2 = c at *
      go_wp2
      go_ret
      exact ⟨_, rfl, ⟨L, IntsAt.of_owns hown, HL.out, HV.out⟩, hbel⟩

end Go.Proofs.YtangepgiamhenaaDoor

namespace Go.Proofs.YtangepgiamhenaaDoor
open Go.RowKit
open Bn (limbs)

theorem told_mid (f : Nat → Nat) (h : ∀ p, f p ≤ 999999998000000001) (k : Nat) : (told f k).2 ≤ 999999999 := by
  induction k with
  | zero => simp [told]
  | succ k ih => simp only [told]; have := h k; omega
theorem sumP_mulr (f : Nat → Nat) (c k : Nat) : sumP (fun p => f p * c) k = sumP f k * c := by
  induction k with
  | zero => simp [sumP]
  | succ k ih => simp only [sumP, ih, Nat.add_mul, Nat.mul_assoc]

set_option maxHeartbeats 1000000 in
set_option maxRecDepth 100000 in
/-- times. -/
theorem times_any (a : List Nat) (d : Nat) (va : Value) (w : World) (ha : IntsAt w va a) (hda : ∀ d ∈ a, d < 1000000000) (hd : d < 1000000000) (hla : a.length ≤ 5000000) :
    Calls Tryd.prog 63 #[va, .int .i64 (d : Int)] w fun e w' => ∃ v, e = .returned v ∧ IntsAt w' v (limbs (Bn.val a * d)) ∧ Below w.heap.size w w' := by
  obtain ⟨i0, hi, hz0, hz1, hz2⟩ := info_parts Tryd.info3
  obtain ⟨pa, ca, hva, _⟩ := ha.form
  subst hva
  have HA : Hid (∀ wr, Below w.heap.size w wr → IntsAt wr (.slice pa a.length ca) a) := fun wr h => ha.below h
  obtain ⟨f, hf⟩ : ∃ f : Nat → Nat, f = fun p => lAt a p * d := ⟨_, rfl⟩
  have hf0 : ∀ p, f p = lAt a p * d := fun p => by rw [hf]
  have hfs : ∀ p, f p ≤ 999999998000000001 := fun p => by
    have := lAt_lt hda p
    rw [hf0]; exact Nat.le_trans (Nat.mul_le_mul (show lAt a p ≤ 999999999 by omega) (show d ≤ 999999999 by omega)) (by decide)
  have HV : Hid (∀ k, a.length ≤ k → (told f k).2 = 0 → Bn.val (told f k).1 = Bn.val a * d) := by
    intro k hk h0
    have h := told_val f k
    rw [h0, Nat.mul_zero, Nat.add_zero] at h
    rw [h, hf, sumP_mulr, sumP_all hk]
  have HF : Hid (∀ p, f p = lAt a p * d) := hf0
  clear ha hf hf0
  go_enter Tryd.func63, Tryd.ntmps63
  go_wp2
  go_loopw [5, 6, 7] (fun ov cv iv wr => ∃ k : Nat, iv = .int .i64 (k : Int) ∧ k ≤ a.length + 1 ∧ cv = .int .i64 (((told f k).2 : Nat) : Int) ∧ (k = a.length + 1 → (told f k).2 = 0) ∧ wr.ownsRow w.heap.size 3 1 ov (told f k).1.length (cellsOf (told f k).1) ∧ Below w.heap.size w wr) (fun _ _ iv _ => a.length + 2 - (intOf iv).toNat)
  case atStart => exact ⟨0, rfl, by omega, rfl, fun _ => rfl, World.ownsRow_nil _ _ _ _, Below.refl _ _⟩
  case round =>
    obtain ⟨k, rfl, hk, rfl, hk0, hown, hbel⟩ := hrel
    have hc := told_mid f hfs k
    have hlen := told_length f k
    have hxb := lAt_lt hda k
    have HN : Hid (told f (k + 1) = ((told f k).1 ++ [((told f k).2 + lAt a k * d) % 1000000000], ((told f k).2 + lAt a k * d) / 1000000000)) := by show _ = _; rw [← HF.out k]; rfl
    have HZ : Hid (k = a.length → (told f (k + 1)).2 = 0) := by
      intro h
      rw [HN.out, lAt_past (l := a) (by omega), Nat.zero_mul]
      show ((told f k).2 + 0) / 1000000000 = 0
      omega
    have HE : Hid (a.length ≤ k → (told f k).2 = 0 → Bn.val (told f k).1 = Bn.val a * d) := HV.out k
    have HLd : Hid (∀ d ∈ (told f k).1, d < 1000000000) := told_lt f k
    generalize (told f k).1 = L at *
    generalize (told f k).2 = c at *
    by_cases hka : k < a.length
    · have hkn : k ≤ a.length := by omega
      obtain ⟨ba, rfl, hca⟩ := ints_at (HA.out wr hbel) rfl hka
      have hkaI : (k : Int) < (a.length : Int) := by omega
      obtain ⟨x, ex⟩ : ∃ x, x = lAt a k := ⟨_, rfl⟩
      rw [← ex] at hxb HN hca
      obtain ⟨m, em⟩ : ∃ m, m = x * d := ⟨_, rfl⟩
      have hmul : (x : Int) * (d : Int) = (m : Int) := by rw [em]; simp
      have hm : m ≤ 999999998000000001 := by
        rw [em]; exact Nat.le_trans (Nat.mul_le_mul (show x ≤ 999999999 by omega) (show d ≤ 999999999 by omega)) (by decide)
      rw [← em] at HN
      clear em ex
      go_wp2_with (at_builtin; refine append_one wr rfl _ _ 28 rfl w.heap.size 3 i0 .i64 8 Tryd.underlying28 hi hz0 hz1 hz2 _ _ _ (by rfl) hown _ _ rfl (by rfl) (by omega) (by decide) hbel.size ?_; intro v' w1 hown1 hgrow)
      have R := ints_rel (d := (c + m) % 1000000000) (by omega) hown hbel hbel.size hown1 hgrow
      have HR : Hid (w1.ownsRow w.heap.size 3 1 v' (L ++ [(c + m) % 1000000000]).length (cellsOf (L ++ [(c + m) % 1000000000])) ∧ Below w.heap.size w w1) := R
      clear R hown hown1 hgrow
      go_wp2
      go_roundw
      case rel =>
        refine ⟨k + 1, by go_num, by omega, ?_, ?_, ?_, HR.out.2⟩
        · rw [HN.out]; congr 1 <;> omega
        · intro h; exact HZ.out (by omega)
        · rw [HN.out]; exact HR.out.1
      case measure => simp [intOf]; omega
    · by_cases hc0 : c = 0
      · have HEE : Hid (Bn.val L = Bn.val a * d) := HE.out (by omega) hc0
        subst hc0
        have hkaI : ¬ (k : Int) < (a.length : Int) := by omega
        have HS : Hid (Calls Tryd.prog 62 #[u5] wr fun e w' => ∃ v', e = .returned v' ∧ IntsAt w' v' (limbs (Bn.val a * d)) ∧ Below w.heap.size w w') := by
          refine (refSize_any L _ wr (IntsAt.of_owns hown) HLd.out).mono ?_
          rintro e w' ⟨v', h1, h2, rfl, _⟩
          rw [trim_eq _ HLd.out, HEE.out] at h2
          exact ⟨v', h1, h2, hbel⟩
        obtain ⟨pv, cv, hov⟩ := own_form hown
        subst hov
        clear hlen
        go_wp2_with fail
        refine HS.out.mono ?_
        rintro e w1 ⟨v', rfl, hI, hb1⟩
        go_wp2
        go_ret
        exact ⟨_, rfl, hI, hb1⟩
      · have hkn : k ≤ a.length := by
          rcases Nat.lt_or_ge a.length k with h | h
          · exact absurd (hk0 (by omega)) hc0
          · exact h
        have hkaI : ¬ (k : Int) < (a.length : Int) := by omega
        rw [lAt_past (l := a) (by omega), Nat.zero_mul] at HN
        have hcI : (0 : Int) < (c : Int) := by omega
        go_wp2_with (at_builtin; refine append_one wr rfl _ _ 28 rfl w.heap.size 3 i0 .i64 8 Tryd.underlying28 hi hz0 hz1 hz2 _ _ _ (by rfl) hown _ _ rfl (by rfl) (by omega) (by decide) hbel.size ?_; intro v' w1 hown1 hgrow)
        have R := ints_rel (d := (c + 0) % 1000000000) (by omega) hown hbel hbel.size hown1 hgrow
        have HR : Hid (w1.ownsRow w.heap.size 3 1 v' (L ++ [(c + 0) % 1000000000]).length (cellsOf (L ++ [(c + 0) % 1000000000])) ∧ Below w.heap.size w w1) := R
        clear R hown hown1 hgrow
        go_wp2
        go_roundw
        case rel =>
          refine ⟨k + 1, by go_num, by omega, ?_, ?_, ?_, HR.out.2⟩
          · rw [HN.out]; congr 1 <;> omega
          · intro h; exact HZ.out (by omega)
          · rw [HN.out]; exact HR.out.1
        case measure => simp [intOf]; omega

end Go.Proofs.YtangepgiamhenaaDoor
