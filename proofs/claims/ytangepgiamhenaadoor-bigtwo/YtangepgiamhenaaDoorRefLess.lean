/-
  Several texts in one: RefPlus, RefBox, RefTimes.
-/
import Derived.Test.YtangepgiamhenaaDoorRefMade
import Derived.Test.YtangepgiamhenaaDoorSub
import Derived.Test.YtangepgiamhenaaDoorPlus
namespace Go.Proofs.YtangepgiamhenaaDoor
open Go.RowKit
open Bn (limbs)

/-- The slice value v writes, in w, the size N. -/
def SizeAt (w : World) (v : Value) (N : Nat) : Prop := ∃ l, IntsAt w v l ∧ (∀ d ∈ l, d < 1000000000) ∧ Bn.val l = N

theorem told_le_one (f : Nat → Nat) (h : ∀ p, f p ≤ 1999999998) (k : Nat) : (told f k).2 ≤ 1 := by
  induction k with
  | zero => simp [told]
  | succ k ih => simp only [told]; have := h k; omega

/-- One number more in a row of the call's own. -/
theorem ints_rel {W wr w1 : World} {B : Nat} {v v' : Value} {L : List Nat} {d : Nat} {c : Int} {o : Obj} (hc : c = (d : Int)) (hown : wr.ownsRow B 3 1 v L.length (cellsOf L)) (hbel : Below B W wr) (hB : B ≤ wr.heap.size)
    (hown1 : w1.ownsRow B 3 1 v' (L.length + 1) (cellsOf L ++ [.int .i64 c])) (hg : (wr.alloc o).grownBy w1 v.ownBlock) :
    w1.ownsRow B 3 1 v' (L ++ [d]).length (cellsOf (L ++ [d])) ∧ Below B W w1 := by
  refine ⟨?_, (hbel.alloc hB o).grown hg (by simp; omega) (fun g hg => (hown.lt g hg).1)⟩
  rw [cellsOf_snoc, List.length_append, ← hc]; exact hown1

theorem ints_at {w : World} {v : Value} {l : List Nat} {p : Option Addr} {c : Nat} (h : IntsAt w v l) (hv : v = .slice p l.length c) {k : Nat} (hk : k < l.length) : ∃ b, p = some ⟨b, 0, none⟩ ∧ w.cell? ⟨b, k, none⟩ = some (.int .i64 ((lAt l k : Nat) : Int)) := by
  obtain ⟨b, cap, hv', hlt, hl, hm, hc⟩ := h.pos (by omega)
  rw [hv] at hv'
  injection hv' with e1 e2 e3
  exact ⟨b, e1, by rw [lAt_get hk]; exact hc k hk⟩

set_option maxHeartbeats 4000000 in
set_option maxRecDepth 100000 in
/-- more. -/
theorem more_any (a b : List Nat) (va vb : Value) (w : World) (ha : IntsAt w va a) (hb : IntsAt w vb b) (hda : ∀ d ∈ a, d < 1000000000) (hdb : ∀ d ∈ b, d < 1000000000) (hla : a.length ≤ 5000000) (hlb : b.length ≤ 5000000) :
    Calls Tryd.prog 53 #[va, vb] w fun e w' => ∃ v, e = .returned v ∧ SizeAt w' v (Bn.val a + Bn.val b) ∧ Below w.heap.size w w' := by
  obtain ⟨i0, hi, hz0, hz1, hz2⟩ := info_parts Tryd.info3
  obtain ⟨pa, ca, hva, _⟩ := ha.form
  obtain ⟨pb, cb, hvb, _⟩ := hb.form
  subst hva
  subst hvb
  have HA : Hid (∀ wr, Below w.heap.size w wr → IntsAt wr (.slice pa a.length ca) a) := fun wr h => ha.below h
  have HB : Hid (∀ wr, Below w.heap.size w wr → IntsAt wr (.slice pb b.length cb) b) := fun wr h => hb.below h
  obtain ⟨n, hn⟩ : ∃ n, n = max a.length b.length := ⟨_, rfl⟩
  have hn1 : a.length ≤ n := by omega
  have hn2 : b.length ≤ n := by omega
  have hn3 : n ≤ 5000000 := by omega
  have hn4 : n ≤ a.length ∨ n ≤ b.length := by omega
  obtain ⟨f, hf⟩ : ∃ f : Nat → Nat, f = fun p => lAt a p + lAt b p := ⟨_, rfl⟩
  have hf0 : ∀ p, f p = lAt a p + lAt b p := fun p => by rw [hf]
  have hfs : ∀ p, f p ≤ 1999999998 := fun p => by have := lAt_lt hda p; have := lAt_lt hdb p; rw [hf0]; omega
  have HV : Hid (∀ k, n ≤ k → (told f k).2 = 0 → Bn.val (told f k).1 = Bn.val a + Bn.val b) := by
    intro k hk h0
    have h := told_val f k
    rw [h0, Nat.mul_zero, Nat.add_zero] at h
    rw [h, hf, sumP_add, sumP_all (by omega), sumP_all (by omega)]
  have HF : Hid (∀ p, f p = lAt a p + lAt b p) := hf0
  clear ha hb hn hf hf0
  go_enter Tryd.func53, Tryd.ntmps53
  go_wp2
  go_loopw [5, 6, 7] (fun ov cv iv wr => ∃ k : Nat, iv = .int .i64 (k : Int) ∧ k ≤ n + 1 ∧ cv = .int .i64 (((told f k).2 : Nat) : Int) ∧ (k = n + 1 → (told f k).2 = 0) ∧ wr.ownsRow w.heap.size 3 1 ov (told f k).1.length (cellsOf (told f k).1) ∧ Below w.heap.size w wr) (fun _ _ iv _ => n + 2 - (intOf iv).toNat)
  case atStart => exact ⟨0, rfl, by omega, rfl, fun _ => rfl, World.ownsRow_nil _ _ _ _, Below.refl _ _⟩
  case round =>
    obtain ⟨k, rfl, hk, rfl, hk0, hown, hbel⟩ := hrel
    have hc := told_le_one f hfs k
    have hlen := told_length f k
    have hfk := HF.out k
    have hxb := lAt_lt hda k
    have hyb := lAt_lt hdb k
    have HN : Hid (told f (k + 1) = ((told f k).1 ++ [((told f k).2 + (lAt a k + lAt b k)) % 1000000000], ((told f k).2 + (lAt a k + lAt b k)) / 1000000000)) := by show _ = _; rw [← hfk]; rfl
    have HZ : Hid (k = n → (told f (k + 1)).2 = 0) := by
      intro h
      rw [HN.out, lAt_past (l := a) (by omega), lAt_past (l := b) (by omega)]
      show ((told f k).2 + (0 + 0)) / 1000000000 = 0
      omega
    have HVk := HV.out k
    have hLd := told_lt f k
    have HE : Hid (n ≤ k → (told f k).2 = 0 → Bn.val (told f k).1 = Bn.val a + Bn.val b) := HVk
    have HLd : Hid (∀ d ∈ (told f k).1, d < 1000000000) := hLd
    clear HVk hLd hfk
    generalize (told f k).1 = L at *
    generalize (told f k).2 = c at *
    by_cases hka : k < a.length
    · by_cases hkb : k < b.length
      · have hkn : k ≤ n := by omega
        obtain ⟨ba, rfl, hca⟩ := ints_at (HA.out wr hbel) rfl hka
        have hkaI : (k : Int) < (a.length : Int) := by omega
        obtain ⟨bb, rfl, hcb⟩ := ints_at (HB.out wr hbel) rfl hkb
        have hkbI : (k : Int) < (b.length : Int) := by omega
        generalize lAt a k = x at *
        generalize lAt b k = y at *
        go_wp2_with (at_builtin; refine append_one wr rfl _ _ 28 rfl w.heap.size 3 i0 .i64 8 Tryd.underlying28 hi hz0 hz1 hz2 _ _ _ (by rfl) hown _ _ rfl (by rfl) (by omega) (by decide) hbel.size ?_; intro v' w1 hown1 hgrow)
        have R := ints_rel (d := (c + (x + y)) % 1000000000) (by omega) hown hbel hbel.size hown1 hgrow
        have HR : Hid (w1.ownsRow w.heap.size 3 1 v' (L ++ [(c + (x + y)) % 1000000000]).length (cellsOf (L ++ [(c + (x + y)) % 1000000000])) ∧ Below w.heap.size w w1) := R
        clear R hown hown1 hgrow
        go_wp2
        go_roundw
        case rel =>
          refine ⟨k + 1, by go_num, by omega, ?_, ?_, ?_, HR.out.2⟩
          · rw [HN.out]; congr 1 <;> omega
          · intro h; exact HZ.out (by omega)
          · rw [HN.out]; exact HR.out.1
        case measure => simp [intOf]; omega
      · have hkn : k ≤ n := by omega
        obtain ⟨ba, rfl, hca⟩ := ints_at (HA.out wr hbel) rfl hka
        have hkaI : (k : Int) < (a.length : Int) := by omega
        have hkbI : ¬ (k : Int) < (b.length : Int) := by omega
        have hy0 : lAt b k = 0 := lAt_past (by omega)
        generalize lAt a k = x at *
        generalize lAt b k = y at *
        subst hy0
        go_wp2_with (at_builtin; refine append_one wr rfl _ _ 28 rfl w.heap.size 3 i0 .i64 8 Tryd.underlying28 hi hz0 hz1 hz2 _ _ _ (by rfl) hown _ _ rfl (by rfl) (by omega) (by decide) hbel.size ?_; intro v' w1 hown1 hgrow)
        have R := ints_rel (d := (c + (x + 0)) % 1000000000) (by omega) hown hbel hbel.size hown1 hgrow
        have HR : Hid (w1.ownsRow w.heap.size 3 1 v' (L ++ [(c + (x + 0)) % 1000000000]).length (cellsOf (L ++ [(c + (x + 0)) % 1000000000])) ∧ Below w.heap.size w w1) := R
        clear R hown hown1 hgrow
        go_wp2
        go_roundw
        case rel =>
          refine ⟨k + 1, by go_num, by omega, ?_, ?_, ?_, HR.out.2⟩
          · rw [HN.out]; congr 1 <;> omega
          · intro h; exact HZ.out (by omega)
          · rw [HN.out]; exact HR.out.1
        case measure => simp [intOf]; omega
    · by_cases hkb : k < b.length
      · have hkn : k ≤ n := by omega
        have hkaI : ¬ (k : Int) < (a.length : Int) := by omega
        have hx0 : lAt a k = 0 := lAt_past (by omega)
        obtain ⟨bb, rfl, hcb⟩ := ints_at (HB.out wr hbel) rfl hkb
        have hkbI : (k : Int) < (b.length : Int) := by omega
        generalize lAt a k = x at *
        generalize lAt b k = y at *
        subst hx0
        go_wp2_with (at_builtin; refine append_one wr rfl _ _ 28 rfl w.heap.size 3 i0 .i64 8 Tryd.underlying28 hi hz0 hz1 hz2 _ _ _ (by rfl) hown _ _ rfl (by rfl) (by omega) (by decide) hbel.size ?_; intro v' w1 hown1 hgrow)
        have R := ints_rel (d := (c + (0 + y)) % 1000000000) (by omega) hown hbel hbel.size hown1 hgrow
        have HR : Hid (w1.ownsRow w.heap.size 3 1 v' (L ++ [(c + (0 + y)) % 1000000000]).length (cellsOf (L ++ [(c + (0 + y)) % 1000000000])) ∧ Below w.heap.size w w1) := R
        clear R hown hown1 hgrow
        go_wp2
        go_roundw
        case rel =>
          refine ⟨k + 1, by go_num, by omega, ?_, ?_, ?_, HR.out.2⟩
          · rw [HN.out]; congr 1 <;> omega
          · intro h; exact HZ.out (by omega)
          · rw [HN.out]; exact HR.out.1
        case measure => simp [intOf]; omega
      · by_cases hc0 : c = 0
        · have HEE : Hid (Bn.val L = Bn.val a + Bn.val b) := HE.out (by omega) hc0
          subst hc0
          have hkaI : ¬ (k : Int) < (a.length : Int) := by omega
          have hkbI : ¬ (k : Int) < (b.length : Int) := by omega
          go_wp2
          go_ret
          exact ⟨_, rfl, ⟨L, IntsAt.of_owns hown, HLd.out, HEE.out⟩, hbel⟩
        · have hkn : k ≤ n := by
            rcases Nat.lt_or_ge n k with h | h
            · exact absurd (hk0 (by omega)) hc0
            · exact h
          have hkaI : ¬ (k : Int) < (a.length : Int) := by omega
          have hx0 : lAt a k = 0 := lAt_past (by omega)
          have hkbI : ¬ (k : Int) < (b.length : Int) := by omega
          have hy0 : lAt b k = 0 := lAt_past (by omega)
          generalize lAt a k = x at *
          generalize lAt b k = y at *
          subst hx0
          subst hy0
          have hcI : (0 : Int) < (c : Int) := by omega
          go_wp2_with (at_builtin; refine append_one wr rfl _ _ 28 rfl w.heap.size 3 i0 .i64 8 Tryd.underlying28 hi hz0 hz1 hz2 _ _ _ (by rfl) hown _ _ rfl (by rfl) (by omega) (by decide) hbel.size ?_; intro v' w1 hown1 hgrow)
          have R := ints_rel (d := (c + (0 + 0)) % 1000000000) (by omega) hown hbel hbel.size hown1 hgrow
          have HR : Hid (w1.ownsRow w.heap.size 3 1 v' (L ++ [(c + (0 + 0)) % 1000000000]).length (cellsOf (L ++ [(c + (0 + 0)) % 1000000000])) ∧ Below w.heap.size w w1) := R
          clear R hown hown1 hgrow
          go_wp2
          go_roundw
          case rel =>
            refine ⟨k + 1, by go_num, by omega, ?_, ?_, ?_, HR.out.2⟩
            · rw [HN.out]; congr 1 <;> omega
            · intro h; exact HZ.out (by omega)
            · rw [HN.out]; exact HR.out.1
          case measure => simp [intOf]; omega

theorem took_step1 {a b : List Nat} {k : Nat} (ha : lAt a k < 1000000000) (hb : lAt b k < 1000000000) (ho : (took a b 1 k).2 ≤ 1) :
    took a b 1 (k + 1) = if lAt a k < (took a b 1 k).2 + lAt b k then ((took a b 1 k).1 ++ [lAt a k + 1000000000 - ((took a b 1 k).2 + lAt b k)], 1) else ((took a b 1 k).1 ++ [lAt a k - ((took a b 1 k).2 + lAt b k)], 0) := by
  simp only [took, Nat.mul_one]
  generalize (took a b 1 k).1 = L at *
  generalize (took a b 1 k).2 = o at *
  generalize lAt a k = x at *
  generalize lAt b k = y at *
  rcases Nat.lt_or_ge (o + y) 1000000000 with h | h
  · rw [Nat.mod_eq_of_lt h, Nat.div_eq_of_lt h]
  · have e : o + y = 1000000000 := by omega
    rw [e, if_neg (by omega), if_pos (by omega)]
    simp
theorem took_one {a b : List Nat} (ha : ∀ d ∈ a, d < 1000000000) (hb : ∀ d ∈ b, d < 1000000000) (k : Nat) : (took a b 1 k).2 ≤ 1 := by
  induction k with
  | zero => simp [took]
  | succ k ih => rw [took_step1 (lAt_lt ha k) (lAt_lt hb k) ih]; split <;> simp
theorem took_less {a b : List Nat} (ha : ∀ d ∈ a, d < 1000000000) (hl : b.length ≤ a.length) (h : Bn.val b ≤ Bn.val a) : Bn.val (took a b 1 a.length).1 = Bn.val a - Bn.val b := by
  have hv := took_val a b 1 a.length
  rw [List.take_length, List.take_of_length_le hl, Nat.one_mul] at hv
  have hlt := val_lt _ (took_lt a b 1 ha a.length)
  rw [took_length] at hlt
  rcases Nat.eq_zero_or_pos (took a b 1 a.length).2 with e | e
  · rw [e, Nat.mul_zero] at hv; omega
  · have := Nat.le_mul_of_pos_right (1000000000 ^ a.length) e
    omega

set_option maxHeartbeats 4000000 in
set_option maxRecDepth 100000 in
/-- less. -/
theorem less_any (a b : List Nat) (va vb : Value) (w : World) (ha : IntsAt w va a) (hb : IntsAt w vb b) (hda : ∀ d ∈ a, d < 1000000000) (hdb : ∀ d ∈ b, d < 1000000000) (hla : a.length ≤ 5000000) (hlb : b.length ≤ a.length) (hv : Bn.val b ≤ Bn.val a) :
    Calls Tryd.prog 55 #[va, vb] w fun e w' => ∃ v, e = .returned v ∧ SizeAt w' v (Bn.val a - Bn.val b) ∧ Below w.heap.size w w' := by
  obtain ⟨i0, hi, hz0, hz1, hz2⟩ := info_parts Tryd.info3
  obtain ⟨pa, ca, hva, _⟩ := ha.form
  obtain ⟨pb, cb, hvb, _⟩ := hb.form
  subst hva
  subst hvb
  have HA : Hid (∀ wr, Below w.heap.size w wr → IntsAt wr (.slice pa a.length ca) a) := fun wr h => ha.below h
  have HB : Hid (∀ wr, Below w.heap.size w wr → IntsAt wr (.slice pb b.length cb) b) := fun wr h => hb.below h
  have HV : Hid (Bn.val (took a b 1 a.length).1 = Bn.val a - Bn.val b) := took_less hda hlb hv
  clear ha hb
  go_enter Tryd.func55, Tryd.ntmps55
  go_wp2
  go_loopw [5, 6, 7] (fun ov cv iv wr => ∃ k : Nat, iv = .int .i64 (k : Int) ∧ k ≤ a.length ∧ cv = .int .i64 (((took a b 1 k).2 : Nat) : Int) ∧ wr.ownsRow w.heap.size 3 1 ov (took a b 1 k).1.length (cellsOf (took a b 1 k).1) ∧ Below w.heap.size w wr) (fun _ _ iv _ => a.length - (intOf iv).toNat)
  case atStart => exact ⟨0, rfl, Nat.zero_le _, rfl, World.ownsRow_nil _ _ _ _, Below.refl _ _⟩
  case round =>
    obtain ⟨k, rfl, hk, rfl, hown, hbel⟩ := hrel
    by_cases hka : k < a.length
    · have hkaI : (k : Int) < (a.length : Int) := by omega
      have hc := took_one hda hdb k
      have hlen := took_length a b 1 k
      have hxb := lAt_lt hda k
      have hyb := lAt_lt hdb k
      have HN0 : Hid (took a b 1 (k + 1) = if lAt a k < (took a b 1 k).2 + lAt b k then ((took a b 1 k).1 ++ [lAt a k + 1000000000 - ((took a b 1 k).2 + lAt b k)], 1) else ((took a b 1 k).1 ++ [lAt a k - ((took a b 1 k).2 + lAt b k)], 0)) := took_step1 hxb hyb hc
      generalize (took a b 1 k).1 = L at *
      generalize (took a b 1 k).2 = c at *
      by_cases hlt : lAt a k < c + lAt b k <;> by_cases hkb : k < b.length
      ·
        obtain ⟨ba, rfl, hca⟩ := ints_at (HA.out wr hbel) rfl hka
        obtain ⟨bb, rfl, hcb⟩ := ints_at (HB.out wr hbel) rfl hkb
        have hkbI : (k : Int) < (b.length : Int) := by omega
        generalize lAt a k = x at *
        generalize lAt b k = y at *
        have HN : Hid (took a b 1 (k + 1) = (L ++ [x + 1000000000 - (c + y)], 1)) := by show _ = _; rw [HN0.out, if_pos hlt]
        go_wp2_with (at_builtin; refine append_one wr rfl _ _ 28 rfl w.heap.size 3 i0 .i64 8 Tryd.underlying28 hi hz0 hz1 hz2 _ _ _ (by rfl) hown _ _ rfl (by rfl) (by omega) (by decide) hbel.size ?_; intro v' w1 hown1 hgrow)
        have R := ints_rel (d := x + 1000000000 - (c + y)) (by omega) hown hbel hbel.size hown1 hgrow
        have HR : Hid (w1.ownsRow w.heap.size 3 1 v' (L ++ [x + 1000000000 - (c + y)]).length (cellsOf (L ++ [x + 1000000000 - (c + y)])) ∧ Below w.heap.size w w1) := R
        clear R hown hown1 hgrow
        go_wp2
        go_roundw
        case rel =>
          refine ⟨k + 1, by go_num, by omega, ?_, ?_, HR.out.2⟩
          · rw [HN.out]; rfl
          · rw [HN.out]; exact HR.out.1
        case measure => simp [intOf]; omega
      ·
        obtain ⟨ba, rfl, hca⟩ := ints_at (HA.out wr hbel) rfl hka
        have hkbI : ¬ (k : Int) < (b.length : Int) := by omega
        have hy0 : lAt b k = 0 := lAt_past (by omega)
        generalize lAt a k = x at *
        generalize lAt b k = y at *
        subst hy0
        have HN : Hid (took a b 1 (k + 1) = (L ++ [x + 1000000000 - (c + 0)], 1)) := by show _ = _; rw [HN0.out, if_pos hlt]
        go_wp2_with (at_builtin; refine append_one wr rfl _ _ 28 rfl w.heap.size 3 i0 .i64 8 Tryd.underlying28 hi hz0 hz1 hz2 _ _ _ (by rfl) hown _ _ rfl (by rfl) (by omega) (by decide) hbel.size ?_; intro v' w1 hown1 hgrow)
        have R := ints_rel (d := x + 1000000000 - (c + 0)) (by omega) hown hbel hbel.size hown1 hgrow
        have HR : Hid (w1.ownsRow w.heap.size 3 1 v' (L ++ [x + 1000000000 - (c + 0)]).length (cellsOf (L ++ [x + 1000000000 - (c + 0)])) ∧ Below w.heap.size w w1) := R
        clear R hown hown1 hgrow
        go_wp2
        go_roundw
        case rel =>
          refine ⟨k + 1, by go_num, by omega, ?_, ?_, HR.out.2⟩
          · rw [HN.out]; rfl
          · rw [HN.out]; exact HR.out.1
        case measure => simp [intOf]; omega
      ·
        obtain ⟨ba, rfl, hca⟩ := ints_at (HA.out wr hbel) rfl hka
        obtain ⟨bb, rfl, hcb⟩ := ints_at (HB.out wr hbel) rfl hkb
        have hkbI : (k : Int) < (b.length : Int) := by omega
        generalize lAt a k = x at *
        generalize lAt b k = y at *
        have HN : Hid (took a b 1 (k + 1) = (L ++ [x - (c + y)], 0)) := by show _ = _; rw [HN0.out, if_neg hlt]
        go_wp2_with (at_builtin; refine append_one wr rfl _ _ 28 rfl w.heap.size 3 i0 .i64 8 Tryd.underlying28 hi hz0 hz1 hz2 _ _ _ (by rfl) hown _ _ rfl (by rfl) (by omega) (by decide) hbel.size ?_; intro v' w1 hown1 hgrow)
        have R := ints_rel (d := x - (c + y)) (by omega) hown hbel hbel.size hown1 hgrow
        have HR : Hid (w1.ownsRow w.heap.size 3 1 v' (L ++ [x - (c + y)]).length (cellsOf (L ++ [x - (c + y)])) ∧ Below w.heap.size w w1) := R
        clear R hown hown1 hgrow
        go_wp2
        go_roundw
        case rel =>
          refine ⟨k + 1, by go_num, by omega, ?_, ?_, HR.out.2⟩
          · rw [HN.out]; rfl
          · rw [HN.out]; exact HR.out.1
        case measure => simp [intOf]; omega
      ·
        obtain ⟨ba, rfl, hca⟩ := ints_at (HA.out wr hbel) rfl hka
        have hkbI : ¬ (k : Int) < (b.length : Int) := by omega
        have hy0 : lAt b k = 0 := lAt_past (by omega)
        generalize lAt a k = x at *
        generalize lAt b k = y at *
        subst hy0
        have HN : Hid (took a b 1 (k + 1) = (L ++ [x - (c + 0)], 0)) := by show _ = _; rw [HN0.out, if_neg hlt]
        go_wp2_with (at_builtin; refine append_one wr rfl _ _ 28 rfl w.heap.size 3 i0 .i64 8 Tryd.underlying28 hi hz0 hz1 hz2 _ _ _ (by rfl) hown _ _ rfl (by rfl) (by omega) (by decide) hbel.size ?_; intro v' w1 hown1 hgrow)
        have R := ints_rel (d := x - (c + 0)) (by omega) hown hbel hbel.size hown1 hgrow
        have HR : Hid (w1.ownsRow w.heap.size 3 1 v' (L ++ [x - (c + 0)]).length (cellsOf (L ++ [x - (c + 0)])) ∧ Below w.heap.size w w1) := R
        clear R hown hown1 hgrow
        go_wp2
        go_roundw
        case rel =>
          refine ⟨k + 1, by go_num, by omega, ?_, ?_, HR.out.2⟩
          · rw [HN.out]; rfl
          · rw [HN.out]; exact HR.out.1
        case measure => simp [intOf]; omega
    · obtain rfl : k = a.length := by omega
      have HL : Hid (∀ d ∈ (took a b 1 a.length).1, d < 1000000000) := took_lt a b 1 hda a.length
      generalize (took a b 1 a.length).1 = L at *
      generalize (took a b 1 a.length).2 = c at *
      go_wp2
      go_ret
      exact ⟨_, rfl, ⟨L, IntsAt.of_owns hown, HL.out, HV.out⟩, hbel⟩

end Go.Proofs.YtangepgiamhenaaDoor

namespace Go.Proofs.YtangepgiamhenaaDoor
open Go.RowKit
open Bn (limbs)

theorem two_objs (w : World) (o1 o2 : Obj) {W : World} (hW : (w.alloc o1).alloc o2 = W) :
    W.heap[w.heap.size]? = some o1 ∧ W.heap[w.heap.size + 1]? = some o2 ∧ Below w.heap.size w W ∧ W.heap.size = w.heap.size + 2 := by
  subst hW
  have hs1 : (w.alloc o1).heap.size = w.heap.size + 1 := by simp
  refine ⟨?_, ?_, ((Below.refl _ _).alloc (Nat.le_refl _) _).alloc (by simp) _, by simp⟩
  · exact (Below.heap_alloc _ _ _ (by simp)).trans (World.alloc_heap_new w _)
  · rw [← hs1]; exact World.alloc_heap_new _ _
theorem three_objs (w : World) (o1 o2 o3 : Obj) {W : World} (hW : ((w.alloc o1).alloc o2).alloc o3 = W) :
    W.heap[w.heap.size]? = some o1 ∧ W.heap[w.heap.size + 1]? = some o2 ∧ W.heap[w.heap.size + 1 + 1]? = some o3 ∧ Below w.heap.size w W ∧ W.heap.size = w.heap.size + 3 := by
  obtain ⟨V, hV⟩ : ∃ V, (w.alloc o1).alloc o2 = V := ⟨_, rfl⟩
  obtain ⟨h1, h2, h3, h4⟩ := two_objs w o1 o2 hV
  rw [hV] at hW
  subst hW
  have hb : Below V.heap.size V (V.alloc o3) := (Below.refl _ _).alloc (Nat.le_refl _) _
  refine ⟨(hb.block _ (by omega)).trans h1, (hb.block _ (by omega)).trans h2, ?_, h3.trans (hb.mono h3.size), by simp; omega⟩
  rw [show w.heap.size + 1 + 1 = V.heap.size from by omega]; exact World.alloc_heap_new _ _

theorem rbox_facts {W : World} {N : Nat} {d : Bool} {s : Value} (hN : W.heap[N]? = some (.cells #[.bool d, s] 30)) :
    W.cell? ⟨N, 0, none⟩ = some (.bool d) ∧ W.cell? ⟨N, 1, none⟩ = some s ∧ W.frozen? ⟨N, 0, none⟩ = false ∧ W.frozen? ⟨N, 1, none⟩ = false := by
  refine ⟨?_, ?_, ?_, ?_⟩ <;> simp [World.cell?, World.frozen?, hN]
theorem rbox_set {W : World} {N : Nat} {d : Bool} {s : Value} (hN : W.heap[N]? = some (.cells #[.bool d, s] 30)) (a b : Value) :
    ((W.setCell ⟨N, 0, none⟩ a).setCell ⟨N, 1, none⟩ b).cell? ⟨N, 0, none⟩ = some a ∧ ((W.setCell ⟨N, 0, none⟩ a).setCell ⟨N, 1, none⟩ b).cell? ⟨N, 1, none⟩ = some b := by
  obtain ⟨c0, c1, _, _⟩ := rbox_facts hN
  have e : (⟨N, 1, none⟩ : Addr) ≠ ⟨N, 0, none⟩ := fun h => by injection h with _ h _; cases h
  have e' : (⟨N, 0, none⟩ : Addr) ≠ ⟨N, 1, none⟩ := fun h => by injection h with _ h _; cases h
  constructor
  · rw [World.cell?_setCell_other (h := e)]
    exact World.cell?_setCell_same' _ _ _ (by rw [c0]; rfl)
  · exact World.cell?_setCell_same' _ _ _ (by rw [World.cell?_setCell_other (h := e'), c1]; rfl)
theorem IntsAt.not_box {W : World} {N : Nat} {d : Bool} {s v : Value} {l : List Nat} (h : IntsAt W v l) (hN : W.heap[N]? = some (.cells #[.bool d, s] 30)) (u : Value) (o : Nat) : IntsAt (W.setCell ⟨N, o, none⟩ u) v l := by
  rcases h with h | ⟨b, cap, hv, hlt, hl, hm, hc⟩
  · exact .inl h
  · refine .inr ⟨b, cap, hv, by simp [World.setCell]; exact hlt, hl, hm, fun j hj => ?_⟩
    have hb : b ≠ N := by
      rintro rfl
      have h0 := hc 0 (by omega)
      rw [(rbox_facts hN).1] at h0
      injection h0 with h0
      cases h0
    exact (World.cell?_of_block (w := W) (a := ⟨b, j, none⟩) (Below.heap_setCell W ⟨N, o, none⟩ u b hb)).trans (hc j hj)
theorem RefAt.setBox {W : World} {N : Nat} {d : Bool} {s r : Value} {z : Int} (h : RefAt W r z) (hN : W.heap[N]? = some (.cells #[.bool d, s] 30)) (a : Bool) (b : Value) : RefAt ((W.setCell ⟨N, 0, none⟩ (.bool a)).setCell ⟨N, 1, none⟩ b) r z := by
  obtain ⟨t, hr, hI⟩ := h
  refine ⟨t, hr, ?_⟩
  have h1 := hI.not_box hN (.bool a) 0
  have hN' : (W.setCell ⟨N, 0, none⟩ (.bool a)).heap[N]? = some (.cells #[.bool a, s] 30) := by
    simp [World.setCell, Array.getElem?_modify, hN]
  exact h1.not_box hN' b 1
theorem RefAt.form {w : World} {r : Value} {z : Int} (h : RefAt w r z) : ∃ p c, r = .agg #[.bool (decide (z < 0)), .slice p (limbs z.natAbs).length c] := by
  obtain ⟨s, hr, hI⟩ := h
  obtain ⟨p, c, hs, _⟩ := hI.form
  exact ⟨p, c, by rw [hr, hs]⟩
theorem RefAt.ints {w : World} {d : Bool} {s : Value} {z : Int} (h : RefAt w (.agg #[.bool d, s]) z) : d = decide (z < 0) ∧ IntsAt w s (limbs z.natAbs) := by
  obtain ⟨t, hr, hI⟩ := h
  injection hr with hr
  have : d = decide (z < 0) ∧ s = t := by simpa using (congrArg (fun a : Array Value => a.toList) hr : _)
  exact ⟨this.1, by rw [this.2]; exact hI⟩

theorem sg_opp (z : Int) : sg (!(decide (z < 0))) z.natAbs = -z := by
  unfold sg
  by_cases h : z < 0
  · rw [decide_eq_true h]; simp; omega
  · rw [decide_eq_false h]; simp; omega

set_option maxRecDepth 100000 in
set_option maxHeartbeats 600000 in
/-- Opposite. -/
theorem opposite_any (z : Int) (v : Value) (w : World) (h : RefAt w v z) :
    Calls Tryd.prog 23 #[v] w fun e w' => ∃ r, e = .returned r ∧ RefAt w' r (-z) ∧ Below w.heap.size w w' := by
  have HR : Hid (RefAt w v z) := h
  obtain ⟨p, c, rfl⟩ := h.form
  have HS : Hid (sg (!(decide (z < 0))) z.natAbs = -z) := sg_opp z
  have HI : Hid (∀ w', Below w.heap.size w w' → IntsAt w' (.slice p (limbs z.natAbs).length c) (limbs z.natAbs)) := fun w' hb => (RefAt.ints (HR.out.below hb)).2
  generalize decide (z < 0) = d at *
  clear h
  go_enter Tryd.func23, Tryd.ntmps23
  go_wp2_with fail
  generalize hW : (w.alloc (.cells #[.bool d, .slice p (limbs z.natAbs).length c] 30)).alloc (.cells #[.bool false, .slice none 0 0] 30) = W
  obtain ⟨hA, hR, hBW, hsz⟩ := two_objs w _ _ hW
  clear hW
  have HM := refMade_any (!d) (limbs z.natAbs) _ W (HI.out W hBW) (fun e h => Bn.limbs_lt' h)
  rw [Bn.val_limbs', HS.out] at HM
  refine HM.mono ?_
  rintro e w1 ⟨r, rfl, hr, hb1⟩
  obtain ⟨p1, c1, hr1⟩ := hr.form
  subst hr1
  have hR1 := (hb1.block (w.heap.size + 1) (by omega)).trans hR
  obtain ⟨r0, r1, r2, r3⟩ := rbox_facts hR1
  generalize decide (-z < 0) = dn at *
  generalize (limbs (-z).natAbs).length = ln at *
  obtain ⟨m0, m1⟩ := rbox_set hR1 (.bool dn) (.slice p1 ln c1)
  have hfin : Below w.heap.size w w1 := hBW.trans (hb1.mono hBW.size)
  go_wp2
  exact bodyPost_ret (v := .agg #[.bool dn, .slice p1 ln c1]) (by simp [results, Tryd.results23, go_sem, m0, m1]) rfl ⟨_, rfl, hr.setBox hR1 _ _, (hfin.setCell (p := ⟨w.heap.size + 1, 0, none⟩) (by show w.heap.size ≤ w.heap.size + 1; omega) _).setCell (p := ⟨w.heap.size + 1, 1, none⟩) (by show w.heap.size ≤ w.heap.size + 1; omega) _⟩

/-- What stays of two of the document's numbers. -/
def RTwo (W : World) (N : Nat) (d1 d2 : Bool) (s1 s2 : Value) (w' : World) : Prop :=
  w'.cell? ⟨N, 0, none⟩ = some (.bool d1) ∧ w'.cell? ⟨N, 1, none⟩ = some s1 ∧ w'.cell? ⟨N + 1, 0, none⟩ = some (.bool d2) ∧ w'.cell? ⟨N + 1, 1, none⟩ = some s2 ∧ N + 1 < w'.heap.size ∧ Below W.heap.size W w'
theorem RTwo.next {W : World} {N : Nat} {d1 d2 : Bool} {s1 s2 : Value} {w' w'' : World} (h : RTwo W N d1 d2 s1 s2 w') (hb : Below w'.heap.size w' w'') : RTwo W N d1 d2 s1 s2 w'' := by
  obtain ⟨h1, h2, h3, h4, h5, h6⟩ := h
  exact ⟨(hb.cell (p := ⟨N, 0, none⟩) (show N < _ by omega)).trans h1, (hb.cell (p := ⟨N, 1, none⟩) (show N < _ by omega)).trans h2, (hb.cell (p := ⟨N + 1, 0, none⟩) h5).trans h3, (hb.cell (p := ⟨N + 1, 1, none⟩) h5).trans h4, Nat.lt_of_lt_of_le h5 hb.size, h6.trans (hb.mono h6.size)⟩

theorem limbs_len_mono {a b : Nat} (h : a ≤ b) : (limbs a).length ≤ (limbs b).length := by
  rw [Bn.limbs_length_le]
  exact Nat.lt_of_le_of_lt h ((Bn.limbs_length_le b _).1 (Nat.le_refl _))
/-- made, of a size that has just been written. -/
theorem made_size (neg : Bool) (N : Nat) (z : Int) (v : Value) (w : World) (h : SizeAt w v N) (hz : sg neg N = z) :
    Calls Tryd.prog 38 #[.bool neg, v] w fun e w' => ∃ r, e = .returned r ∧ RefAt w' r z ∧ Below w.heap.size w w' := by
  obtain ⟨l, hI, hd, hv⟩ := h
  have := refMade_any neg l v w hI hd
  rw [hv, hz] at this; exact this
theorem SizeAt.form {w : World} {v : Value} {N : Nat} (h : SizeAt w v N) : ∃ p n c, v = .slice p n c := by
  obtain ⟨l, hI, _, _⟩ := h
  obtain ⟨p, c, hv, _⟩ := hI.form
  exact ⟨p, _, c, hv⟩

end Go.Proofs.YtangepgiamhenaaDoor

namespace Go.Proofs.YtangepgiamhenaaDoor
open Go.RowKit
open Bn (limbs)

theorem told_mid (f : Nat → Nat) (h : ∀ p, f p ≤ 999999998000000001) (k : Nat) : (told f k).2 ≤ 999999999 := by
  induction k with
  | zero => simp [told]
  | succ k ih => simp only [told]; have := h k; omega
theorem sumP_mulr (f : Nat → Nat) (c k : Nat) : sumP (fun p => f p * c) k = sumP f k * c := by
  induction k with
  | zero => simp [sumP]
  | succ k ih => simp only [sumP, ih, Nat.add_mul, Nat.mul_assoc]

set_option maxHeartbeats 1000000 in
set_option maxRecDepth 100000 in
/-- times. -/
theorem times_any (a : List Nat) (d : Nat) (va : Value) (w : World) (ha : IntsAt w va a) (hda : ∀ d ∈ a, d < 1000000000) (hd : d < 1000000000) (hla : a.length ≤ 5000000) :
    Calls Tryd.prog 63 #[va, .int .i64 (d : Int)] w fun e w' => ∃ v, e = .returned v ∧ IntsAt w' v (limbs (Bn.val a * d)) ∧ Below w.heap.size w w' := by
  obtain ⟨i0, hi, hz0, hz1, hz2⟩ := info_parts Tryd.info3
  obtain ⟨pa, ca, hva, _⟩ := ha.form
  subst hva
  have HA : Hid (∀ wr, Below w.heap.size w wr → IntsAt wr (.slice pa a.length ca) a) := fun wr h => ha.below h
  obtain ⟨f, hf⟩ : ∃ f : Nat → Nat, f = fun p => lAt a p * d := ⟨_, rfl⟩
  have hf0 : ∀ p, f p = lAt a p * d := fun p => by rw [hf]
  have hfs : ∀ p, f p ≤ 999999998000000001 := fun p => by
    have := lAt_lt hda p
    rw [hf0]; exact Nat.le_trans (Nat.mul_le_mul (show lAt a p ≤ 999999999 by omega) (show d ≤ 999999999 by omega)) (by decide)
  have HV : Hid (∀ k, a.length ≤ k → (told f k).2 = 0 → Bn.val (told f k).1 = Bn.val a * d) := by
    intro k hk h0
    have h := told_val f k
    rw [h0, Nat.mul_zero, Nat.add_zero] at h
    rw [h, hf, sumP_mulr, sumP_all hk]
  have HF : Hid (∀ p, f p = lAt a p * d) := hf0
  clear ha hf hf0
  go_enter Tryd.func63, Tryd.ntmps63
  go_wp2
  go_loopw [5, 6, 7] (fun ov cv iv wr => ∃ k : Nat, iv = .int .i64 (k : Int) ∧ k ≤ a.length + 1 ∧ cv = .int .i64 (((told f k).2 : Nat) : Int) ∧ (k = a.length + 1 → (told f k).2 = 0) ∧ wr.ownsRow w.heap.size 3 1 ov (told f k).1.length (cellsOf (told f k).1) ∧ Below w.heap.size w wr) (fun _ _ iv _ => a.length + 2 - (intOf iv).toNat)
  case atStart => exact ⟨0, rfl, by omega, rfl, fun _ => rfl, World.ownsRow_nil _ _ _ _, Below.refl _ _⟩
  case round =>
    obtain ⟨k, rfl, hk, rfl, hk0, hown, hbel⟩ := hrel
    have hc := told_mid f hfs k
    have hlen := told_length f k
    have hxb := lAt_lt hda k
    have HN : Hid (told f (k + 1) = ((told f k).1 ++ [((told f k).2 + lAt a k * d) % 1000000000], ((told f k).2 + lAt a k * d) / 1000000000)) := by show _ = _; rw [← HF.out k]; rfl
    have HZ : Hid (k = a.length → (told f (k + 1)).2 = 0) := by
      intro h
      rw [HN.out, lAt_past (l := a) (by omega), Nat.zero_mul]
      show ((told f k).2 + 0) / 1000000000 = 0
      omega
    have HE : Hid (a.length ≤ k → (told f k).2 = 0 → Bn.val (told f k).1 = Bn.val a * d) := HV.out k
    have HLd : Hid (∀ d ∈ (told f k).1, d < 1000000000) := told_lt f k
    generalize (told f k).1 = L at *
    generalize (told f k).2 = c at *
    by_cases hka : k < a.length
    · have hkn : k ≤ a.length := by omega
      obtain ⟨ba, rfl, hca⟩ := ints_at (HA.out wr hbel) rfl hka
      have hkaI : (k : Int) < (a.length : Int) := by omega
      obtain ⟨x, ex⟩ : ∃ x, x = lAt a k := ⟨_, rfl⟩
      rw [← ex] at hxb HN hca
      obtain ⟨m, em⟩ : ∃ m, m = x * d := ⟨_, rfl⟩
      have hmul : (x : Int) * (d : Int) = (m : Int) := by rw [em]; simp
      have hm : m ≤ 999999998000000001 := by
        rw [em]; exact Nat.le_trans (Nat.mul_le_mul (show x ≤ 999999999 by omega) (show d ≤ 999999999 by omega)) (by decide)
      rw [← em] at HN
      clear em ex
      go_wp2_with (at_builtin; refine append_one wr rfl _ _ 28 rfl w.heap.size 3 i0 .i64 8 Tryd.underlying28 hi hz0 hz1 hz2 _ _ _ (by rfl) hown _ _ rfl (by rfl) (by omega) (by decide) hbel.size ?_; intro v' w1 hown1 hgrow)
      have R := ints_rel (d := (c + m) % 1000000000) (by omega) hown hbel hbel.size hown1 hgrow
      have HR : Hid (w1.ownsRow w.heap.size 3 1 v' (L ++ [(c + m) % 1000000000]).length (cellsOf (L ++ [(c + m) % 1000000000])) ∧ Below w.heap.size w w1) := R
      clear R hown hown1 hgrow
      go_wp2
      go_roundw
      case rel =>
        refine ⟨k + 1, by go_num, by omega, ?_, ?_, ?_, HR.out.2⟩
        · rw [HN.out]; congr 1 <;> omega
        · intro h; exact HZ.out (by omega)
        · rw [HN.out]; exact HR.out.1
      case measure => simp [intOf]; omega
    · by_cases hc0 : c = 0
      · have HEE : Hid (Bn.val L = Bn.val a * d) := HE.out (by omega) hc0
        subst hc0
        have hkaI : ¬ (k : Int) < (a.length : Int) := by omega
        have HS : Hid (Calls Tryd.prog 62 #[u5] wr fun e w' => ∃ v', e = .returned v' ∧ IntsAt w' v' (limbs (Bn.val a * d)) ∧ Below w.heap.size w w') := by
          refine (refSize_any L _ wr (IntsAt.of_owns hown) HLd.out).mono ?_
          rintro e w' ⟨v', h1, h2, rfl, _⟩
          rw [trim_eq _ HLd.out, HEE.out] at h2
          exact ⟨v', h1, h2, hbel⟩
        obtain ⟨pv, cv, hov⟩ := own_form hown
        subst hov
        clear hlen
        go_wp2_with fail
        refine HS.out.mono ?_
        rintro e w1 ⟨v', rfl, hI, hb1⟩
        go_wp2
        go_ret
        exact ⟨_, rfl, hI, hb1⟩
      · have hkn : k ≤ a.length := by
          rcases Nat.lt_or_ge a.length k with h | h
          · exact absurd (hk0 (by omega)) hc0
          · exact h
        have hkaI : ¬ (k : Int) < (a.length : Int) := by omega
        rw [lAt_past (l := a) (by omega), Nat.zero_mul] at HN
        have hcI : (0 : Int) < (c : Int) := by omega
        go_wp2_with (at_builtin; refine append_one wr rfl _ _ 28 rfl w.heap.size 3 i0 .i64 8 Tryd.underlying28 hi hz0 hz1 hz2 _ _ _ (by rfl) hown _ _ rfl (by rfl) (by omega) (by decide) hbel.size ?_; intro v' w1 hown1 hgrow)
        have R := ints_rel (d := (c + 0) % 1000000000) (by omega) hown hbel hbel.size hown1 hgrow
        have HR : Hid (w1.ownsRow w.heap.size 3 1 v' (L ++ [(c + 0) % 1000000000]).length (cellsOf (L ++ [(c + 0) % 1000000000])) ∧ Below w.heap.size w w1) := R
        clear R hown hown1 hgrow
        go_wp2
        go_roundw
        case rel =>
          refine ⟨k + 1, by go_num, by omega, ?_, ?_, ?_, HR.out.2⟩
          · rw [HN.out]; congr 1 <;> omega
          · intro h; exact HZ.out (by omega)
          · rw [HN.out]; exact HR.out.1
        case measure => simp [intOf]; omega

end Go.Proofs.YtangepgiamhenaaDoor
