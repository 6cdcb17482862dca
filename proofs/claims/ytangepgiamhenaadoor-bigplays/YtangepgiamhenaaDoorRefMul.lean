/-
  The document's numbers: Mul.
-/
import Derived.Test.YtangepgiamhenaaDoorRefBox
import Derived.Test.YtangepgiamhenaaDoorMulAll
import Derived.Test.YtangepgiamhenaaDoorDivMath
import Derived.Deep.OwnRows
namespace Go.Proofs.YtangepgiamhenaaDoor
open Go.RowKit
open Bn (limbs)

/-- A row of numbers in a block of the call's own. -/
def RowI (w : World) (b : Nat) (l : List Nat) : Prop :=
  ∀ j (h : j < l.length), w.cell? ⟨b, j, none⟩ = some (.int .i64 ((l[j] : Nat) : Int)) ∧ w.frozen? ⟨b, j, none⟩ = false
theorem RowI.made (w : World) (n : Nat) : RowI (w.alloc (.cells (madeCells #[.int .i64 0] n) 3)) w.heap.size (List.replicate n 0) := by
  intro j hj
  have h := World.rowIs_made w (.int .i64 0) n 3
  have hj' : j < n := by simpa using hj
  refine ⟨?_, h.frozen j⟩
  rw [h.cell hj']
  simp
theorem RowI.set {w : World} {b k n : Nat} {l : List Nat} {u : Int} (h : RowI w b l) (hk : k < l.length) (hu : u = (n : Int)) : RowI (w.setCell ⟨b, k, none⟩ (.int .i64 u)) b (l.set k n) := by
  intro j hj
  have hj' : j < l.length := by simpa using hj
  obtain ⟨h1, h2⟩ := h j hj'
  refine ⟨?_, by rw [World.frozen?_setCell]; exact h2⟩
  by_cases e : j = k
  · subst e
    rw [World.cell?_setCell_same' _ _ _ (by rw [h1]; rfl), hu]
    simp
  · rw [World.cell?_setCell_other (h := show (⟨b, k, none⟩ : Addr) ≠ ⟨b, j, none⟩ from fun h => by injection h with _ h1 _; omega), h1, List.getElem_set_ne (by omega)]
theorem RowI.ints {w : World} {b : Nat} {l : List Nat} (h : RowI w b l) (hb : b < w.heap.size) (hm : l.length ≤ maxLen) : IntsAt w (.slice (some ⟨b, 0, none⟩) l.length l.length) l :=
  .inr ⟨b, l.length, rfl, hb, Nat.le_refl _, hm, fun j hj => (h j hj).1⟩

theorem val_set (l : List Nat) (k n : Nat) (h : k < l.length) : Bn.val (l.set k n) + 1000000000 ^ k * l[k] = Bn.val l + 1000000000 ^ k * n := by
  rw [List.set_eq_take_append_cons_drop, if_pos h, Bn.val_append]
  have h1 := val_split l k (by omega)
  rw [val_at l k h] at h1
  have : (l.take k).length = k := by simp; omega
  rw [this, h1]
  simp only [Bn.val, Nat.mul_add]
  omega
theorem val_take_succ (l : List Nat) (k : Nat) (h : k < l.length) : Bn.val (l.take (k + 1)) = Bn.val (l.take k) + 1000000000 ^ k * l[k] := by
  have := sumP_take l (k + 1)
  rw [sumP, sumP_take, lAt_get h] at this
  exact this.symm

/-- One step of the product of a limb. -/
theorem mul_step {O : List Nat} {i k c A x y d : Nat} {b : List Nat} (hO : i + k < O.length) (hd : d = O[i + k] + c + x * y) (hy : Bn.val (b.take (k + 1)) = Bn.val (b.take k) + 1000000000 ^ k * y)
    (hI : Bn.val O + 1000000000 ^ (i + k) * c = A + x * 1000000000 ^ i * Bn.val (b.take k)) :
    Bn.val (O.set (i + k) (d % 1000000000)) + 1000000000 ^ (i + (k + 1)) * (d / 1000000000) = A + x * 1000000000 ^ i * Bn.val (b.take (k + 1)) := by
  have h1 := val_set O (i + k) (d % 1000000000) hO
  have h2 := Nat.mod_add_div d 1000000000
  have h3 : 1000000000 ^ (i + (k + 1)) * (d / 1000000000) = 1000000000 ^ (i + k) * (1000000000 * (d / 1000000000)) := by
    rw [← Nat.add_assoc, Nat.pow_succ, Nat.mul_assoc]
  have h4 : 1000000000 ^ (i + k) * (d % 1000000000) + 1000000000 ^ (i + k) * (1000000000 * (d / 1000000000)) = 1000000000 ^ (i + k) * d := by
    rw [← Nat.mul_add, h2]
  have h5 : x * 1000000000 ^ i * (1000000000 ^ k * y) = 1000000000 ^ (i + k) * (x * y) := by
    rw [Nat.pow_add]
    simp only [Nat.mul_assoc, Nat.mul_left_comm, Nat.mul_comm]
  rw [hy, Nat.mul_add, h5]
  rw [hd, Nat.mul_add, Nat.mul_add] at h4
  rw [hd] at h1 h3
  rw [hd, h3]
  omega
/-- Where a carry is left, there is room for it. -/
theorem mul_room {O : List Nat} {i k c x A : Nat} {a b : List Nat} (hda : ∀ d ∈ a, d < 1000000000) (hdb : ∀ d ∈ b, d < 1000000000) (hi : i < a.length) (hx : x = a[i]) (hA : A = Bn.val (a.take i) * Bn.val b) (hk : b.length ≤ k) (hc : 0 < c)
    (hI : Bn.val O + 1000000000 ^ (i + k) * c = A + x * 1000000000 ^ i * Bn.val (b.take k)) : k ≤ b.length := by
  rw [List.take_of_length_le hk] at hI
  have h1 : A + x * 1000000000 ^ i * Bn.val b = Bn.val (a.take (i + 1)) * Bn.val b := by
    rw [val_take_succ a i hi, Nat.add_mul, hA, hx, Nat.mul_comm a[i]]
  rw [h1] at hI
  have h2 : Bn.val (a.take (i + 1)) < 1000000000 ^ (i + 1) := by
    have := val_lt (a.take (i + 1)) (fun d hd => hda d (List.mem_of_mem_take hd))
    rwa [List.length_take, Nat.min_eq_left (by omega)] at this
  have h3 := val_lt b hdb
  have h4 : Bn.val (a.take (i + 1)) * Bn.val b < 1000000000 ^ (i + 1) * 1000000000 ^ b.length := Nat.mul_lt_mul'' h2 h3
  rw [← Nat.pow_add] at h4
  rcases Nat.lt_or_ge b.length k with h | h
  · have h5 : 1000000000 ^ (i + 1 + b.length) ≤ 1000000000 ^ (i + k) := Nat.pow_le_pow_right (by decide) (by omega)
    have h6 := Nat.le_mul_of_pos_right (1000000000 ^ (i + k)) hc
    omega
  · exact h

set_option maxRecDepth 100000 in
set_option maxHeartbeats 1000000 in
/-- Mul. -/
theorem refMul_any (x y : Int) (va vb : Value) (w : World) (ha : RefAt w va x) (hb : RefAt w vb y) (hx : (limbs x.natAbs).length ≤ 1000000) (hy : (limbs y.natAbs).length ≤ 1000000) :
    Calls Tryd.prog 28 #[va, vb] w fun e w' => ∃ r, e = .returned r ∧ RefAt w' r (x * y) ∧ Below w.heap.size w w' := by
  obtain ⟨i0, hi, hz0, hz1, hz2⟩ := info_parts Tryd.info3
  have HA : Hid (RefAt w va x) := ha
  have HB : Hid (RefAt w vb y) := hb
  obtain ⟨p1, c1, rfl⟩ := ha.form
  obtain ⟨p2, c2, rfl⟩ := hb.form
  have HIa : Hid (∀ w', Below w.heap.size w w' → IntsAt w' (.slice p1 (limbs x.natAbs).length c1) (limbs x.natAbs)) := fun w' hb => (RefAt.ints (HA.out.below hb)).2
  have HIb : Hid (∀ w', Below w.heap.size w w' → IntsAt w' (.slice p2 (limbs y.natAbs).length c2) (limbs y.natAbs)) := fun w' hb => (RefAt.ints (HB.out.below hb)).2
  have HE : Hid (sg (!(decide (x < 0) == decide (y < 0))) (x.natAbs * y.natAbs) = x * y) := sg_mul x y
  obtain ⟨a, ea⟩ : ∃ a, a = limbs x.natAbs := ⟨_, rfl⟩
  obtain ⟨b, eb⟩ : ∃ b, b = limbs y.natAbs := ⟨_, rfl⟩
  have Ea : Hid (Bn.val a = x.natAbs) := by show _ = _; rw [ea, Bn.val_limbs']
  have Eb : Hid (Bn.val b = y.natAbs) := by show _ = _; rw [eb, Bn.val_limbs']
  have hda : ∀ d ∈ a, d < 1000000000 := fun d h => by rw [ea] at h; exact Bn.limbs_lt' h
  have hdb : ∀ d ∈ b, d < 1000000000 := fun d h => by rw [eb] at h; exact Bn.limbs_lt' h
  rw [← ea] at HIa hx
  rw [← eb] at HIb hy
  rw [← ea, ← eb]
  clear ea eb ha hb HA HB
  generalize decide (x < 0) = d1 at *
  generalize decide (y < 0) = d2 at *
  have hmk : ∀ w, (Instr.makeSlice 28 (.int .i64 ((a.length : Int) + (b.length : Int) + 1)) (.int .i64 ((a.length : Int) + (b.length : Int) + 1))).run Tryd.prog w = .ok (.slice (some ⟨w.heap.size, 0, none⟩) (a.length + b.length + 1) (a.length + b.length + 1)) (w.alloc (.cells (madeCells #[.int .i64 0] (a.length + b.length + 1)) 3)) :=
    run_make_row (P := Tryd.prog) 28 3 i0 (.int .i64 0) Tryd.underlying28 hi hz0 hz1 rfl .i64 .i64 (a.length + b.length + 1) (by rw [hz2]; omega) (by omega)
  go_enter Tryd.func28, Tryd.ntmps28
  go_wp2_with fail
  generalize hW : ((w.alloc (.cells #[.bool d1, .slice p1 a.length c1] 30)).alloc (.cells #[.bool d2, .slice p2 b.length c2] 30)).alloc (.cells #[.bool false, .slice none 0 0] 30) = W
  obtain ⟨hA, hB, hR, hBW, hsz⟩ := three_objs w _ _ _ hW
  clear hW
  obtain ⟨V, hV⟩ : ∃ V, V = W.alloc (.cells (madeCells #[.int .i64 0] (a.length + b.length + 1)) 3) := ⟨_, rfl⟩
  have hVW : Below W.heap.size W V := by rw [hV]; exact (Below.refl _ _).alloc (Nat.le_refl _) _
  have hVs : V.heap.size = W.heap.size + 1 := by rw [hV]; simp
  have hRow : RowI V W.heap.size (List.replicate (a.length + b.length + 1) 0) := by rw [hV]; exact RowI.made W _
  rw [← hV]
  clear hV
  have hAV := (hVW.block w.heap.size (by omega)).trans hA
  have hBV := (hVW.block (w.heap.size + 1) (by omega)).trans hB
  have hRV := (hVW.block (w.heap.size + 1 + 1) (by omega)).trans hR
  have HwV : Hid (Below w.heap.size w V) := hBW.trans (hVW.mono hBW.size)
  obtain ⟨ob, hob⟩ : ∃ ob, ob = W.heap.size := ⟨_, rfl⟩
  rw [← hob] at hRow hVs
  rw [show w.heap.size + 3 = ob from by omega]
  have hlen : a.length + b.length + 1 ≤ 2000001 := by omega
  have HI0 : Hid ((List.replicate (a.length + b.length + 1) 0).length = a.length + b.length + 1 ∧ (∀ d ∈ List.replicate (a.length + b.length + 1) 0, d < 1000000000) ∧ Bn.val (List.replicate (a.length + b.length + 1) 0) = Bn.val (a.take 0) * Bn.val b) := by
    refine ⟨by simp, fun d hd => by rw [(List.mem_replicate.1 hd).2]; decide, ?_⟩
    have := val_pad [] (a.length + b.length + 1)
    rw [List.nil_append] at this
    rw [this]; simp [Bn.val]
  generalize hO0 : List.replicate (a.length + b.length + 1) 0 = O0 at *
  have hobw : w.heap.size + 1 + 1 < ob := by omega
  have hobV : ob < V.heap.size := by omega
  clear hO0 hmk hob hsz hVs hVW hBW
  go_loopw [6] (fun iv wr => ∃ (i : Nat) (O : List Nat), iv = .int .i64 (i : Int) ∧ i ≤ a.length ∧ Hid (O.length = a.length + b.length + 1 ∧ (∀ d ∈ O, d < 1000000000) ∧ Bn.val O = Bn.val (a.take i) * Bn.val b) ∧ RowI wr ob O ∧ Below ob V wr) (fun iv _ => a.length - (intOf iv).toNat)
  case atStart => exact ⟨0, O0, rfl, Nat.zero_le _, HI0, hRow, Below.refl _ _⟩
  case round =>
    obtain ⟨i, O, rfl, hil, HI, hrow, hbel⟩ := hrel
    obtain ⟨a0, a1, _, _⟩ := rbox_facts ((hbel.block w.heap.size (by omega)).trans hAV)
    obtain ⟨b0, b1, _, _⟩ := rbox_facts ((hbel.block (w.heap.size + 1) (by omega)).trans hBV)
    by_cases hia : i < a.length
    · have hiaI : (i : Int) < (a.length : Int) := by omega
      have HX : Hid (∀ wr', Below ob V wr' → ∃ ba, p1 = some ⟨ba, 0, none⟩ ∧ wr'.cell? ⟨ba, i, none⟩ = some (.int .i64 ((lAt a i : Nat) : Int))) := fun wr' h => ints_at (HIa.out wr' (HwV.out.trans (h.mono (by omega)))) rfl hia
      have hxb := lAt_lt hda i
      obtain ⟨xi, hxi⟩ : ∃ xi, xi = lAt a i := ⟨_, rfl⟩
      have HXI : Hid (xi = a[i]) := by show _ = _; rw [hxi, lAt_get hia]
      rw [← hxi] at HX hxb
      clear hxi
      go_wp2_with fail
      go_loopw [7, 8] (fun cv kv wr' => ∃ (k c : Nat) (O : List Nat), kv = .int .i64 (k : Int) ∧ k ≤ b.length + 1 ∧ cv = .int .i64 (c : Int) ∧ c ≤ 999999999 ∧ Hid (O.length = a.length + b.length + 1 ∧ (∀ d ∈ O, d < 1000000000) ∧ Bn.val O + 1000000000 ^ (i + k) * c = Bn.val (a.take i) * Bn.val b + xi * 1000000000 ^ i * Bn.val (b.take k)) ∧ RowI wr' ob O ∧ Below ob V wr') (fun _ kv _ => b.length + 2 - (intOf kv).toNat)
      case atStart => exact ⟨0, 0, O, rfl, by omega, rfl, by omega, ⟨HI.out.1, HI.out.2.1, by rw [HI.out.2.2]; simp [Bn.val]⟩, hrow, hbel⟩
      case round =>
        clear hrow hbel HI a0 a1 b0 b1
        obtain ⟨k, c, O, rfl, hkl, rfl, hcl, HI, hrow, hbel⟩ := hrel
        obtain ⟨a0, a1, _, _⟩ := rbox_facts ((hbel.block w.heap.size (by omega)).trans hAV)
        obtain ⟨b0, b1, _, _⟩ := rbox_facts ((hbel.block (w.heap.size + 1) (by omega)).trans hBV)
        by_cases hkb : k < b.length
        · have hkbI : (k : Int) < (b.length : Int) := by omega
          have hO : i + k < O.length := by have := HI.out.1; omega
          obtain ⟨co, fo⟩ := hrow (i + k) hO
          obtain ⟨ba, hba, hca⟩ := HX.out _ hbel
          subst hba
          obtain ⟨bb, rfl, hcb⟩ := ints_at (HIb.out _ (HwV.out.trans (hbel.mono (by omega)))) rfl hkb
          have hyb := lAt_lt hdb k
          have hob2 := HI.out.2.1 _ (List.getElem_mem hO)
          obtain ⟨yk, hyk⟩ : ∃ yk, yk = lAt b k := ⟨_, rfl⟩
          have HYk : Hid (Bn.val (b.take (k + 1)) = Bn.val (b.take k) + 1000000000 ^ k * yk) := by show _ = _; rw [hyk, lAt_get hkb]; exact val_take_succ b k hkb
          rw [← hyk] at hcb hyb
          clear hyk
          obtain ⟨m, em⟩ : ∃ m, m = xi * yk := ⟨_, rfl⟩
          have hmul : (xi : Int) * (yk : Int) = (m : Int) := by rw [em]; simp
          have hm : m ≤ 999999998000000001 := by
            rw [em]; exact Nat.le_trans (Nat.mul_le_mul (show xi ≤ 999999999 by omega) (show yk ≤ 999999999 by omega)) (by decide)
          have HST : Hid (Bn.val (O.set (i + k) ((O[i + k] + c + m) % 1000000000)) + 1000000000 ^ (i + (k + 1)) * ((O[i + k] + c + m) / 1000000000) = Bn.val (a.take i) * Bn.val b + xi * 1000000000 ^ i * Bn.val (b.take (k + 1))) :=
            mul_step hO (by rw [em]) HYk.out HI.out.2.2
          obtain ⟨oo, hoo⟩ : ∃ oo, oo = O[i + k] := ⟨_, rfl⟩
          rw [← hoo] at co hob2 HST
          clear em hoo
          have hikI : (i : Int) + (k : Int) < (a.length : Int) + (b.length : Int) + 1 := by omega
          go_wp2
          go_region
          go_wp2
          refine ⟨⟨k + 1, (oo + c + m) / 1000000000, O.set (i + k) ((oo + c + m) % 1000000000), rfl, by omega, by rw [show (((oo : Int) + (c : Int) + (m : Int)) / 1000000000) = (((oo + c + m) / 1000000000 : Nat) : Int) from by omega], by omega, ⟨by rw [List.length_set]; exact HI.out.1, fun d hd => ?_, HST.out⟩, hrow.set hO (by omega), (hbel.setCell (p := ⟨ob, i + k, none⟩) (Nat.le_refl _) _).drew⟩, by simp [intOf]; omega⟩
          rcases List.mem_or_eq_of_mem_set hd with h | h
          · exact HI.out.2.1 d h
          · omega
        · have hkbI : ¬ (k : Int) < (b.length : Int) := by omega
          by_cases hc0 : c = 0
          · subst hc0
            go_wp2
            refine ⟨⟨i + 1, O, rfl, by omega, ⟨HI.out.1, HI.out.2.1, ?_⟩, hrow, hbel⟩, by simp [intOf]; omega⟩
            have h := HI.out.2.2
            rw [Nat.mul_zero, Nat.add_zero, List.take_of_length_le (l := b) (by omega)] at h
            rw [h, val_take_succ a i hia, Nat.add_mul, HXI.out, Nat.mul_comm a[i]]
          · have hcI : (0 : Int) < (c : Int) := by omega
            have hkle : k ≤ b.length := mul_room hda hdb hia HXI.out rfl (by omega) (by omega) HI.out.2.2
            have hO : i + k < O.length := by have := HI.out.1; omega
            obtain ⟨co, fo⟩ := hrow (i + k) hO
            have hob2 := HI.out.2.1 _ (List.getElem_mem hO)
            have HYk : Hid (Bn.val (b.take (k + 1)) = Bn.val (b.take k) + 1000000000 ^ k * 0) := by
              show _ = _
              rw [List.take_of_length_le (by omega), List.take_of_length_le (by omega), Nat.mul_zero, Nat.add_zero]
            have HST : Hid (Bn.val (O.set (i + k) ((O[i + k] + c + xi * 0) % 1000000000)) + 1000000000 ^ (i + (k + 1)) * ((O[i + k] + c + xi * 0) / 1000000000) = Bn.val (a.take i) * Bn.val b + xi * 1000000000 ^ i * Bn.val (b.take (k + 1))) :=
              mul_step hO rfl HYk.out HI.out.2.2
            rw [Nat.mul_zero, Nat.add_zero] at HST
            obtain ⟨oo, hoo⟩ : ∃ oo, oo = O[i + k] := ⟨_, rfl⟩
            rw [← hoo] at co hob2 HST
            clear hoo
            have hikI : (i : Int) + (k : Int) < (a.length : Int) + (b.length : Int) + 1 := by omega
            go_wp2
            refine ⟨⟨k + 1, (oo + c) / 1000000000, O.set (i + k) ((oo + c) % 1000000000), rfl, by omega, by rw [show (((oo : Int) + (c : Int)) / 1000000000) = (((oo + c) / 1000000000 : Nat) : Int) from by omega], by omega, ⟨by rw [List.length_set]; exact HI.out.1, fun d hd => ?_, HST.out⟩, hrow.set hO (by omega), hbel.setCell (p := ⟨ob, i + k, none⟩) (Nat.le_refl _) _⟩, by simp [intOf]; omega⟩
            rcases List.mem_or_eq_of_mem_set hd with h | h
            · exact HI.out.2.1 d h
            · omega
    · have hiaI : ¬ (i : Int) < (a.length : Int) := by omega
      have hwr : Below w.heap.size w wr := HwV.out.trans (hbel.mono (by omega))
      have hRw := (hbel.block (w.heap.size + 1 + 1) (by omega)).trans hRV
      have hsw : ob < wr.heap.size := Nat.lt_of_lt_of_le hobV hbel.size
      have HMd : Hid (∀ w', w'.heap = wr.heap → Calls Tryd.prog 38 #[.bool (!(d1 == d2)), .slice (some ⟨ob, 0, none⟩) (a.length + b.length + 1) (a.length + b.length + 1)] w' fun e w'' => ∃ r, e = .returned r ∧ RefAt w'' r (x * y) ∧ Below w'.heap.size w' w'') := by
        intro w' hh
        have hI : IntsAt w' (.slice (some ⟨ob, 0, none⟩) O.length O.length) O := .inr ⟨ob, O.length, rfl, by rw [hh]; exact hsw, Nat.le_refl _, by unfold maxLen; have := HI.out.1; omega, fun j hj => (World.cell?_of_block (a := ⟨ob, j, none⟩) (by rw [hh])).trans (hrow j hj).1⟩
        rw [HI.out.1] at hI
        have := refMade_any (!(d1 == d2)) O _ w' hI HI.out.2.1
        rw [HI.out.2.2, List.take_of_length_le (by omega), Ea.out, Eb.out, HE.out] at this
        exact this
      go_wp2_with fail
      refine (HMd.out wr rfl).mono ?_
      rintro e w1 ⟨r, rfl, hr, hb1⟩
      obtain ⟨p4, c4, hr4⟩ := hr.form
      subst hr4
      have hR1 := (hb1.block (w.heap.size + 1 + 1) (by omega)).trans hRw
      obtain ⟨r0, r1, r2, r3⟩ := rbox_facts hR1
      generalize decide (x * y < 0) = dn at *
      generalize (limbs (x * y).natAbs).length = ln at *
      obtain ⟨m0, m1⟩ := rbox_set hR1 (.bool dn) (.slice p4 ln c4)
      have hfin : Below w.heap.size w w1 := hwr.trans (hb1.mono hwr.size)
      go_wp2
      exact bodyPost_ret (v := .agg #[.bool dn, .slice p4 ln c4]) (by simp [results, Tryd.results28, go_sem, m0, m1]) rfl ⟨_, rfl, hr.setBox hR1 _ _, (hfin.setCell (p := ⟨w.heap.size + 1 + 1, 0, none⟩) (by show w.heap.size ≤ w.heap.size + 1 + 1; omega) _).setCell (p := ⟨w.heap.size + 1 + 1, 1, none⟩) (by show w.heap.size ≤ w.heap.size + 1 + 1; omega) _⟩
end Go.Proofs.YtangepgiamhenaaDoor
