/-
  Several texts in one: RefMul, RefAdd, RefDiv, RefSub.
-/
import Derived.Test.YtangepgiamhenaaDoorRefLess
import Derived.Test.YtangepgiamhenaaDoorMul
import Derived.Test.YtangepgiamhenaaDoorDivMath
import Derived.Deep.OwnRows
import Derived.Test.YtangepgiamhenaaDoorDivUp
import Derived.Test.YtangepgiamhenaaDoorDivShort
import Derived.Laws.AppendOwnNone
namespace Go.Proofs.YtangepgiamhenaaDoor
open Go.RowKit
open Bn (limbs)

/-- A row of numbers in a block of the call's own. -/
def RowI (w : World) (b : Nat) (l : List Nat) : Prop :=
  ∀ j (h : j < l.length), w.cell? ⟨b, j, none⟩ = some (.int .i64 ((l[j] : Nat) : Int)) ∧ w.frozen? ⟨b, j, none⟩ = false
theorem RowI.made (w : World) (n : Nat) : RowI (w.alloc (.cells (madeCells #[.int .i64 0] n) 3)) w.heap.size (List.replicate n 0) := by
  intro j hj
  have h := World.rowIs_made w (.int .i64 0) n 3
  have hj' : j < n := by simpa using hj
  refine ⟨?_, h.frozen j⟩
  rw [h.cell hj']
  simp
theorem RowI.set {w : World} {b k n : Nat} {l : List Nat} {u : Int} (h : RowI w b l) (hk : k < l.length) (hu : u = (n : Int)) : RowI (w.setCell ⟨b, k, none⟩ (.int .i64 u)) b (l.set k n) := by
  intro j hj
  have hj' : j < l.length := by simpa using hj
  obtain ⟨h1, h2⟩ := h j hj'
  refine ⟨?_, by rw [World.frozen?_setCell]; exact h2⟩
  by_cases e : j = k
  · subst e
    rw [World.cell?_setCell_same' _ _ _ (by rw [h1]; rfl), hu]
    simp
  · rw [World.cell?_setCell_other (h := show (⟨b, k, none⟩ : Addr) ≠ ⟨b, j, none⟩ from fun h => by injection h with _ h1 _; omega), h1, List.getElem_set_ne (by omega)]
theorem RowI.ints {w : World} {b : Nat} {l : List Nat} (h : RowI w b l) (hb : b < w.heap.size) (hm : l.length ≤ maxLen) : IntsAt w (.slice (some ⟨b, 0, none⟩) l.length l.length) l :=
  .inr ⟨b, l.length, rfl, hb, Nat.le_refl _, hm, fun j hj => (h j hj).1⟩

theorem val_set (l : List Nat) (k n : Nat) (h : k < l.length) : Bn.val (l.set k n) + 1000000000 ^ k * l[k] = Bn.val l + 1000000000 ^ k * n := by
  rw [List.set_eq_take_append_cons_drop, if_pos h, Bn.val_append]
  have h1 := val_split l k (by omega)
  rw [val_at l k h] at h1
  have : (l.take k).length = k := by simp; omega
  rw [this, h1]
  simp only [Bn.val, Nat.mul_add]
  omega
theorem val_take_succ (l : List Nat) (k : Nat) (h : k < l.length) : Bn.val (l.take (k + 1)) = Bn.val (l.take k) + 1000000000 ^ k * l[k] := by
  have := sumP_take l (k + 1)
  rw [sumP, sumP_take, lAt_get h] at this
  exact this.symm

/-- One step of the product of a limb. -/
theorem mul_step {O : List Nat} {i k c A x y d : Nat} {b : List Nat} (hO : i + k < O.length) (hd : d = O[i + k] + c + x * y) (hy : Bn.val (b.take (k + 1)) = Bn.val (b.take k) + 1000000000 ^ k * y)
    (hI : Bn.val O + 1000000000 ^ (i + k) * c = A + x * 1000000000 ^ i * Bn.val (b.take k)) :
    Bn.val (O.set (i + k) (d % 1000000000)) + 1000000000 ^ (i + (k + 1)) * (d / 1000000000) = A + x * 1000000000 ^ i * Bn.val (b.take (k + 1)) := by
  have h1 := val_set O (i + k) (d % 1000000000) hO
  have h2 := Nat.mod_add_div d 1000000000
  have h3 : 1000000000 ^ (i + (k + 1)) * (d / 1000000000) = 1000000000 ^ (i + k) * (1000000000 * (d / 1000000000)) := by
    rw [← Nat.add_assoc, Nat.pow_succ, Nat.mul_assoc]
  have h4 : 1000000000 ^ (i + k) * (d % 1000000000) + 1000000000 ^ (i + k) * (1000000000 * (d / 1000000000)) = 1000000000 ^ (i + k) * d := by
    rw [← Nat.mul_add, h2]
  have h5 : x * 1000000000 ^ i * (1000000000 ^ k * y) = 1000000000 ^ (i + k) * (x * y) := by
    rw [Nat.pow_add]
    simp only [Nat.mul_assoc, Nat.mul_left_comm, Nat.mul_comm]
  rw [hy, Nat.mul_add, h5]
  rw [hd, Nat.mul_add, Nat.mul_add] at h4
  rw [hd] at h1 h3
  rw [hd, h3]
  omega
/-- Where a carry is left, there is room for it. -/
theorem mul_room {O : List Nat} {i k c x A : Nat} {a b : List Nat} (hda : ∀ d ∈ a, d < 1000000000) (hdb : ∀ d ∈ b, d < 1000000000) (hi : i < a.length) (hx : x = a[i]) (hA : A = Bn.val (a.take i) * Bn.val b) (hk : b.length ≤ k) (hc : 0 < c)
    (hI : Bn.val O + 1000000000 ^ (i + k) * c = A + x * 1000000000 ^ i * Bn.val (b.take k)) : k ≤ b.length := by
  rw [List.take_of_length_le hk] at hI
  have h1 : A + x * 1000000000 ^ i * Bn.val b = Bn.val (a.take (i + 1)) * Bn.val b := by
    rw [val_take_succ a i hi, Nat.add_mul, hA, hx, Nat.mul_comm a[i]]
  rw [h1] at hI
  have h2 : Bn.val (a.take (i + 1)) < 1000000000 ^ (i + 1) := by
    have := val_lt (a.take (i + 1)) (fun d hd => hda d (List.mem_of_mem_take hd))
    rwa [List.length_take, Nat.min_eq_left (by omega)] at this
  have h3 := val_lt b hdb
  have h4 : Bn.val (a.take (i + 1)) * Bn.val b < 1000000000 ^ (i + 1) * 1000000000 ^ b.length := Nat.mul_lt_mul'' h2 h3
  rw [← Nat.pow_add] at h4
  rcases Nat.lt_or_ge b.length k with h | h
  · have h5 : 1000000000 ^ (i + 1 + b.length) ≤ 1000000000 ^ (i + k) := Nat.pow_le_pow_right (by decide) (by omega)
    have h6 := Nat.le_mul_of_pos_right (1000000000 ^ (i + k)) hc
    omega
  · exact h

set_option maxRecDepth 100000 in
set_option maxHeartbeats 1000000 in
/-- Mul. -/
theorem refMul_any (x y : Int) (va vb : Value) (w : World) (ha : RefAt w va x) (hb : RefAt w vb y) (hx : (limbs x.natAbs).length ≤ 1000000) (hy : (limbs y.natAbs).length ≤ 1000000) :
    Calls Tryd.prog 28 #[va, vb] w fun e w' => ∃ r, e = .returned r ∧ RefAt w' r (x * y) ∧ Below w.heap.size w w' := by
  obtain ⟨i0, hi, hz0, hz1, hz2⟩ := info_parts Tryd.info3
  have HA : Hid (RefAt w va x) := ha
  have HB : Hid (RefAt w vb y) := hb
  obtain ⟨p1, c1, rfl⟩ := ha.form
  obtain ⟨p2, c2, rfl⟩ := hb.form
  have HIa : Hid (∀ w', Below w.heap.size w w' → IntsAt w' (.slice p1 (limbs x.natAbs).length c1) (limbs x.natAbs)) := fun w' hb => (RefAt.ints (HA.out.below hb)).2
  have HIb : Hid (∀ w', Below w.heap.size w w' → IntsAt w' (.slice p2 (limbs y.natAbs).length c2) (limbs y.natAbs)) := fun w' hb => (RefAt.ints (HB.out.below hb)).2
  have HE : Hid (sg (!(decide (x < 0) == decide (y < 0))) (x.natAbs * y.natAbs) = x * y) := sg_mul x y
  obtain ⟨a, ea⟩ : ∃ a, a = limbs x.natAbs := ⟨_, rfl⟩
  obtain ⟨b, eb⟩ : ∃ b, b = limbs y.natAbs := ⟨_, rfl⟩
  have Ea : Hid (Bn.val a = x.natAbs) := by show _ = _; rw [ea, Bn.val_limbs']
  have Eb : Hid (Bn.val b = y.natAbs) := by show _ = _; rw [eb, Bn.val_limbs']
  have hda : ∀ d ∈ a, d < 1000000000 := fun d h => by rw [ea] at h; exact Bn.limbs_lt' h
  have hdb : ∀ d ∈ b, d < 1000000000 := fun d h => by rw [eb] at h; exact Bn.limbs_lt' h
  rw [← ea] at HIa hx
  rw [← eb] at HIb hy
  rw [← ea, ← eb]
  clear ea eb ha hb HA HB
  generalize decide (x < 0) = d1 at *
  generalize decide (y < 0) = d2 at *
  have hmk : ∀ w, (Instr.makeSlice 28 (.int .i64 ((a.length : Int) + (b.length : Int) + 1)) (.int .i64 ((a.length : Int) + (b.length : Int) + 1))).run Tryd.prog w = .ok (.slice (some ⟨w.heap.size, 0, none⟩) (a.length + b.length + 1) (a.length + b.length + 1)) (w.alloc (.cells (madeCells #[.int .i64 0] (a.length + b.length + 1)) 3)) :=
    run_make_row (P := Tryd.prog) 28 3 i0 (.int .i64 0) Tryd.underlying28 hi hz0 hz1 rfl .i64 .i64 (a.length + b.length + 1) (by rw [hz2]; omega) (by omega)
  go_enter Tryd.func28, Tryd.ntmps28
  go_wp2_with fail
  generalize hW : ((w.alloc (.cells #[.bool d1, .slice p1 a.length c1] 30)).alloc (.cells #[.bool d2, .slice p2 b.length c2] 30)).alloc (.cells #[.bool false, .slice none 0 0] 30) = W
  obtain ⟨hA, hB, hR, hBW, hsz⟩ := three_objs w _ _ _ hW
  clear hW
  obtain ⟨V, hV⟩ : ∃ V, V = W.alloc (.cells (madeCells #[.int .i64 0] (a.length + b.length + 1)) 3) := ⟨_, rfl⟩
  have hVW : Below W.heap.size W V := by rw [hV]; exact (Below.refl _ _).alloc (Nat.le_refl _) _
  have hVs : V.heap.size = W.heap.size + 1 := by rw [hV]; simp
  have hRow : RowI V W.heap.size (List.replicate (a.length + b.length + 1) 0) := by rw [hV]; exact RowI.made W _
  rw [← hV]
  clear hV
  have hAV := (hVW.block w.heap.size (by omega)).trans hA
  have hBV := (hVW.block (w.heap.size + 1) (by omega)).trans hB
  have hRV := (hVW.block (w.heap.size + 1 + 1) (by omega)).trans hR
  have HwV : Hid (Below w.heap.size w V) := hBW.trans (hVW.mono hBW.size)
  obtain ⟨ob, hob⟩ : ∃ ob, ob = W.heap.size := ⟨_, rfl⟩
  rw [← hob] at hRow hVs
  rw [show w.heap.size + 3 = ob from by omega]
  have hlen : a.length + b.length + 1 ≤ 2000001 := by omega
  have HI0 : Hid ((List.replicate (a.length + b.length + 1) 0).length = a.length + b.length + 1 ∧ (∀ d ∈ List.replicate (a.length + b.length + 1) 0, d < 1000000000) ∧ Bn.val (List.replicate (a.length + b.length + 1) 0) = Bn.val (a.take 0) * Bn.val b) := by
    refine ⟨by simp, fun d hd => by rw [(List.mem_replicate.1 hd).2]; decide, ?_⟩
    have := val_pad [] (a.length + b.length + 1)
    rw [List.nil_append] at this
    rw [this]; simp [Bn.val]
  generalize hO0 : List.replicate (a.length + b.length + 1) 0 = O0 at *
  have hobw : w.heap.size + 1 + 1 < ob := by omega
  have hobV : ob < V.heap.size := by omega
  clear hO0 hmk hob hsz hVs hVW hBW
  go_loopw [6] (fun iv wr => ∃ (i : Nat) (O : List Nat), iv = .int .i64 (i : Int) ∧ i ≤ a.length ∧ Hid (O.length = a.length + b.length + 1 ∧ (∀ d ∈ O, d < 1000000000) ∧ Bn.val O = Bn.val (a.take i) * Bn.val b) ∧ RowI wr ob O ∧ Below ob V wr) (fun iv _ => a.length - (intOf iv).toNat)
  case atStart => exact ⟨0, O0, rfl, Nat.zero_le _, HI0, hRow, Below.refl _ _⟩
  case round =>
    obtain ⟨i, O, rfl, hil, HI, hrow, hbel⟩ := hrel
    obtain ⟨a0, a1, _, _⟩ := rbox_facts ((hbel.block w.heap.size (by omega)).trans hAV)
    obtain ⟨b0, b1, _, _⟩ := rbox_facts ((hbel.block (w.heap.size + 1) (by omega)).trans hBV)
    by_cases hia : i < a.length
    · have hiaI : (i : Int) < (a.length : Int) := by omega
      have HX : Hid (∀ wr', Below ob V wr' → ∃ ba, p1 = some ⟨ba, 0, none⟩ ∧ wr'.cell? ⟨ba, i, none⟩ = some (.int .i64 ((lAt a i : Nat) : Int))) := fun wr' h => ints_at (HIa.out wr' (HwV.out.trans (h.mono (by omega)))) rfl hia
      have hxb := lAt_lt hda i
      obtain ⟨xi, hxi⟩ : ∃ xi, xi = lAt a i := ⟨_, rfl⟩
      have HXI : Hid (xi = a[i]) := by show _ = _; rw [hxi, lAt_get hia]
      rw [← hxi] at HX hxb
      clear hxi
      go_wp2_with fail
      go_loopw [7, 8] (fun cv kv wr' => ∃ (k c : Nat) (O : List Nat), kv = .int .i64 (k : Int) ∧ k ≤ b.length + 1 ∧ cv = .int .i64 (c : Int) ∧ c ≤ 999999999 ∧ Hid (O.length = a.length + b.length + 1 ∧ (∀ d ∈ O, d < 1000000000) ∧ Bn.val O + 1000000000 ^ (i + k) * c = Bn.val (a.take i) * Bn.val b + xi * 1000000000 ^ i * Bn.val (b.take k)) ∧ RowI wr' ob O ∧ Below ob V wr') (fun _ kv _ => b.length + 2 - (intOf kv).toNat)
      case atStart => exact ⟨0, 0, O, rfl, by omega, rfl, by omega, ⟨HI.out.1, HI.out.2.1, by rw [HI.out.2.2]; simp [Bn.val]⟩, hrow, hbel⟩
      case round =>
        clear hrow hbel HI a0 a1 b0 b1
        obtain ⟨k, c, O, rfl, hkl, rfl, hcl, HI, hrow, hbel⟩ := hrel
        obtain ⟨a0, a1, _, _⟩ := rbox_facts ((hbel.block w.heap.size (by omega)).trans hAV)
        obtain ⟨b0, b1, _, _⟩ := rbox_facts ((hbel.block (w.heap.size + 1) (by omega)).trans hBV)
        by_cases hkb : k < b.length
        · have hkbI : (k : Int) < (b.length : Int) := by omega
          have hO : i + k < O.length := by have := HI.out.1; omega
          obtain ⟨co, fo⟩ := hrow (i + k) hO
          obtain ⟨ba, hba, hca⟩ := HX.out _ hbel
          subst hba
          obtain ⟨bb, rfl, hcb⟩ := ints_at (HIb.out _ (HwV.out.trans (hbel.mono (by omega)))) rfl hkb
          have hyb := lAt_lt hdb k
          have hob2 := HI.out.2.1 _ (List.getElem_mem hO)
          obtain ⟨yk, hyk⟩ : ∃ yk, yk = lAt b k := ⟨_, rfl⟩
          have HYk : Hid (Bn.val (b.take (k + 1)) = Bn.val (b.take k) + 1000000000 ^ k * yk) := by show _ = _; rw [hyk, lAt_get hkb]; exact val_take_succ b k hkb
          rw [← hyk] at hcb hyb
          clear hyk
          obtain ⟨m, em⟩ : ∃ m, m = xi * yk := ⟨_, rfl⟩
          have hmul : (xi : Int) * (yk : Int) = (m : Int) := by rw [em]; simp
          have hm : m ≤ 999999998000000001 := by
            rw [em]; exact Nat.le_trans (Nat.mul_le_mul (show xi ≤ 999999999 by omega) (show yk ≤ 999999999 by omega)) (by decide)
          have HST : Hid (Bn.val (O.set (i + k) ((O[i + k] + c + m) % 1000000000)) + 1000000000 ^ (i + (k + 1)) * ((O[i + k] + c + m) / 1000000000) = Bn.val (a.take i) * Bn.val b + xi * 1000000000 ^ i * Bn.val (b.take (k + 1))) :=
            mul_step hO (by rw [em]) HYk.out HI.out.2.2
          obtain ⟨oo, hoo⟩ : ∃ oo, oo = O[i + k] := ⟨_, rfl⟩
          rw [← hoo] at co hob2 HST
          clear em hoo
          have hikI : (i : Int) + (k : Int) < (a.length : Int) + (b.length : Int) + 1 := by omega
          go_wp2
          go_region
          go_wp2
          refine ⟨⟨k + 1, (oo + c + m) / 1000000000, O.set (i + k) ((oo + c + m) % 1000000000), rfl, by omega, by rw [show (((oo : Int) + (c : Int) + (m : Int)) / 1000000000) = (((oo + c + m) / 1000000000 : Nat) : Int) from by omega], by omega, ⟨by rw [List.length_set]; exact HI.out.1, fun d hd => ?_, HST.out⟩, hrow.set hO (by omega), (hbel.setCell (p := ⟨ob, i + k, none⟩) (Nat.le_refl _) _).drew⟩, by simp [intOf]; omega⟩
          rcases List.mem_or_eq_of_mem_set hd with h | h
          · exact HI.out.2.1 d h
          · omega
        · have hkbI : ¬ (k : Int) < (b.length : Int) := by omega
          by_cases hc0 : c = 0
          · subst hc0
            go_wp2
            refine ⟨⟨i + 1, O, rfl, by omega, ⟨HI.out.1, HI.out.2.1, ?_⟩, hrow, hbel⟩, by simp [intOf]; omega⟩
            have h := HI.out.2.2
            rw [Nat.mul_zero, Nat.add_zero, List.take_of_length_le (l := b) (by omega)] at h
            rw [h, val_take_succ a i hia, Nat.add_mul, HXI.out, Nat.mul_comm a[i]]
          · have hcI : (0 : Int) < (c : Int) := by omega
            have hkle : k ≤ b.length := mul_room hda hdb hia HXI.out rfl (by omega) (by omega) HI.out.2.2
            have hO : i + k < O.length := by have := HI.out.1; omega
            obtain ⟨co, fo⟩ := hrow (i + k) hO
            have hob2 := HI.out.2.1 _ (List.getElem_mem hO)
            have HYk : Hid (Bn.val (b.take (k + 1)) = Bn.val (b.take k) + 1000000000 ^ k * 0) := by
              show _ = _
              rw [List.take_of_length_le (by omega), List.take_of_length_le (by omega), Nat.mul_zero, Nat.add_zero]
            have HST : Hid (Bn.val (O.set (i + k) ((O[i + k] + c + xi * 0) % 1000000000)) + 1000000000 ^ (i + (k + 1)) * ((O[i + k] + c + xi * 0) / 1000000000) = Bn.val (a.take i) * Bn.val b + xi * 1000000000 ^ i * Bn.val (b.take (k + 1))) :=
              mul_step hO rfl HYk.out HI.out.2.2
            rw [Nat.mul_zero, Nat.add_zero] at HST
            obtain ⟨oo, hoo⟩ : ∃ oo, oo = O[i + k] := ⟨_, rfl⟩
            rw [← hoo] at co hob2 HST
            clear hoo
            have hikI : (i : Int) + (k : Int) < (a.length : Int) + (b.length : Int) + 1 := by omega
            go_wp2
            refine ⟨⟨k + 1, (oo + c) / 1000000000, O.set (i + k) ((oo + c) % 1000000000), rfl, by omega, by rw [show (((oo : Int) + (c : Int)) / 1000000000) = (((oo + c) / 1000000000 : Nat) : Int) from by omega], by omega, ⟨by rw [List.length_set]; exact HI.out.1, fun d hd => ?_, HST.out⟩, hrow.set hO (by omega), hbel.setCell (p := ⟨ob, i + k, none⟩) (Nat.le_refl _) _⟩, by simp [intOf]; omega⟩
            rcases List.mem_or_eq_of_mem_set hd with h | h
            · exact HI.out.2.1 d h
            · omega
    · have hiaI : ¬ (i : Int) < (a.length : Int) := by omega
      have hwr : Below w.heap.size w wr := HwV.out.trans (hbel.mono (by omega))
      have hRw := (hbel.block (w.heap.size + 1 + 1) (by omega)).trans hRV
      have hsw : ob < wr.heap.size := Nat.lt_of_lt_of_le hobV hbel.size
      have HMd : Hid (∀ w', w'.heap = wr.heap → Calls Tryd.prog 38 #[.bool (!(d1 == d2)), .slice (some ⟨ob, 0, none⟩) (a.length + b.length + 1) (a.length + b.length + 1)] w' fun e w'' => ∃ r, e = .returned r ∧ RefAt w'' r (x * y) ∧ Below w'.heap.size w' w'') := by
        intro w' hh
        have hI : IntsAt w' (.slice (some ⟨ob, 0, none⟩) O.length O.length) O := .inr ⟨ob, O.length, rfl, by rw [hh]; exact hsw, Nat.le_refl _, by unfold maxLen; have := HI.out.1; omega, fun j hj => (World.cell?_of_block (a := ⟨ob, j, none⟩) (by rw [hh])).trans (hrow j hj).1⟩
        rw [HI.out.1] at hI
        have := refMade_any (!(d1 == d2)) O _ w' hI HI.out.2.1
        rw [HI.out.2.2, List.take_of_length_le (by omega), Ea.out, Eb.out, HE.out] at this
        exact this
      go_wp2_with fail
      refine (HMd.out wr rfl).mono ?_
      rintro e w1 ⟨r, rfl, hr, hb1⟩
      obtain ⟨p4, c4, hr4⟩ := hr.form
      subst hr4
      have hR1 := (hb1.block (w.heap.size + 1 + 1) (by omega)).trans hRw
      obtain ⟨r0, r1, r2, r3⟩ := rbox_facts hR1
      generalize decide (x * y < 0) = dn at *
      generalize (limbs (x * y).natAbs).length = ln at *
      obtain ⟨m0, m1⟩ := rbox_set hR1 (.bool dn) (.slice p4 ln c4)
      have hfin : Below w.heap.size w w1 := hwr.trans (hb1.mono hwr.size)
      go_wp2
      exact bodyPost_ret (v := .agg #[.bool dn, .slice p4 ln c4]) (by simp [results, Tryd.results28, go_sem, m0, m1]) rfl ⟨_, rfl, hr.setBox hR1 _ _, (hfin.setCell (p := ⟨w.heap.size + 1 + 1, 0, none⟩) (by show w.heap.size ≤ w.heap.size + 1 + 1; omega) _).setCell (p := ⟨w.heap.size + 1 + 1, 1, none⟩) (by show w.heap.size ≤ w.heap.size + 1 + 1; omega) _⟩
end Go.Proofs.YtangepgiamhenaaDoor

namespace Go.Proofs.YtangepgiamhenaaDoor
open Go.RowKit
open Bn (limbs)

set_option maxRecDepth 100000 in
set_option maxHeartbeats 10000000 in
/-- Add. -/
theorem refAdd_any (x y : Int) (va vb : Value) (w : World) (ha : RefAt w va x) (hb : RefAt w vb y) (hx : (limbs x.natAbs).length ≤ 1000000) (hy : (limbs y.natAbs).length ≤ 1000000) :
    Calls Tryd.prog 24 #[va, vb] w fun e w' => ∃ r, e = .returned r ∧ RefAt w' r (x + y) ∧ Below w.heap.size w w' := by
  have HA : Hid (RefAt w va x) := ha
  have HB : Hid (RefAt w vb y) := hb
  obtain ⟨p1, c1, rfl⟩ := ha.form
  obtain ⟨p2, c2, rfl⟩ := hb.form
  have HIa : Hid (∀ w', Below w.heap.size w w' → IntsAt w' (.slice p1 (limbs x.natAbs).length c1) (limbs x.natAbs)) := fun w' hb => (RefAt.ints (HA.out.below hb)).2
  have HIb : Hid (∀ w', Below w.heap.size w w' → IntsAt w' (.slice p2 (limbs y.natAbs).length c2) (limbs y.natAbs)) := fun w' hb => (RefAt.ints (HB.out.below hb)).2
  obtain ⟨d1, hd1⟩ : ∃ d1, d1 = decide (x < 0) := ⟨_, rfl⟩
  obtain ⟨d2, hd2⟩ : ∃ d2, d2 = decide (y < 0) := ⟨_, rfl⟩
  have E1 : Hid (d1 = decide (x < 0)) := hd1
  have E2 : Hid (d2 = decide (y < 0)) := hd2
  rw [← hd1, ← hd2]
  clear ha hb HA HB hd1 hd2
  have HC : Hid (∀ w', Below w.heap.size w w' → Calls Tryd.prog 54 #[.slice p1 (limbs x.natAbs).length c1, .slice p2 (limbs y.natAbs).length c2] w' fun e w'' => e = .returned (.int .i64 (cmpI (x.natAbs : Int) (y.natAbs : Int))) ∧ Below w'.heap.size w' w'') := fun w' h => sizes_any x.natAbs y.natAbs _ _ w' (HIa.out w' h) (HIb.out w' h)
  have HM : Hid (∀ w', Below w.heap.size w w' → Calls Tryd.prog 53 #[.slice p1 (limbs x.natAbs).length c1, .slice p2 (limbs y.natAbs).length c2] w' fun e w'' => ∃ v, e = .returned v ∧ SizeAt w'' v (x.natAbs + y.natAbs) ∧ Below w'.heap.size w' w'') := fun w' h => by
    have := more_any (limbs x.natAbs) (limbs y.natAbs) _ _ w' (HIa.out w' h) (HIb.out w' h) (fun d h => Bn.limbs_lt' h) (fun d h => Bn.limbs_lt' h) (by omega) (by omega)
    rw [Bn.val_limbs', Bn.val_limbs'] at this; exact this
  cases d1 with
  | false =>
    cases d2 with
    | false =>
      have HE : Hid (sg false (x.natAbs + y.natAbs) = x + y) := by
        have h1 := E1.out.symm
        have h2 := E2.out.symm
        have := sum_same (x := x) (y := y) (h1.trans h2.symm)
        rw [h1] at this; exact this
      go_enter Tryd.func24, Tryd.ntmps24
      go_wp2_with fail
      generalize hW : ((w.alloc (.cells #[.bool false, .slice p1 (limbs x.natAbs).length c1] 30)).alloc (.cells #[.bool false, .slice p2 (limbs y.natAbs).length c2] 30)).alloc (.cells #[.bool false, .slice none 0 0] 30) = W
      obtain ⟨hA, hB, hR, hBW, hsz⟩ := three_objs w _ _ _ hW
      clear hW
      have hAV := hA
      have hBV := hB
      have hRV := hR
      have hVb := hBW
      obtain ⟨a0, a1, _, _⟩ := rbox_facts hAV
      obtain ⟨b0, b1, _, _⟩ := rbox_facts hBV
      go_region_with (first
        | (go_at_call 53; refine calls_at (HM.out _ ?_) (by with_reducible rfl) (by with_reducible rfl) ?_; exact hVb.drew; rintro e w1 ⟨v, rfl, hv, hb1⟩; obtain ⟨p3, n3, c3, hv3⟩ := hv.form; subst hv3; obtain ⟨f0, f1, _, _⟩ := rbox_facts ((hb1.block w.heap.size (by show w.heap.size < W.heap.size; omega)).trans hAV); obtain ⟨g0, g1, _, _⟩ := rbox_facts ((hb1.block (w.heap.size + 1) (by show w.heap.size + 1 < W.heap.size; omega)).trans hBV))
        | (go_at_call 38; refine calls_at (made_size false _ (x + y) _ w1 hv HE.out) (by with_reducible rfl) (by with_reducible rfl) ?_; rintro e w2 ⟨r, rfl, hr, hb2⟩; obtain ⟨p4, c4, hr4⟩ := hr.form; subst hr4; have hR1 := (hb1.block (w.heap.size + 1 + 1) (by show w.heap.size + 1 + 1 < W.heap.size; omega)).trans hRV; have hs1 : W.heap.size ≤ w1.heap.size := hb1.size; have hR2 := (hb2.block (w.heap.size + 1 + 1) (by omega)).trans hR1; obtain ⟨r0, r1, r2, r3⟩ := rbox_facts hR2; have hfin : Below w.heap.size w w2 := (hVb.drew.trans (hb1.mono hVb.size)).trans (hb2.mono (Nat.le_trans hVb.size hs1))))
      all_goals
        generalize decide (x + y < 0) = dn at *
        generalize (limbs (x + y).natAbs).length = ln at *
        obtain ⟨m0, m1⟩ := rbox_set hR2 (.bool dn) (.slice p4 ln c4)
        go_wp2
        exact bodyPost_ret (v := .agg #[.bool dn, .slice p4 ln c4]) (by simp [results, Tryd.results24, go_sem, m0, m1]) rfl ⟨_, rfl, hr.setBox hR2 _ _, (hfin.setCell (p := ⟨w.heap.size + 1 + 1, 0, none⟩) (by show w.heap.size ≤ w.heap.size + 1 + 1; omega) _).setCell (p := ⟨w.heap.size + 1 + 1, 1, none⟩) (by show w.heap.size ≤ w.heap.size + 1 + 1; omega) _⟩
    | true =>
      have hne : decide (x < 0) ≠ decide (y < 0) := by rw [← E1.out, ← E2.out]; decide
      by_cases hle : y.natAbs ≤ x.natAbs
      · have HE : Hid (sg false (x.natAbs - y.natAbs) = x + y) := by
          have := sum_ge hne hle
          rw [← E1.out] at this; exact this
        have hcc : 0 ≤ cmpI (x.natAbs : Int) (y.natAbs : Int) := by
          rcases Nat.lt_or_ge y.natAbs x.natAbs with h | h
          · rw [cmpI_gt (by omega)]; decide
          · rw [cmpI_eq (by omega) (by omega)]; decide
        generalize cmpI (x.natAbs : Int) (y.natAbs : Int) = cc at *
        have HL : Hid (∀ w', Below w.heap.size w w' → Calls Tryd.prog 55 #[.slice p1 (limbs x.natAbs).length c1, .slice p2 (limbs y.natAbs).length c2] w' fun e w'' => ∃ v, e = .returned v ∧ SizeAt w'' v (x.natAbs - y.natAbs) ∧ Below w'.heap.size w' w'') := fun w' h => by
          have := less_any (limbs x.natAbs) (limbs y.natAbs) _ _ w' (HIa.out w' h) (HIb.out w' h) (fun d h => Bn.limbs_lt' h) (fun d h => Bn.limbs_lt' h) (by omega) (limbs_len_mono hle) (by rw [Bn.val_limbs', Bn.val_limbs']; exact hle)
          rw [Bn.val_limbs', Bn.val_limbs'] at this; exact this
        go_enter Tryd.func24, Tryd.ntmps24
        go_wp2_with fail
        generalize hW : ((w.alloc (.cells #[.bool false, .slice p1 (limbs x.natAbs).length c1] 30)).alloc (.cells #[.bool true, .slice p2 (limbs y.natAbs).length c2] 30)).alloc (.cells #[.bool false, .slice none 0 0] 30) = W
        obtain ⟨hA, hB, hR, hBW, hsz⟩ := three_objs w _ _ _ hW
        clear hW
        refine (HC.out W hBW).mono ?_
        rintro e V ⟨rfl, hbV⟩
        have hVb : Below w.heap.size w V := hBW.trans (hbV.mono hBW.size)
        have hsV := hbV.size
        have hAV := (hbV.block w.heap.size (by omega)).trans hA
        have hBV := (hbV.block (w.heap.size + 1) (by omega)).trans hB
        have hRV := (hbV.block (w.heap.size + 1 + 1) (by omega)).trans hR
        go_wp2_with fail
        obtain ⟨a0, a1, _, _⟩ := rbox_facts hAV
        obtain ⟨b0, b1, _, _⟩ := rbox_facts hBV
        go_region_with (first
          | (go_at_call 55; refine calls_at (HL.out _ ?_) (by with_reducible rfl) (by with_reducible rfl) ?_; exact hVb.drew; rintro e w1 ⟨v, rfl, hv, hb1⟩; obtain ⟨p3, n3, c3, hv3⟩ := hv.form; subst hv3; obtain ⟨f0, f1, _, _⟩ := rbox_facts ((hb1.block w.heap.size (by show w.heap.size < V.heap.size; omega)).trans hAV); obtain ⟨g0, g1, _, _⟩ := rbox_facts ((hb1.block (w.heap.size + 1) (by show w.heap.size + 1 < V.heap.size; omega)).trans hBV))
          | (go_at_call 38; refine calls_at (made_size false _ (x + y) _ w1 hv HE.out) (by with_reducible rfl) (by with_reducible rfl) ?_; rintro e w2 ⟨r, rfl, hr, hb2⟩; obtain ⟨p4, c4, hr4⟩ := hr.form; subst hr4; have hR1 := (hb1.block (w.heap.size + 1 + 1) (by show w.heap.size + 1 + 1 < V.heap.size; omega)).trans hRV; have hs1 : V.heap.size ≤ w1.heap.size := hb1.size; have hR2 := (hb2.block (w.heap.size + 1 + 1) (by omega)).trans hR1; obtain ⟨r0, r1, r2, r3⟩ := rbox_facts hR2; have hfin : Below w.heap.size w w2 := (hVb.drew.trans (hb1.mono hVb.size)).trans (hb2.mono (Nat.le_trans hVb.size hs1))))
        all_goals
          generalize decide (x + y < 0) = dn at *
          generalize (limbs (x + y).natAbs).length = ln at *
          obtain ⟨m0, m1⟩ := rbox_set hR2 (.bool dn) (.slice p4 ln c4)
          go_wp2
          exact bodyPost_ret (v := .agg #[.bool dn, .slice p4 ln c4]) (by simp [results, Tryd.results24, go_sem, m0, m1]) rfl ⟨_, rfl, hr.setBox hR2 _ _, (hfin.setCell (p := ⟨w.heap.size + 1 + 1, 0, none⟩) (by show w.heap.size ≤ w.heap.size + 1 + 1; omega) _).setCell (p := ⟨w.heap.size + 1 + 1, 1, none⟩) (by show w.heap.size ≤ w.heap.size + 1 + 1; omega) _⟩
      · have HE : Hid (sg true (y.natAbs - x.natAbs) = x + y) := by
          have := sum_lt hne (show x.natAbs < y.natAbs by omega)
          rw [← E2.out] at this; exact this
        have hcc : cmpI (x.natAbs : Int) (y.natAbs : Int) = -1 := cmpI_lt (by omega)
        have HL : Hid (∀ w', Below w.heap.size w w' → Calls Tryd.prog 55 #[.slice p2 (limbs y.natAbs).length c2, .slice p1 (limbs x.natAbs).length c1] w' fun e w'' => ∃ v, e = .returned v ∧ SizeAt w'' v (y.natAbs - x.natAbs) ∧ Below w'.heap.size w' w'') := fun w' h => by
          have := less_any (limbs y.natAbs) (limbs x.natAbs) _ _ w' (HIb.out w' h) (HIa.out w' h) (fun d h => Bn.limbs_lt' h) (fun d h => Bn.limbs_lt' h) (by omega) (limbs_len_mono (by omega)) (by rw [Bn.val_limbs', Bn.val_limbs']; omega)
          rw [Bn.val_limbs', Bn.val_limbs'] at this; exact this
        rw [hcc] at HC
        clear hcc
        go_enter Tryd.func24, Tryd.ntmps24
        go_wp2_with fail
        generalize hW : ((w.alloc (.cells #[.bool false, .slice p1 (limbs x.natAbs).length c1] 30)).alloc (.cells #[.bool true, .slice p2 (limbs y.natAbs).length c2] 30)).alloc (.cells #[.bool false, .slice none 0 0] 30) = W
        obtain ⟨hA, hB, hR, hBW, hsz⟩ := three_objs w _ _ _ hW
        clear hW
        refine (HC.out W hBW).mono ?_
        rintro e V ⟨rfl, hbV⟩
        have hVb : Below w.heap.size w V := hBW.trans (hbV.mono hBW.size)
        have hsV := hbV.size
        have hAV := (hbV.block w.heap.size (by omega)).trans hA
        have hBV := (hbV.block (w.heap.size + 1) (by omega)).trans hB
        have hRV := (hbV.block (w.heap.size + 1 + 1) (by omega)).trans hR
        go_wp2_with fail
        obtain ⟨a0, a1, _, _⟩ := rbox_facts hAV
        obtain ⟨b0, b1, _, _⟩ := rbox_facts hBV
        go_region_with (first
          | (go_at_call 55; refine calls_at (HL.out _ ?_) (by with_reducible rfl) (by with_reducible rfl) ?_; exact hVb.drew; rintro e w1 ⟨v, rfl, hv, hb1⟩; obtain ⟨p3, n3, c3, hv3⟩ := hv.form; subst hv3; obtain ⟨f0, f1, _, _⟩ := rbox_facts ((hb1.block w.heap.size (by show w.heap.size < V.heap.size; omega)).trans hAV); obtain ⟨g0, g1, _, _⟩ := rbox_facts ((hb1.block (w.heap.size + 1) (by show w.heap.size + 1 < V.heap.size; omega)).trans hBV))
          | (go_at_call 38; refine calls_at (made_size true _ (x + y) _ w1 hv HE.out) (by with_reducible rfl) (by with_reducible rfl) ?_; rintro e w2 ⟨r, rfl, hr, hb2⟩; obtain ⟨p4, c4, hr4⟩ := hr.form; subst hr4; have hR1 := (hb1.block (w.heap.size + 1 + 1) (by show w.heap.size + 1 + 1 < V.heap.size; omega)).trans hRV; have hs1 : V.heap.size ≤ w1.heap.size := hb1.size; have hR2 := (hb2.block (w.heap.size + 1 + 1) (by omega)).trans hR1; obtain ⟨r0, r1, r2, r3⟩ := rbox_facts hR2; have hfin : Below w.heap.size w w2 := (hVb.drew.trans (hb1.mono hVb.size)).trans (hb2.mono (Nat.le_trans hVb.size hs1))))
        all_goals
          generalize decide (x + y < 0) = dn at *
          generalize (limbs (x + y).natAbs).length = ln at *
          obtain ⟨m0, m1⟩ := rbox_set hR2 (.bool dn) (.slice p4 ln c4)
          go_wp2
          exact bodyPost_ret (v := .agg #[.bool dn, .slice p4 ln c4]) (by simp [results, Tryd.results24, go_sem, m0, m1]) rfl ⟨_, rfl, hr.setBox hR2 _ _, (hfin.setCell (p := ⟨w.heap.size + 1 + 1, 0, none⟩) (by show w.heap.size ≤ w.heap.size + 1 + 1; omega) _).setCell (p := ⟨w.heap.size + 1 + 1, 1, none⟩) (by show w.heap.size ≤ w.heap.size + 1 + 1; omega) _⟩
  | true =>
    cases d2 with
    | false =>
      have hne : decide (x < 0) ≠ decide (y < 0) := by rw [← E1.out, ← E2.out]; decide
      by_cases hle : y.natAbs ≤ x.natAbs
      · have HE : Hid (sg true (x.natAbs - y.natAbs) = x + y) := by
          have := sum_ge hne hle
          rw [← E1.out] at this; exact this
        have hcc : 0 ≤ cmpI (x.natAbs : Int) (y.natAbs : Int) := by
          rcases Nat.lt_or_ge y.natAbs x.natAbs with h | h
          · rw [cmpI_gt (by omega)]; decide
          · rw [cmpI_eq (by omega) (by omega)]; decide
        generalize cmpI (x.natAbs : Int) (y.natAbs : Int) = cc at *
        have HL : Hid (∀ w', Below w.heap.size w w' → Calls Tryd.prog 55 #[.slice p1 (limbs x.natAbs).length c1, .slice p2 (limbs y.natAbs).length c2] w' fun e w'' => ∃ v, e = .returned v ∧ SizeAt w'' v (x.natAbs - y.natAbs) ∧ Below w'.heap.size w' w'') := fun w' h => by
          have := less_any (limbs x.natAbs) (limbs y.natAbs) _ _ w' (HIa.out w' h) (HIb.out w' h) (fun d h => Bn.limbs_lt' h) (fun d h => Bn.limbs_lt' h) (by omega) (limbs_len_mono hle) (by rw [Bn.val_limbs', Bn.val_limbs']; exact hle)
          rw [Bn.val_limbs', Bn.val_limbs'] at this; exact this
        go_enter Tryd.func24, Tryd.ntmps24
        go_wp2_with fail
        generalize hW : ((w.alloc (.cells #[.bool true, .slice p1 (limbs x.natAbs).length c1] 30)).alloc (.cells #[.bool false, .slice p2 (limbs y.natAbs).length c2] 30)).alloc (.cells #[.bool false, .slice none 0 0] 30) = W
        obtain ⟨hA, hB, hR, hBW, hsz⟩ := three_objs w _ _ _ hW
        clear hW
        refine (HC.out W hBW).mono ?_
        rintro e V ⟨rfl, hbV⟩
        have hVb : Below w.heap.size w V := hBW.trans (hbV.mono hBW.size)
        have hsV := hbV.size
        have hAV := (hbV.block w.heap.size (by omega)).trans hA
        have hBV := (hbV.block (w.heap.size + 1) (by omega)).trans hB
        have hRV := (hbV.block (w.heap.size + 1 + 1) (by omega)).trans hR
        go_wp2_with fail
        obtain ⟨a0, a1, _, _⟩ := rbox_facts hAV
        obtain ⟨b0, b1, _, _⟩ := rbox_facts hBV
        go_region_with (first
          | (go_at_call 55; refine calls_at (HL.out _ ?_) (by with_reducible rfl) (by with_reducible rfl) ?_; exact hVb.drew; rintro e w1 ⟨v, rfl, hv, hb1⟩; obtain ⟨p3, n3, c3, hv3⟩ := hv.form; subst hv3; obtain ⟨f0, f1, _, _⟩ := rbox_facts ((hb1.block w.heap.size (by show w.heap.size < V.heap.size; omega)).trans hAV); obtain ⟨g0, g1, _, _⟩ := rbox_facts ((hb1.block (w.heap.size + 1) (by show w.heap.size + 1 < V.heap.size; omega)).trans hBV))
          | (go_at_call 38; refine calls_at (made_size true _ (x + y) _ w1 hv HE.out) (by with_reducible rfl) (by with_reducible rfl) ?_; rintro e w2 ⟨r, rfl, hr, hb2⟩; obtain ⟨p4, c4, hr4⟩ := hr.form; subst hr4; have hR1 := (hb1.block (w.heap.size + 1 + 1) (by show w.heap.size + 1 + 1 < V.heap.size; omega)).trans hRV; have hs1 : V.heap.size ≤ w1.heap.size := hb1.size; have hR2 := (hb2.block (w.heap.size + 1 + 1) (by omega)).trans hR1; obtain ⟨r0, r1, r2, r3⟩ := rbox_facts hR2; have hfin : Below w.heap.size w w2 := (hVb.drew.trans (hb1.mono hVb.size)).trans (hb2.mono (Nat.le_trans hVb.size hs1))))
        all_goals
          generalize decide (x + y < 0) = dn at *
          generalize (limbs (x + y).natAbs).length = ln at *
          obtain ⟨m0, m1⟩ := rbox_set hR2 (.bool dn) (.slice p4 ln c4)
          go_wp2
          exact bodyPost_ret (v := .agg #[.bool dn, .slice p4 ln c4]) (by simp [results, Tryd.results24, go_sem, m0, m1]) rfl ⟨_, rfl, hr.setBox hR2 _ _, (hfin.setCell (p := ⟨w.heap.size + 1 + 1, 0, none⟩) (by show w.heap.size ≤ w.heap.size + 1 + 1; omega) _).setCell (p := ⟨w.heap.size + 1 + 1, 1, none⟩) (by show w.heap.size ≤ w.heap.size + 1 + 1; omega) _⟩
      · have HE : Hid (sg false (y.natAbs - x.natAbs) = x + y) := by
          have := sum_lt hne (show x.natAbs < y.natAbs by omega)
          rw [← E2.out] at this; exact this
        have hcc : cmpI (x.natAbs : Int) (y.natAbs : Int) = -1 := cmpI_lt (by omega)
        have HL : Hid (∀ w', Below w.heap.size w w' → Calls Tryd.prog 55 #[.slice p2 (limbs y.natAbs).length c2, .slice p1 (limbs x.natAbs).length c1] w' fun e w'' => ∃ v, e = .returned v ∧ SizeAt w'' v (y.natAbs - x.natAbs) ∧ Below w'.heap.size w' w'') := fun w' h => by
          have := less_any (limbs y.natAbs) (limbs x.natAbs) _ _ w' (HIb.out w' h) (HIa.out w' h) (fun d h => Bn.limbs_lt' h) (fun d h => Bn.limbs_lt' h) (by omega) (limbs_len_mono (by omega)) (by rw [Bn.val_limbs', Bn.val_limbs']; omega)
          rw [Bn.val_limbs', Bn.val_limbs'] at this; exact this
        rw [hcc] at HC
        clear hcc
        go_enter Tryd.func24, Tryd.ntmps24
        go_wp2_with fail
        generalize hW : ((w.alloc (.cells #[.bool true, .slice p1 (limbs x.natAbs).length c1] 30)).alloc (.cells #[.bool false, .slice p2 (limbs y.natAbs).length c2] 30)).alloc (.cells #[.bool false, .slice none 0 0] 30) = W
        obtain ⟨hA, hB, hR, hBW, hsz⟩ := three_objs w _ _ _ hW
        clear hW
        refine (HC.out W hBW).mono ?_
        rintro e V ⟨rfl, hbV⟩
        have hVb : Below w.heap.size w V := hBW.trans (hbV.mono hBW.size)
        have hsV := hbV.size
        have hAV := (hbV.block w.heap.size (by omega)).trans hA
        have hBV := (hbV.block (w.heap.size + 1) (by omega)).trans hB
        have hRV := (hbV.block (w.heap.size + 1 + 1) (by omega)).trans hR
        go_wp2_with fail
        obtain ⟨a0, a1, _, _⟩ := rbox_facts hAV
        obtain ⟨b0, b1, _, _⟩ := rbox_facts hBV
        go_region_with (first
          | (go_at_call 55; refine calls_at (HL.out _ ?_) (by with_reducible rfl) (by with_reducible rfl) ?_; exact hVb.drew; rintro e w1 ⟨v, rfl, hv, hb1⟩; obtain ⟨p3, n3, c3, hv3⟩ := hv.form; subst hv3; obtain ⟨f0, f1, _, _⟩ := rbox_facts ((hb1.block w.heap.size (by show w.heap.size < V.heap.size; omega)).trans hAV); obtain ⟨g0, g1, _, _⟩ := rbox_facts ((hb1.block (w.heap.size + 1) (by show w.heap.size + 1 < V.heap.size; omega)).trans hBV))
          | (go_at_call 38; refine calls_at (made_size false _ (x + y) _ w1 hv HE.out) (by with_reducible rfl) (by with_reducible rfl) ?_; rintro e w2 ⟨r, rfl, hr, hb2⟩; obtain ⟨p4, c4, hr4⟩ := hr.form; subst hr4; have hR1 := (hb1.block (w.heap.size + 1 + 1) (by show w.heap.size + 1 + 1 < V.heap.size; omega)).trans hRV; have hs1 : V.heap.size ≤ w1.heap.size := hb1.size; have hR2 := (hb2.block (w.heap.size + 1 + 1) (by omega)).trans hR1; obtain ⟨r0, r1, r2, r3⟩ := rbox_facts hR2; have hfin : Below w.heap.size w w2 := (hVb.drew.trans (hb1.mono hVb.size)).trans (hb2.mono (Nat.le_trans hVb.size hs1))))
        all_goals
          generalize decide (x + y < 0) = dn at *
          generalize (limbs (x + y).natAbs).length = ln at *
          obtain ⟨m0, m1⟩ := rbox_set hR2 (.bool dn) (.slice p4 ln c4)
          go_wp2
          exact bodyPost_ret (v := .agg #[.bool dn, .slice p4 ln c4]) (by simp [results, Tryd.results24, go_sem, m0, m1]) rfl ⟨_, rfl, hr.setBox hR2 _ _, (hfin.setCell (p := ⟨w.heap.size + 1 + 1, 0, none⟩) (by show w.heap.size ≤ w.heap.size + 1 + 1; omega) _).setCell (p := ⟨w.heap.size + 1 + 1, 1, none⟩) (by show w.heap.size ≤ w.heap.size + 1 + 1; omega) _⟩
    | true =>
      have HE : Hid (sg true (x.natAbs + y.natAbs) = x + y) := by
        have h1 := E1.out.symm
        have h2 := E2.out.symm
        have := sum_same (x := x) (y := y) (h1.trans h2.symm)
        rw [h1] at this; exact this
      go_enter Tryd.func24, Tryd.ntmps24
      go_wp2_with fail
      generalize hW : ((w.alloc (.cells #[.bool true, .slice p1 (limbs x.natAbs).length c1] 30)).alloc (.cells #[.bool true, .slice p2 (limbs y.natAbs).length c2] 30)).alloc (.cells #[.bool false, .slice none 0 0] 30) = W
      obtain ⟨hA, hB, hR, hBW, hsz⟩ := three_objs w _ _ _ hW
      clear hW
      have hAV := hA
      have hBV := hB
      have hRV := hR
      have hVb := hBW
      obtain ⟨a0, a1, _, _⟩ := rbox_facts hAV
      obtain ⟨b0, b1, _, _⟩ := rbox_facts hBV
      go_region_with (first
        | (go_at_call 53; refine calls_at (HM.out _ ?_) (by with_reducible rfl) (by with_reducible rfl) ?_; exact hVb.drew; rintro e w1 ⟨v, rfl, hv, hb1⟩; obtain ⟨p3, n3, c3, hv3⟩ := hv.form; subst hv3; obtain ⟨f0, f1, _, _⟩ := rbox_facts ((hb1.block w.heap.size (by show w.heap.size < W.heap.size; omega)).trans hAV); obtain ⟨g0, g1, _, _⟩ := rbox_facts ((hb1.block (w.heap.size + 1) (by show w.heap.size + 1 < W.heap.size; omega)).trans hBV))
        | (go_at_call 38; refine calls_at (made_size true _ (x + y) _ w1 hv HE.out) (by with_reducible rfl) (by with_reducible rfl) ?_; rintro e w2 ⟨r, rfl, hr, hb2⟩; obtain ⟨p4, c4, hr4⟩ := hr.form; subst hr4; have hR1 := (hb1.block (w.heap.size + 1 + 1) (by show w.heap.size + 1 + 1 < W.heap.size; omega)).trans hRV; have hs1 : W.heap.size ≤ w1.heap.size := hb1.size; have hR2 := (hb2.block (w.heap.size + 1 + 1) (by omega)).trans hR1; obtain ⟨r0, r1, r2, r3⟩ := rbox_facts hR2; have hfin : Below w.heap.size w w2 := (hVb.drew.trans (hb1.mono hVb.size)).trans (hb2.mono (Nat.le_trans hVb.size hs1))))
      all_goals
        generalize decide (x + y < 0) = dn at *
        generalize (limbs (x + y).natAbs).length = ln at *
        obtain ⟨m0, m1⟩ := rbox_set hR2 (.bool dn) (.slice p4 ln c4)
        go_wp2
        exact bodyPost_ret (v := .agg #[.bool dn, .slice p4 ln c4]) (by simp [results, Tryd.results24, go_sem, m0, m1]) rfl ⟨_, rfl, hr.setBox hR2 _ _, (hfin.setCell (p := ⟨w.heap.size + 1 + 1, 0, none⟩) (by show w.heap.size ≤ w.heap.size + 1 + 1; omega) _).setCell (p := ⟨w.heap.size + 1 + 1, 1, none⟩) (by show w.heap.size ≤ w.heap.size + 1 + 1; omega) _⟩

end Go.Proofs.YtangepgiamhenaaDoor

namespace Go.Proofs.YtangepgiamhenaaDoor
open Go.RowKit
open Bn (limbs)

theorem limbs_mono2 {a b n : Nat} (h : a ≤ b) (hb : (limbs b).length ≤ n) : (limbs a).length ≤ n := by
  rw [Bn.limbs_length_le] at *; omega
theorem RowI.below {w w' : World} {b : Nat} {l : List Nat} (h : RowI w b l) (hb : Below w.heap.size w w') (hlt : b < w.heap.size) : RowI w' b l := fun j hj =>
  ⟨(hb.cell (p := ⟨b, j, none⟩) hlt).trans (h j hj).1, (hb.frozen (p := ⟨b, j, none⟩) hlt).trans (h j hj).2⟩
theorem RefAt.shape {w : World} {r : Value} {z : Int} (h : RefAt w r z) : ∃ (b : Bool) (p : Option Addr) (n c : Nat), r = .agg #[.bool b, .slice p n c] := by
  obtain ⟨p, c, h⟩ := h.form
  exact ⟨_, p, _, c, h⟩
/-- A row of the call's own, and one that is read, put together. -/
theorem append_ints {P : Program} {ops : Array Oper} {rest : List Oper} {o : Oper} {a : Act} {Q : Exit → Act → World → Prop} (wr : World) (hgd : o.guard = none) (s x : Operand) (t : TypeId)
    (ho : o.op = .call { callee := .builtin .append, args := #[s, x], argTypes := #[t, t] }) (base : Nat) (i : TypeInfo)
    (ht : P.underlying t = some (.slice 3)) (hi : P.info? 3 = some i) (hz : i.zero = some (.int .i64 0)) (hsize : i.size = 1) (hby : i.bytes = 8)
    (v : Value) (L : List Nat) (hs : a.eval s = v) (hown : wr.ownsRow base 3 1 v L.length (cellsOf L)) (u : Value) (M : List Nat) (hx : a.eval x = u) (hu : IntsAt wr u M)
    (hn : L.length + M.length ≤ 1000000000) (hbase : base ≤ wr.heap.size)
    (h : ∀ v' w', w'.ownsRow base 3 1 v' (L ++ M).length (cellsOf (L ++ M)) → Below base wr w' → wpList P ops Q rest (a.put o.dst v') w') : wpList P ops Q (o :: rest) a wr := by
  rcases hu with ⟨rfl, rfl⟩ | ⟨b, cap, rfl, hlt, hl, hm, hc⟩
  · refine wpList_append_own_none hgd s x t ho base 3 i 1 ht hi v L.length (cellsOf L) hs hown hx ?_
    refine h v wr ?_ (Below.refl _ _)
    rw [List.append_nil]; exact hown
  · refine wpList_append_own _ hgd s x t ho base 3 i (.int .i64 0) 1 8 ht hi hz hsize hby rfl (by decide) v L.length (cellsOf L) hs hown ⟨b, 0, none⟩ M.length cap (cellsOf M) hx (by simp [cellsOf]) ?_ ?_ (by unfold maxLen; omega) (by omega) hbase ?_
    · intro j u hj
      simp only [cellsOf, List.getElem?_map, Option.map_eq_some_iff] at hj
      obtain ⟨d, hd, rfl⟩ := hj
      obtain ⟨hj, rfl⟩ := List.getElem?_eq_some_iff.1 hd
      rw [add_none, Nat.zero_add]; exact hc j hj
    · intro u hu; simp only [cellsOf, List.mem_map] at hu; obtain ⟨d, _, rfl⟩ := hu; rfl
    · intro v' w' h1 h2 _
      refine h v' w' ?_ ((Below.refl base wr).grown h2 hbase (fun g hg => (hown.lt g hg).1))
      rw [List.length_append, show cellsOf (L ++ M) = cellsOf L ++ cellsOf M from by simp [cellsOf]]; exact h1

set_option maxRecDepth 100000 in
set_option maxHeartbeats 600000 in
/-- DivUp, by a number below 1. -/
theorem refDivUp_none (x y : Int) (va vb : Value) (w : World) (ha : RefAt w va x) (hb : RefAt w vb y) (hy : y < 1) :
    Calls Tryd.prog 30 #[va, vb] w fun e w' => ∃ r, e = .returned (.tuple #[r, .bool false]) ∧ RefAt w' r 0 ∧ Below w.heap.size w w' := by
  have HB : Hid (RefAt w vb y) := hb
  obtain ⟨p1, c1, rfl⟩ := ha.form
  obtain ⟨p2, c2, rfl⟩ := hb.form
  have hs : y.sign < 1 := by
    rcases Int.lt_trichotomy y 0 with h | h | h
    · rw [Int.sign_eq_neg_one_of_neg h]; decide
    · rw [h]; decide
    · omega
  generalize decide (x < 0) = d1 at *
  generalize decide (y < 0) = d2 at *
  clear ha hb hy
  go_enter Tryd.func30, Tryd.ntmps30
  go_wp2_with fail
  generalize hW : ((w.alloc (.cells #[.bool d1, .slice p1 (limbs x.natAbs).length c1] 30)).alloc (.cells #[.bool d2, .slice p2 (limbs y.natAbs).length c2] 30)).alloc (.cells #[.bool false, .slice none 0 0] 30) = W
  obtain ⟨hA, hB, hR, hBW, hsz⟩ := three_objs w _ _ _ hW
  clear hW
  refine (refSign_any y _ _ (HB.out.below hBW)).mono ?_
  rintro e w1 ⟨rfl, hb1⟩
  generalize y.sign = sy at *
  have hR3 := (hb1.block (w.heap.size + 1 + 1) (by omega)).trans hR
  obtain ⟨r0, r1, r2, r3⟩ := rbox_facts hR3
  obtain ⟨m0, m1⟩ := rbox_set hR3 (.bool false) (.slice none 0 0)
  go_wp2
  exact bodyPost_ret (v := .tuple #[.agg #[.bool false, .slice none 0 0], .bool false]) (by simp [results, Tryd.results30, go_sem, m0, m1]) rfl ⟨_, rfl, ⟨_, rfl, .inl ⟨rfl, rfl⟩⟩, ((hBW.trans (hb1.mono hBW.size)).setCell (p := ⟨w.heap.size + 1 + 1, 0, none⟩) (by show w.heap.size ≤ w.heap.size + 1 + 1; omega) _).setCell (p := ⟨w.heap.size + 1 + 1, 1, none⟩) (by show w.heap.size ≤ w.heap.size + 1 + 1; omega) _⟩

set_option maxRecDepth 100000 in
set_option maxHeartbeats 4000000 in
/-- DivUp, by a number above 0 (refDivUp_loop). -/
theorem refDivUp_any (x y : Int) (va vb : Value) (w : World) (ha : RefAt w va x) (hb : RefAt w vb y) (hx : (limbs x.natAbs).length ≤ 1000000) (hyl : (limbs y.natAbs).length ≤ 1000000) (hy : 0 < y) :
    Calls Tryd.prog 30 #[va, vb] w fun e w' => ∃ r, e = .returned (.tuple #[r, .bool true]) ∧ RefAt w' r (divUpI x y) ∧ Below w.heap.size w w' := by
  obtain ⟨i0, hi, hz0, hz1, hz2⟩ := info_parts Tryd.info3
  have HA : Hid (RefAt w va x) := ha
  have HB : Hid (RefAt w vb y) := hb
  obtain ⟨p1, c1, rfl⟩ := ha.form
  obtain ⟨p2, c2, rfl⟩ := hb.form
  have HIa : Hid (∀ w', Below w.heap.size w w' → IntsAt w' (.slice p1 (limbs x.natAbs).length c1) (limbs x.natAbs)) := fun w' hb => (RefAt.ints (HA.out.below hb)).2
  have HIb : Hid (∀ w', Below w.heap.size w w' → IntsAt w' (.slice p2 (limbs y.natAbs).length c2) (limbs y.natAbs)) := fun w' hb => (RefAt.ints (HB.out.below hb)).2
  have hs : y.sign = 1 := Int.sign_eq_one_of_pos hy
  have hxl : Hid ((limbs x.natAbs).length ≤ 1000000) := hx
  obtain ⟨d1, hd1⟩ : ∃ d1, d1 = decide (x < 0) := ⟨_, rfl⟩
  have E1 : Hid (d1 = decide (x < 0)) := hd1
  rw [← hd1]
  generalize decide (y < 0) = d2 at *
  obtain ⟨Y, hY⟩ : ∃ Y, Y = y.natAbs := ⟨_, rfl⟩
  obtain ⟨a, ea⟩ : ∃ a, a = limbs x.natAbs := ⟨_, rfl⟩
  have Ea : Hid (Bn.val a = x.natAbs) := by show _ = _; rw [ea, Bn.val_limbs']
  have hda : ∀ d ∈ a, d < 1000000000 := fun d h => by rw [ea] at h; exact Bn.limbs_lt' h
  have hY0 : 0 < Y := by omega
  have EY : Hid (Y = y.natAbs) := hY
  rw [← hY] at HIb HB hyl ⊢
  rw [← ea] at HIa hx ⊢
  clear ea ha hb hd1 HA hY
  have hmk : ∀ w, (Instr.makeSlice 28 (.int .i64 (a.length : Int)) (.int .i64 (a.length : Int))).run Tryd.prog w = .ok (.slice (some ⟨w.heap.size, 0, none⟩) a.length a.length) (w.alloc (.cells (madeCells #[.int .i64 0] a.length) 3)) :=
    run_make_row (P := Tryd.prog) 28 3 i0 (.int .i64 0) Tryd.underlying28 hi hz0 hz1 rfl .i64 .i64 a.length (by rw [hz2]; omega) (by omega)
  go_enter Tryd.func30, Tryd.ntmps30
  go_wp2_with fail
  generalize hW : ((w.alloc (.cells #[.bool d1, .slice p1 a.length c1] 30)).alloc (.cells #[.bool d2, .slice p2 (limbs Y).length c2] 30)).alloc (.cells #[.bool false, .slice none 0 0] 30) = W
  obtain ⟨hA, hB, hR, hBW, hsz⟩ := three_objs w _ _ _ hW
  clear hW
  refine (refSign_any y _ _ (HB.out.below hBW)).mono ?_
  rintro e w1 ⟨rfl, hb1⟩
  rw [hs]
  have hA1 := (hb1.block w.heap.size (by omega)).trans hA
  have hB1 := (hb1.block (w.heap.size + 1) (by omega)).trans hB
  have hR1 := (hb1.block (w.heap.size + 1 + 1) (by omega)).trans hR
  have hw1 : Below w.heap.size w w1 := hBW.trans (hb1.mono hBW.size)
  have hs1 : w.heap.size + 3 ≤ w1.heap.size := by have := hb1.size; omega
  obtain ⟨k0, k1, _, _⟩ := rbox_facts hA1
  clear hA hB hR hBW hsz hb1 HB hs
  obtain ⟨V, hV⟩ : ∃ V, w1.alloc (.cells (madeCells #[.int .i64 0] a.length) 3) = V := ⟨_, rfl⟩
  have hVW : Below w1.heap.size w1 V := by rw [← hV]; exact (Below.refl _ _).alloc (Nat.le_refl _) _
  have hRow : RowI V w1.heap.size (List.replicate a.length 0) := by rw [← hV]; exact RowI.made w1 _
  have hVs : w1.heap.size < V.heap.size := by rw [← hV]; simp
  have hAV := (hVW.block w.heap.size (by omega)).trans hA1
  have hBV := (hVW.block (w.heap.size + 1) (by omega)).trans hB1
  have hRV := (hVW.block (w.heap.size + 1 + 1) (by omega)).trans hR1
  have HwV : Hid (Below w.heap.size w V) := hw1.trans (hVW.mono hw1.size)
  obtain ⟨a0, a1, _, _⟩ := rbox_facts hAV
  go_wp2_with fail
  clear hV hVW hA1 hB1 hR1 hw1 k0 k1 hmk
  obtain ⟨qb, hqb⟩ : ∃ qb, qb = w1.heap.size := ⟨_, rfl⟩
  rw [← hqb] at hRow hVs hs1
  rw [← hqb]
  clear hqb
  have HR0 : Hid (RowI V qb (List.replicate a.length 0)) := hRow
  clear hRow
  go_loopw [6, 8] (fun rv iv wr => ∃ (k R : Nat) (q : List Nat), iv = .int .i64 ((k : Int) - 1) ∧ k ≤ a.length ∧ IntsAt wr rv (limbs R) ∧ R < Y ∧ Hid (q.length + k = a.length ∧ (∀ d ∈ q, d < 1000000000) ∧ Bn.val (a.drop k) = Y * Bn.val q + R) ∧ RowI wr qb (List.replicate k 0 ++ q) ∧ Below qb V wr) (fun _ iv _ => (intOf iv + 1).toNat)
  case atStart => exact ⟨a.length, 0, [], rfl, Nat.le_refl _, .inl ⟨rfl, rfl⟩, hY0, ⟨by simp, by simp, by rw [List.drop_length]; simp [Bn.val]⟩, by rw [List.append_nil]; exact HR0.out, Below.refl _ _⟩
  case round =>
    obtain ⟨k, R, q, rfl, hk, hIr, hRY, HQ, hrow, hbel⟩ := hrel
    cases k with
    | zero =>
      have hwwr : Below w.heap.size w wr := HwV.out.trans (hbel.mono (by omega))
      have hqw : qb < wr.heap.size := Nat.lt_of_lt_of_le hVs hbel.size
      obtain ⟨p6, c6, hv6, _⟩ := hIr.form
      subst hv6
      have hvq := HQ.out.2.2
      rw [List.drop_zero, Ea.out] at hvq
      have Hq1 : Hid (Bn.val q = x.natAbs / y.natAbs) := by
        show _ = _
        rw [hvq, ← EY.out, Nat.mul_add_div hY0, Nat.div_eq_of_lt hRY, Nat.add_zero]
      have Hq2 : Hid (x.natAbs % y.natAbs = R) := by
        show _ = _
        rw [hvq, ← EY.out, Nat.mul_add_mod, Nat.mod_eq_of_lt hRY]
      have hql : q.length = a.length := by have := HQ.out.1; omega
      obtain ⟨S, hSe⟩ : ∃ S, S = sg d1 (Bn.val q) := ⟨_, rfl⟩
      have ES : Hid (S = sg d1 (Bn.val q)) := hSe
      clear hSe
      have HM : Hid (Calls Tryd.prog 38 #[.bool d1, .slice (some ⟨qb, 0, none⟩) a.length a.length] wr fun e w' => ∃ r, e = .returned r ∧ RefAt w' r S ∧ Below wr.heap.size wr w') := by
        have hI : IntsAt wr (.slice (some ⟨qb, 0, none⟩) q.length q.length) q := .inr ⟨qb, q.length, rfl, hqw, Nat.le_refl _, by unfold maxLen; omega, fun j hj => by have := hrow j (by simpa using hj); simpa using this.1⟩
        rw [hql] at hI
        rw [ES.out]; exact refMade_any d1 q _ wr hI HQ.out.2.1
      obtain ⟨a0, a1, _, _⟩ := rbox_facts ((hbel.block w.heap.size (by omega)).trans hAV)
      have hRw := (hbel.block (w.heap.size + 1 + 1) (by omega)).trans hRV
      have HRl : Hid (((limbs R).length = 0 ↔ R = 0)) := ⟨fun h => Bn.limbs_eq_nil.1 (List.eq_nil_of_length_eq_zero h), fun h => by rw [h]; rfl⟩
      clear hvq hql hrow hIr
      go_wp2_with fail
      refine HM.out.mono ?_
      rintro e w2 ⟨r, rfl, hr, hb2⟩
      obtain ⟨p4, c4, hr4⟩ := hr.form
      subst hr4
      generalize decide (S < 0) = dn at *
      generalize (limbs S.natAbs).length = ln at *
      have hw2 : Below w.heap.size w w2 := hwwr.trans (hb2.mono hwwr.size)
      obtain ⟨W3, hW3⟩ : ∃ W3, w2.alloc (.cells #[.bool dn, .slice p4 ln c4] 30) = W3 := ⟨_, rfl⟩
      have hB3 : Below w2.heap.size w2 W3 := by rw [← hW3]; exact (Below.refl _ _).alloc (Nat.le_refl _) _
      have bO : W3.heap[w2.heap.size]? = some (.cells #[.bool dn, .slice p4 ln c4] 30) := by rw [← hW3]; exact World.alloc_heap_new w2 _
      have hs3 : W3.heap.size = w2.heap.size + 1 := by rw [← hW3]; simp
      have hR2 := (hb2.block (w.heap.size + 1 + 1) (by have := hbel.size; omega)).trans hRw
      have hs2 := hb2.size
      have hbs := hbel.size
      have hR3 := (hB3.block (w.heap.size + 1 + 1) (by omega)).trans hR2
      have hA3 := (hB3.block w.heap.size (by omega)).trans ((hb2.block w.heap.size (by omega)).trans ((hbel.block w.heap.size (by omega)).trans hAV))
      obtain ⟨o0, o1, o2, o3⟩ := rbox_facts bO
      obtain ⟨r0, r1, r2, r3⟩ := rbox_facts hR3
      obtain ⟨f0, f1, _, _⟩ := rbox_facts hA3
      have hfin : Below w.heap.size w W3 := hw2.trans (hB3.mono hw2.size)
      clear a0 a1 HM
      cases d1 with
      | true =>
        have HE : Hid (S = divUpI x y) := by show _ = _; rw [ES.out, Hq1.out]; exact divUp_below hy (of_decide_eq_true E1.out.symm)
        have hr' : RefAt w2 (.agg #[.bool dn, .slice p4 ln c4]) (divUpI x y) := by rw [← HE.out]; exact hr
        obtain ⟨m0, m1⟩ := rbox_set hR3 (.bool dn) (.slice p4 ln c4)
        go_wp2_with fail
        exact bodyPost_ret (v := .tuple #[.agg #[.bool dn, .slice p4 ln c4], .bool true]) (by simp [results, Tryd.results30, go_sem, m0, m1]) rfl ⟨_, rfl, (hr'.below hB3).setBox hR3 _ _, (hfin.setCell (p := ⟨w.heap.size + 1 + 1, 0, none⟩) (by show w.heap.size ≤ w.heap.size + 1 + 1; omega) _).setCell (p := ⟨w.heap.size + 1 + 1, 1, none⟩) (by show w.heap.size ≤ w.heap.size + 1 + 1; omega) _⟩
      | false =>
        have hx0 : ¬ x < 0 := of_decide_eq_false E1.out.symm
        by_cases hR0 : R = 0
        · have hl0 : (limbs R).length = 0 := HRl.out.2 hR0
          have HE : Hid (S = divUpI x y) := by show _ = _; rw [ES.out, Hq1.out]; exact divUp_exact hy E1.out (decide_eq_true (by rw [Hq2.out]; exact hR0))
          have hr' : RefAt w2 (.agg #[.bool dn, .slice p4 ln c4]) (divUpI x y) := by rw [← HE.out]; exact hr
          obtain ⟨m0, m1⟩ := rbox_set hR3 (.bool dn) (.slice p4 ln c4)
          go_wp2_with fail
          exact bodyPost_ret (v := .tuple #[.agg #[.bool dn, .slice p4 ln c4], .bool true]) (by simp [results, Tryd.results30, go_sem, m0, m1]) rfl ⟨_, rfl, (hr'.below hB3).setBox hR3 _ _, (hfin.setCell (p := ⟨w.heap.size + 1 + 1, 0, none⟩) (by show w.heap.size ≤ w.heap.size + 1 + 1; omega) _).setCell (p := ⟨w.heap.size + 1 + 1, 1, none⟩) (by show w.heap.size ≤ w.heap.size + 1 + 1; omega) _⟩

        · have hl0 : (0 : Int) < ((limbs R).length : Int) := by
            rcases Nat.eq_zero_or_pos (limbs R).length with h | h
            · exact absurd (HRl.out.1 h) hR0
            · omega
          have HE : Hid (S + 1 = divUpI x y) := by show _ = _; rw [ES.out, Hq1.out]; exact divUp_above hy hx0 (by rw [Hq2.out]; exact hR0)
          have hr3 : RefAt W3 (.agg #[.bool dn, .slice p4 ln c4]) S := hr.below hB3
          have hSl : (limbs S.natAbs).length ≤ 1000000 := by
            rw [ES.out, sg_abs, Hq1.out]
            exact limbs_mono2 (Nat.div_le_self _ _) hxl.out
          have HAd : Hid (∀ w4 vo, Below W3.heap.size W3 w4 → RefAt w4 vo 1 → Calls Tryd.prog 24 #[.agg #[.bool dn, .slice p4 ln c4], vo] w4 fun e w' => ∃ r, e = .returned r ∧ RefAt w' r (divUpI x y) ∧ Below w4.heap.size w4 w') := fun w4 vo h hv => by
            have := refAdd_any S 1 _ _ w4 (hr3.below h) hv hSl one_len
            rw [HE.out] at this; exact this
          clear hr r0 r1 r2 r3 f1
          go_wp2_with fail
          clear hW3
          go_region_with (first
            | (go_at_call 15; refine calls_at (refOf_any 1 _ (by decide) (by decide)) (by with_reducible rfl) (by with_reducible rfl) ?_; rintro e w4 ⟨vo, rfl, hro, hb4⟩; obtain ⟨bo, po, no, co, hvo⟩ := hro.shape; subst hvo; obtain ⟨g0, g1, _, _⟩ := rbox_facts ((hb4.block w2.heap.size (by show w2.heap.size < W3.heap.size; omega)).trans bO); have hb34 : Below W3.heap.size W3 w4 := (Below.refl W3.heap.size W3).drew.trans hb4)
            | (go_at_call 24; refine calls_at (HAd.out w4 _ hb34 hro) (by with_reducible rfl) (by with_reducible rfl) ?_; rintro e w5 ⟨r5, rfl, hr5, hb5⟩; obtain ⟨p5, c5, hv5⟩ := hr5.form; subst hv5; have hb35 : Below W3.heap.size W3 w5 := hb34.trans (hb5.mono hb34.size); have bO5 := (hb35.block w2.heap.size (by omega)).trans bO; obtain ⟨t0, t1, t2, t3⟩ := rbox_facts bO5))
          all_goals
            generalize decide (divUpI x y < 0) = d5 at *
            generalize (limbs (divUpI x y).natAbs).length = l5 at *
            obtain ⟨W6, hW6⟩ : ∃ W6, (w5.setCell ⟨w2.heap.size, 0, none⟩ (.bool d5)).setCell ⟨w2.heap.size, 1, none⟩ (.slice p5 l5 c5) = W6 := ⟨_, rfl⟩
            obtain ⟨s0, s1⟩ := rbox_set bO5 (.bool d5) (.slice p5 l5 c5)
            have hr6 := hr5.setBox bO5 d5 (.slice p5 l5 c5)
            have hfin5 : Below w.heap.size w w5 := hfin.trans (hb35.mono hfin.size)
            have hfin6 : Below w.heap.size w W6 := by rw [← hW6]; exact (hfin5.setCell (p := ⟨w2.heap.size, 0, none⟩) (by show w.heap.size ≤ w2.heap.size; omega) _).setCell (p := ⟨w2.heap.size, 1, none⟩) (by show w.heap.size ≤ w2.heap.size; omega) _
            have hR6 : W6.heap[w.heap.size + 1 + 1]? = some (.cells #[.bool false, .slice none 0 0] 30) := by
              rw [← hW6]
              refine (Below.heap_setCell _ ⟨w2.heap.size, 1, none⟩ _ _ (by show w.heap.size + 1 + 1 ≠ w2.heap.size; omega)).trans ((Below.heap_setCell _ ⟨w2.heap.size, 0, none⟩ _ _ (by show w.heap.size + 1 + 1 ≠ w2.heap.size; omega)).trans ((hb35.block _ (by omega)).trans hR3))
            rw [hW6] at s0 s1 hr6
            obtain ⟨r0, r1, r2, r3⟩ := rbox_facts hR6
            obtain ⟨m0, m1⟩ := rbox_set hR6 (.bool d5) (.slice p5 l5 c5)
            have hr7 := hr6.setBox hR6 d5 (.slice p5 l5 c5)
            clear hr5 hr6
            go_wp2_with fail
            exact bodyPost_ret (v := .tuple #[.agg #[.bool d5, .slice p5 l5 c5], .bool true]) (by simp [results, Tryd.results30, go_sem, m0, m1]) rfl ⟨_, rfl, hr7, (hfin6.setCell (p := ⟨w.heap.size + 1 + 1, 0, none⟩) (by show w.heap.size ≤ w.heap.size + 1 + 1; omega) _).setCell (p := ⟨w.heap.size + 1 + 1, 1, none⟩) (by show w.heap.size ≤ w.heap.size + 1 + 1; omega) _⟩
    | succ j =>
      have hj : j < a.length := by omega
      have hwwr : Below w.heap.size w wr := HwV.out.trans (hbel.mono (by omega))
      have hqw : qb < wr.heap.size := Nat.lt_of_lt_of_le hVs hbel.size
      obtain ⟨a0, a1, _, _⟩ := rbox_facts ((hbel.block w.heap.size (by omega)).trans hAV)
      obtain ⟨ba, rfl, hca⟩ := ints_at (HIa.out wr hwwr) rfl hj
      have hxb := lAt_lt hda j
      obtain ⟨x0, hx0⟩ : ∃ x0, x0 = lAt a j := ⟨_, rfl⟩
      have HX0 : Hid (Bn.val (a.drop j) = x0 + 1000000000 * Bn.val (a.drop (j + 1))) := by show _ = _; rw [hx0, lAt_get hj]; exact val_at a j hj
      rw [← hx0] at hca hxb
      clear hx0
      have hjI : (j : Int) < (a.length : Int) := by omega
      obtain ⟨W2, hW2⟩ : ∃ W2, wr.alloc (.cells #[.int .i64 (x0 : Int)] 3) = W2 := ⟨_, rfl⟩
      have hb2 : Below wr.heap.size wr W2 := by rw [← hW2]; exact (Below.refl _ _).alloc (Nat.le_refl _) _
      have hs2 : wr.heap.size < W2.heap.size := by rw [← hW2]; simp
      have hown : W2.ownsRow wr.heap.size 3 1 (.slice (some ⟨wr.heap.size, 0, none⟩) [x0].length 1) [x0].length (cellsOf [x0]) := by
        rw [← hW2]; exact World.ownsRow_lit wr #[.int .i64 (x0 : Int)] 1 (Nat.le_refl _) (by decide) rfl
      have hIr2 : IntsAt W2 u6 (limbs R) := hIr.below hb2
      have hRl : (limbs R).length ≤ 1000001 := by
        have := limbs_mono2 (Nat.le_of_lt hRY) hyl; omega
      go_wp2_with (at_builtin; refine append_ints W2 rfl _ _ 28 rfl wr.heap.size i0 Tryd.underlying28 hi hz0 hz1 hz2 _ [x0] (by rfl) hown u6 (limbs R) (by rfl) hIr2 (by simp; omega) (Nat.le_of_lt hs2) ?_; intro v3 w3 hown3 hb3)
      obtain ⟨R', hR'⟩ : ∃ R', R' = x0 + 1000000000 * R := ⟨_, rfl⟩
      have hLd : ∀ d ∈ [x0] ++ limbs R, d < 1000000000 := fun d hd => by
        rcases List.mem_append.1 hd with h | h
        · rw [List.mem_singleton.1 h]; exact hxb
        · exact Bn.limbs_lt' h
      have HT : Hid (trim ([x0] ++ limbs R) = limbs R') := by
        show _ = _
        rw [trim_eq _ hLd, Bn.val_append, Bn.val_limbs', hR']; simp [Bn.val]
      have hb23 : Below wr.heap.size wr w3 := hb2.trans hb3
      have hv3 : ∀ g, v3.ownBlock = some g → wr.heap.size ≤ g := fun g hg => (hown3.lt g hg).1
      refine (refSize_any _ v3 w3 (IntsAt.of_owns hown3) hLd).mono ?_
      rintro e w4 ⟨v4, rfl, hI4, rfl, hob4⟩
      rw [HT.out] at hI4
      have hne4 : v4.ownBlock ≠ some qb := fun h => by rw [hob4] at h; have := hv3 _ h; omega
      have hR'b : R' < 1000000000 * Y := by omega
      have HR' : Hid (R' = x0 + 1000000000 * R) := hR'
      obtain ⟨p4, c4, hv4, _⟩ := hI4.form
      subst hv4
      have HI4 : Hid (∀ w5, Below w4.heap.size w4 w5 → IntsAt w5 (.slice p4 (limbs R').length c4) (limbs R')) := fun w5 h => hI4.below h
      have hw4 : Below w.heap.size w w4 := hwwr.trans (hb23.mono hwwr.size)
      have hbq4 : Below qb V w4 := hbel.trans (hb23.mono (Nat.le_of_lt hqw))
      have hrow4 := hrow.below hb23 hqw
      have hB4 := (hbq4.block (w.heap.size + 1) (by omega)).trans hBV
      have hqw4 : qb < w4.heap.size := Nat.lt_of_lt_of_le hqw hb23.size
      clear hR' hLd hv3 hown3 hown hIr2 hIr hb2 hs2 hW2 hI4 hob4 hb3 hb23 hbel hrow hwwr hqw a0 a1 hca HT
      go_wp2_with fail
      go_loopw [10, 11] (fun lv hv wr' => ∃ lo hi : Nat, lv = .int .i64 (lo : Int) ∧ hv = .int .i64 (hi : Int) ∧ lo ≤ hi ∧ hi ≤ 999999999 ∧ lo * Y ≤ R' ∧ R' < (hi + 1) * Y ∧ Below w4.heap.size w4 wr') (fun lv hv _ => (intOf hv - intOf lv).toNat)
      case atStart => exact ⟨0, 999999999, rfl, rfl, by omega, by omega, by omega, by omega, Below.refl _ _⟩
      case round =>
        obtain ⟨lo, hi', rfl, rfl, h1, h2, h3, h4, h5⟩ := hrel
        obtain ⟨b0, b1, _, _⟩ := rbox_facts ((h5.block (w.heap.size + 1) (by omega)).trans hB4)
        have HTm : Hid (∀ (mid : Nat) (w5 : World), mid < 1000000000 → Below w4.heap.size w4 w5 → Calls Tryd.prog 63 #[.slice p2 (limbs Y).length c2, .int .i64 (mid : Int)] w5 fun e w6 => ∃ v, e = .returned v ∧ IntsAt w6 v (limbs (Y * mid)) ∧ Below w5.heap.size w5 w6) := fun mid w5 hm h => by
          have := times_any (limbs Y) mid _ w5 (HIb.out w5 (hw4.trans (h.mono hw4.size))) (fun d h => Bn.limbs_lt' h) hm (by omega)
          rw [Bn.val_limbs'] at this; exact this
        by_cases hlh : lo < hi'
        · have hlhI : (lo : Int) < (hi' : Int) := by omega
          obtain ⟨mid, hmid⟩ : ∃ mid, mid = (lo + hi' + 1) / 2 := ⟨_, rfl⟩
          have hm1 : lo < mid ∧ mid ≤ hi' := by omega
          have hmI : ((lo : Int) + (hi' : Int) + 1) / 2 = (mid : Int) := by omega
          clear hmid
          have hcc : ∃ cc : Int, cmpI ((Y * mid : Nat) : Int) (R' : Int) = cc := ⟨_, rfl⟩
          obtain ⟨cc, hcc⟩ := hcc
          have Ecc : Hid (cmpI ((Y * mid : Nat) : Int) (R' : Int) = cc) := hcc
          by_cases hle : Y * mid ≤ R'
          · have hc0 : cc ≤ 0 := by
              rw [← hcc]
              rcases Nat.lt_or_ge (Y * mid) R' with h | h
              · rw [cmpI_lt (by omega)]; decide
              · rw [cmpI_eq (by omega) (by omega)]; decide
            clear hcc
            have Hle : Hid (mid * Y ≤ R') := by rw [Nat.mul_comm]; exact hle
            clear hle
            go_wp2_with (first
              | (go_at_call 63; refine calls_at (HTm.out mid _ (by omega) h5) (by with_reducible rfl) (by with_reducible rfl) ?_; rintro e w6 ⟨v6, rfl, hI6, hb6⟩; obtain ⟨p6, c6, hv6, _⟩ := hI6.form; subst hv6)
              | (go_at_call 54; refine calls_at (sizes_any (Y * mid) R' _ _ _ hI6 (HI4.out _ (h5.trans (hb6.mono h5.size)))) (by with_reducible rfl) (by with_reducible rfl) ?_; rintro e w7 ⟨rfl, hb7⟩; rw [Ecc.out]))
            have hb57 : Below w4.heap.size w4 w7 := (h5.trans (hb6.mono h5.size)).trans (hb7.mono (Nat.le_trans h5.size hb6.size))
            exact ⟨⟨mid, hi', rfl, rfl, by omega, h2, Hle.out, h4, hb57⟩, by simp [intOf]; omega⟩
          · have hc1 : cc = 1 := by rw [← hcc]; exact cmpI_gt (by omega)
            subst hc1
            clear hcc
            have Hgt : Hid (R' < (mid - 1 + 1) * Y) := by
              show _ < _
              rw [Nat.sub_add_cancel (by omega), Nat.mul_comm]; omega
            clear hle
            go_wp2_with (first
              | (go_at_call 63; refine calls_at (HTm.out mid _ (by omega) h5) (by with_reducible rfl) (by with_reducible rfl) ?_; rintro e w6 ⟨v6, rfl, hI6, hb6⟩; obtain ⟨p6, c6, hv6, _⟩ := hI6.form; subst hv6)
              | (go_at_call 54; refine calls_at (sizes_any (Y * mid) R' _ _ _ hI6 (HI4.out _ (h5.trans (hb6.mono h5.size)))) (by with_reducible rfl) (by with_reducible rfl) ?_; rintro e w7 ⟨rfl, hb7⟩; rw [Ecc.out]))
            have hb57 : Below w4.heap.size w4 w7 := (h5.trans (hb6.mono h5.size)).trans (hb7.mono (Nat.le_trans h5.size hb6.size))
            exact ⟨⟨lo, mid - 1, rfl, by rw [show ((mid : Int) - 1) = ((mid - 1 : Nat) : Int) from by omega], by omega, by omega, h3, Hgt.out, hb57⟩, by simp [intOf]; omega⟩
        · obtain rfl : lo = hi' := by omega
          have hlt : ¬ (lo : Int) < (lo : Int) := by omega
          have hrow5 := hrow4.below h5 hqw4
          have hj5 : j < (List.replicate (j + 1) 0 ++ q).length := by simp; omega
          obtain ⟨co, fo⟩ := hrow5 j hj5
          have hset := hrow5.set (k := j) (n := lo) (u := (lo : Int)) hj5 rfl
          have hlist : (List.replicate (j + 1) 0 ++ q).set j lo = List.replicate j 0 ++ lo :: q := by
            rw [List.replicate_succ', List.append_assoc, List.set_append_right _ _ (by simp)]
            simp
          rw [hlist] at hset
          obtain ⟨W5, hW5⟩ : ∃ W5, wr.setCell ⟨qb, j, none⟩ (.int .i64 (lo : Int)) = W5 := ⟨_, rfl⟩
          rw [hW5] at hset
          have hw5 : Below w.heap.size w W5 := by rw [← hW5]; exact (hw4.trans (h5.mono hw4.size)).setCell (p := ⟨qb, j, none⟩) (by show w.heap.size ≤ qb; omega) _
          have hq5 : Below qb V W5 := by rw [← hW5]; exact (hbq4.trans (h5.mono (Nat.le_of_lt hqw4))).setCell (p := ⟨qb, j, none⟩) (Nat.le_refl _) _
          have hI5 : IntsAt W5 (.slice p4 (limbs R').length c4) (limbs R') := by rw [← hW5]; exact (HI4.out _ h5).setCell (p := ⟨qb, j, none⟩) hne4 _
          have hs5 : qb < W5.heap.size := by rw [← hW5]; simp [World.setCell]; exact Nat.lt_of_lt_of_le hqw4 h5.size
          obtain ⟨b0, b1, _, _⟩ := rbox_facts ((hq5.block (w.heap.size + 1) (by omega)).trans hBV)
          have HT5 : Hid (∀ w5, Below W5.heap.size W5 w5 → Calls Tryd.prog 63 #[.slice p2 (limbs Y).length c2, .int .i64 (lo : Int)] w5 fun e w6 => ∃ v, e = .returned v ∧ IntsAt w6 v (limbs (Y * lo)) ∧ Below w5.heap.size w5 w6) := fun w5 h => by
            have := times_any (limbs Y) lo _ w5 (HIb.out w5 (hw5.trans (h.mono hw5.size))) (fun d h => Bn.limbs_lt' h) (by omega) (by omega)
            rw [Bn.val_limbs'] at this; exact this
          have hYlo : Y * lo ≤ R' := by rw [Nat.mul_comm]; exact h3
          have hR'l : (limbs R').length ≤ 2000001 := by
            have h6 : R' ≤ 1000000000 * Y := by omega
            refine limbs_mono2 h6 ?_
            have h7 := (Bn.limbs_length_le Y _).1 (Nat.le_refl (limbs Y).length)
            have : (limbs (1000000000 * Y)).length ≤ (limbs Y).length + 1 := by
              rw [Bn.limbs_length_le, Nat.pow_succ, Nat.mul_comm]
              exact Nat.mul_lt_mul_of_pos_right h7 (by decide)
            omega
          have HR5 : Hid (RowI W5 qb (List.replicate j 0 ++ lo :: q)) := hset
          have HI5 : Hid (IntsAt W5 (.slice p4 (limbs R').length c4) (limbs R')) := hI5
          have hco0 : ((List.replicate (j + 1) 0 ++ q)[j]'hj5) = 0 := by
            rw [List.getElem_append_left (by simp)]; simp
          rw [hco0] at co
          clear hset hI5 hlist hco0 hrow5 hrow4 h5 HI4 HTm hB4
          go_wp2_with fail
          refine (HT5.out W5 (Below.refl _ _)).mono ?_
          rintro e w6 ⟨v6, rfl, hI6, hb6⟩
          obtain ⟨p6, c6, hv6, _⟩ := hI6.form
          subst hv6
          have HL6 := less_any (limbs R') (limbs (Y * lo)) _ _ w6 (HI5.out.below hb6) hI6 (fun d h => Bn.limbs_lt' h) (fun d h => Bn.limbs_lt' h) (by omega) (limbs_len_mono hYlo) (by rw [Bn.val_limbs', Bn.val_limbs']; exact hYlo)
          rw [Bn.val_limbs', Bn.val_limbs'] at HL6
          have HL7 : Hid (Calls Tryd.prog 55 #[.slice p4 (limbs R').length c4, .slice p6 (limbs (Y * lo)).length c6] w6 fun e w' => ∃ v, e = .returned v ∧ SizeAt w' v (R' - Y * lo) ∧ Below w6.heap.size w6 w') := HL6
          clear HL6
          go_wp2_with fail
          refine HL7.out.mono ?_
          rintro e w7 ⟨v7, rfl, ⟨l7, hI7, hl7, hv7⟩, hb7⟩
          have HS7 : Hid (Calls Tryd.prog 62 #[v7] w7 fun e w' => ∃ v', e = .returned v' ∧ IntsAt w7 v' (limbs (R' - Y * lo)) ∧ w' = w7) := by
            refine (refSize_any l7 v7 w7 hI7 hl7).mono ?_
            rintro e w' ⟨v', h1, h2, h3, _⟩
            rw [trim_eq _ hl7, hv7] at h2
            exact ⟨v', h1, h2, h3⟩
          obtain ⟨p7, c7, hv7', _⟩ := hI7.form
          subst hv7'
          clear hI7 hl7 hv7
          go_wp2_with fail
          refine HS7.out.mono ?_
          rintro e w8 ⟨v8, rfl, hI8, rfl⟩
          have hb58 : Below W5.heap.size W5 w8 := hb6.trans (hb7.mono hb6.size)
          have HST : Hid (Bn.val (a.drop j) = Y * Bn.val (lo :: q) + (R' - Y * lo)) := by
            show _ = _
            rw [HX0.out]
            exact short_step HQ.out.2.2 (by have := HR'.out; omega)
          go_wp2
          refine ⟨⟨j, R' - Y * lo, lo :: q, rfl, by omega, hI8, ?_, ⟨by have := HQ.out.1; simp; omega, fun d hd => ?_, HST.out⟩, HR5.out.below hb58 hs5, hq5.trans (hb58.mono (Nat.le_of_lt hs5))⟩, by simp [intOf]⟩
          · rw [Nat.add_mul, Nat.mul_comm lo Y] at h4; omega
          · rcases List.mem_cons.1 hd with rfl | hd
            · omega
            · exact HQ.out.2.1 d hd
end Go.Proofs.YtangepgiamhenaaDoor

namespace Go.Proofs.YtangepgiamhenaaDoor
open Go.RowKit
open Bn (limbs)

set_option maxRecDepth 100000 in
set_option maxHeartbeats 2000000 in
/-- Sub. -/
theorem refSub_any (x y : Int) (va vb : Value) (w : World) (ha : RefAt w va x) (hb : RefAt w vb y) (hx : (limbs x.natAbs).length ≤ 1000000) (hy : (limbs y.natAbs).length ≤ 1000000) :
    Calls Tryd.prog 26 #[va, vb] w fun e w' => ∃ r, e = .returned r ∧ RefAt w' r (x - y) ∧ Below w.heap.size w w' := by
  have HA : Hid (RefAt w va x) := ha
  have HB : Hid (RefAt w vb y) := hb
  obtain ⟨d1, p1, l1, c1, rfl⟩ := ha.shape
  obtain ⟨d2, p2, l2, c2, rfl⟩ := hb.shape
  clear ha hb
  go_enter Tryd.func26, Tryd.ntmps26
  go_wp2_with fail
  generalize hW : ((w.alloc (.cells #[.bool d1, .slice p1 l1 c1] 30)).alloc (.cells #[.bool d2, .slice p2 l2 c2] 30)).alloc (.cells #[.bool false, .slice none 0 0] 30) = W
  obtain ⟨hA, hB, hR, hBW, hsz⟩ := three_objs w _ _ _ hW
  clear hW
  have HOp : Hid (∀ w', Below W.heap.size W w' → Calls Tryd.prog 23 #[.agg #[.bool d2, .slice p2 l2 c2]] w' fun e w'' => ∃ r, e = .returned r ∧ RefAt w'' r (-y) ∧ Below w'.heap.size w' w'') := fun w' h => opposite_any y _ w' ((HB.out.below hBW).below h)
  have HAd : Hid (∀ w' v, Below W.heap.size W w' → RefAt w' v (-y) → Calls Tryd.prog 24 #[.agg #[.bool d1, .slice p1 l1 c1], v] w' fun e w'' => ∃ r, e = .returned r ∧ RefAt w'' r (x - y) ∧ Below w'.heap.size w' w'') := fun w' v h hv => by
    have := refAdd_any x (-y) _ _ w' ((HA.out.below hBW).below h) hv hx (by rw [Int.natAbs_neg]; exact hy)
    rw [← Int.sub_eq_add_neg] at this; exact this
  obtain ⟨a0, a1, _, _⟩ := rbox_facts hA
  obtain ⟨b0, b1, _, _⟩ := rbox_facts hB
  go_region_with (first
    | (go_at_call 23; refine calls_at (HOp.out _ (Below.refl _ _).drew) (by with_reducible rfl) (by with_reducible rfl) ?_; rintro e w1 ⟨vo, rfl, hro, hb1⟩; obtain ⟨bo, po, no, co, hvo⟩ := hro.shape; subst hvo; obtain ⟨g0, g1, _, _⟩ := rbox_facts ((hb1.block w.heap.size (by show w.heap.size < W.heap.size; omega)).trans hA); have hbw1 : Below W.heap.size W w1 := (Below.refl W.heap.size W).drew.trans hb1)
    | (go_at_call 24; refine calls_at (HAd.out w1 _ hbw1 hro) (by with_reducible rfl) (by with_reducible rfl) ?_; rintro e w2 ⟨r, rfl, hr, hb2⟩; obtain ⟨d5, p5, l5, c5, hv5⟩ := hr.shape; subst hv5; have hbw2 : Below W.heap.size W w2 := hbw1.trans (hb2.mono hbw1.size); have hR2 := (hbw2.block (w.heap.size + 1 + 1) (by omega)).trans hR; obtain ⟨r0, r1, r2, r3⟩ := rbox_facts hR2))
  all_goals
    obtain ⟨m0, m1⟩ := rbox_set hR2 (.bool d5) (.slice p5 l5 c5)
    have hfin : Below w.heap.size w w2 := hBW.trans (hbw2.mono hBW.size)
    go_wp2
    exact bodyPost_ret (v := .agg #[.bool d5, .slice p5 l5 c5]) (by simp [results, Tryd.results26, go_sem, m0, m1]) rfl ⟨_, rfl, hr.setBox hR2 _ _, (hfin.setCell (p := ⟨w.heap.size + 1 + 1, 0, none⟩) (by show w.heap.size ≤ w.heap.size + 1 + 1; omega) _).setCell (p := ⟨w.heap.size + 1 + 1, 1, none⟩) (by show w.heap.size ≤ w.heap.size + 1 + 1; omega) _⟩
end Go.Proofs.YtangepgiamhenaaDoor
