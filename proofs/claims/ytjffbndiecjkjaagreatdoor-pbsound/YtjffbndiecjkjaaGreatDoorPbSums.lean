/-
  Put together: PbSum, PbHolds, PbHolds2.
-/
import Derived.Test.YtjffbndiecjkjaaGreatDoorPbOfs
namespace Go.Proofs.YtjffbndiecjkjaaGreatDoor
open Go.Shelf Go.RowKit Go.Lib Go.Sort
open Bn (limbs)

/-- What the coefficients of the literals that count come to. -/
def Pm.sumF (f : Int → Bool) : List (Int × Int) → Int
  | [] => 0
  | p :: l => (if f p.2 then p.1 else 0) + Pm.sumF f l
theorem Pm.sumF_append (f : Int → Bool) (a b : List (Int × Int)) : Pm.sumF f (a ++ b) = Pm.sumF f a + Pm.sumF f b := by
  induction a with
  | nil => simp [Pm.sumF]
  | cons p a ih => simp only [List.cons_append, Pm.sumF, ih]; omega
theorem Pm.sumF_abs (f : Int → Bool) (l : List (Int × Int)) : (Pm.sumF f l).natAbs ≤ Pm.absS l := by
  induction l with
  | nil => simp [Pm.sumF, Pm.absS]
  | cons p l ih => simp only [Pm.sumF, Pm.absS]; split <;> omega
theorem Pm.sumF_next (f : Int → Bool) {K : List (Int × Int)} {k : Nat} (hk : k < K.length) : Pm.sumF f (K.take (k + 1)) = Pm.sumF f (K.take k) + (if f K[k].2 then K[k].1 else 0) := by
  rw [List.take_succ_eq_append_getElem hk, Pm.sumF_append]; simp [Pm.sumF]

theorem grown_of_below {w w' : World} (h : RowKit.Below w.heap.size w w') (r : Option Nat) : w.grownBy w' r := ⟨h.os, h.tape, h.output, h.size, fun k hk _ => h.block k hk⟩
theorem grown_trans {w w1 w2 : World} {r : Option Nat} (h : w.grownBy w1 r) (h2 : w1.grownBy w2 r) : w.grownBy w2 r :=
  ⟨h2.os.trans h.os, h2.tape.trans h.tape, h2.output.trans h.output, Nat.le_trans h.size h2.size, fun k hk hne => (h2.block k (Nat.lt_of_lt_of_le hk h.size) hne).trans (h.block k hk hne)⟩
theorem grown_new {w w1 w2 : World} {r : Option Nat} {P : Nat} (h : w.grownBy w1 r) (h2 : w1.grownBy w2 (some P)) (hP : w.heap.size ≤ P) : w.grownBy w2 r :=
  ⟨h2.os.trans h.os, h2.tape.trans h.tape, h2.output.trans h.output, Nat.le_trans h.size h2.size, fun k hk hne => (h2.block k (Nat.lt_of_lt_of_le hk h.size) (fun e => by injection e with e; omega)).trans (h.block k hk hne)⟩
theorem below_of_none {w w' : World} (h : w.grownBy w' none) : RowKit.Below w.heap.size w w' := ⟨h.os, h.tape, h.output, h.size, fun k hk => h.block k hk (by simp)⟩

/-- What a function that is handed in may write (a block of one's own, A), and what stays of the world besides. -/
structure Calm (B : Nat) (A : Option Nat) (J : World → Prop) : Prop where
  own : ∀ w1 w2 P, B ≤ P → J w1 → w1.grownBy w2 (some P) → J w2
  lt : ∀ g, A = some g → g < B
  big : ∀ w1 w2, J w1 → w1.grownBy w2 A → ∀ v z, BigAt w1 v z → BigAt w2 v z
  pi : ∀ w1 w2, J w1 → w1.grownBy w2 A → ∀ v K, PiAt w1 v K → PiAt w2 v K
theorem Calm.more {B B' : Nat} {A : Option Nat} {J : World → Prop} (h : Calm B A J) (hB : B ≤ B') : Calm B' A J := ⟨fun w1 w2 P hP => h.own w1 w2 P (Nat.le_trans hB hP), fun g hg => Nat.lt_of_lt_of_le (h.lt g hg) hB, h.big, h.pi⟩
theorem Calm.quiet (B : Nat) : Calm B none (fun _ => True) := ⟨fun _ _ _ _ _ _ => trivial, (fun g h => by cases h), fun _ _ _ h _ _ hB => hB.below (below_of_none h), fun _ _ _ h _ _ hB => hB.below (below_of_none h)⟩
theorem Calm.below {B : Nat} {A : Option Nat} {J : World → Prop} (h : Calm B A J) {w1 w2 : World} (hj : J w1) (hb : RowKit.Below w1.heap.size w1 w2) : J w2 := h.own w1 w2 B (Nat.le_refl _) hj (grown_of_below hb _)

/-- What sum makes on its way. -/
structure SumAt (w : World) (rv : Value) (n : Int) (q : Option Addr) (S : Int) (A : Option Nat) (J : World → Prop) (wr : World) : Prop where
  arg : wr.heap[w.heap.size]? = some (.cells #[rv, .int .i64 n, .pointer q] 35)
  res : wr.heap[w.heap.size + 1]? = some (.cells #[.int .i64 0, .pointer none] 33)
  sum : ∃ m p, wr.heap[w.heap.size + 1 + 1]? = some (.cells #[.int .i64 m, .pointer p] 33) ∧ BigAt wr (.agg #[.int .i64 m, .pointer p]) S
  inv : J wr
  rest : w.grownBy wr A
theorem SumAt.call {w : World} {rv : Value} {n : Int} {q : Option Addr} {S : Int} {A : Option Nat} {J : World → Prop} {wr w' : World} (hC : Calm w.heap.size A J) (h : SumAt w rv n q S A J wr) (hj : J w') (hg : wr.grownBy w' A) : SumAt w rv n q S A J w' := by
  obtain ⟨m, p, h1, h2⟩ := h.sum
  have hne : ∀ k, w.heap.size ≤ k → some k ≠ A := fun k hk e => by have := hC.lt k e.symm; omega
  exact ⟨(hg.block _ (Array.getElem?_eq_some_iff.1 h.arg).1 (hne _ (by omega))).trans h.arg, (hg.block _ (Array.getElem?_eq_some_iff.1 h.res).1 (hne _ (by omega))).trans h.res, ⟨m, p, (hg.block _ (Array.getElem?_eq_some_iff.1 h1).1 (hne _ (by omega))).trans h1, hC.big _ _ h.inv hg _ _ h2⟩, hj, grown_trans h.rest hg⟩
theorem SumAt.below {w : World} {rv : Value} {n : Int} {q : Option Addr} {S : Int} {A : Option Nat} {J : World → Prop} {wr w' : World} (hC : Calm w.heap.size A J) (h : SumAt w rv n q S A J wr) (hb : RowKit.Below wr.heap.size wr w') : SumAt w rv n q S A J w' :=
  h.call hC (hC.below h.inv hb) (grown_of_below hb _)
theorem SumAt.store {w : World} {rv : Value} {n : Int} {q : Option Addr} {S S' : Int} {A : Option Nat} {J : World → Prop} {wr : World} {m : Int} {p : Option Addr} (hC : Calm w.heap.size A J) (h : SumAt w rv n q S A J wr) (hB : BigAt wr (.agg #[.int .i64 m, .pointer p]) S') :
    SumAt w rv n q S' A J ((wr.setCell ⟨w.heap.size + 1 + 1, 0, none⟩ (.int .i64 m)).setCell ⟨w.heap.size + 1 + 1, 1, none⟩ (.pointer p)) := by
  obtain ⟨m0, p0, h1, h2⟩ := h.sum
  have hg := grown_set2 wr (w.heap.size + 1 + 1) 0 (.int .i64 m) (.pointer p)
  exact ⟨(hg.block _ (Array.getElem?_eq_some_iff.1 h.arg).1 (by simp; omega)).trans h.arg, (hg.block _ (Array.getElem?_eq_some_iff.1 h.res).1 (by simp)).trans h.res, ⟨m, p, box_over h1 _ _, hB.setBox h1 _ _⟩, hC.own _ _ _ (by omega) h.inv hg, grown_new h.rest hg (by omega)⟩

set_option maxRecDepth 100000 in
set_option maxHeartbeats 2000000 in
theorem sum_any (v : Value) (K : List (Int × Int)) (D : Int) (g : Nat) (cap : Array Value) (f : Int → Bool) (A : Option Nat) (J : World → Prop) (w : World) (h : PbAt w v K D) (hn : K.length ≤ 1000000) (hab : (limbs (Pm.absS K)).length ≤ 900000)
    (hC : Calm w.heap.size A J) (hJ : J w) (he : Enters Tryz.prog g) (hf : ∀ p ∈ K, ∀ w', J w' → Calls Tryz.prog g (#[.int .i64 p.2] ++ cap) w' fun e w'' => e = .returned (.bool (f p.2)) ∧ J w'' ∧ w'.grownBy w'' A) :
    Calls Tryz.prog 49 #[v, .func (.func g) #[] cap] w fun e w' => ∃ r, e = .returned r ∧ BigAt w' r (Pm.sumF f K) ∧ J w' ∧ w.grownBy w' A := by
  obtain ⟨a, c, n, q, rfl, hpi, hB⟩ := h
  obtain ⟨a2, c2, hac, hlc, hcm⟩ := hpi.form
  injection hac with ea _ ec
  subst ea
  subst ec
  obtain ⟨N, hN⟩ : ∃ N : Nat, K.length = N := ⟨_, rfl⟩
  have HN : Hid (K.length = N) := hN
  rw [hN] at hlc hpi ⊢
  have HP : Hid (PiAt w (.slice a N c) K) := hpi
  have HA : Hid ((limbs (Pm.absS K)).length ≤ 900000) := hab
  have HC : Hid (Calm w.heap.size A J) := hC
  have HJ : Hid (J w) := hJ
  have HF : Hid (∀ p ∈ K, ∀ w', J w' → Calls Tryz.prog g (#[.int .i64 p.2] ++ cap) w' fun e w'' => e = .returned (.bool (f p.2)) ∧ J w'' ∧ w'.grownBy w'' A) := hf
  have hN6 : N ≤ 1000000 := by omega
  unfold Enters at he
  clear hN hpi hB hab hC hJ hf hn
  go_enter Tryz.func49, Tryz.ntmps49
  go_wp2_with fail
  obtain ⟨W, hW⟩ : ∃ W, ((w.alloc (.cells #[.slice a N c, .int .i64 n, .pointer q] 35)).alloc (.cells #[.int .i64 0, .pointer none] 33)).alloc (.cells #[.int .i64 0, .pointer none] 33) = W := ⟨_, rfl⟩
  obtain ⟨hO1, hO2, hO3, hbW, _⟩ := three_objs w _ _ _ hW
  rw [hW]
  have HF0 : Hid (SumAt w (.slice a N c) n q 0 A J W) := ⟨hO1, hO2, ⟨0, none, hO3, .inl ⟨by unfold Fits; omega, rfl⟩⟩, HC.out.below HJ.out hbW, grown_of_below hbW _⟩
  clear hW hO1 hO2 hO3 hbW
  go_loopw [11] (fun iv wr => ∃ (k : Nat), iv = .int .i64 (k : Int) ∧ k ≤ N ∧ Hid (SumAt w (.slice a N c) n q (Pm.sumF f (K.take k)) A J wr)) (fun iv _ => N - (intOf iv).toNat)
  case atStart => exact ⟨0, rfl, Nat.zero_le _, HF0⟩
  case round =>
    obtain ⟨k, rfl, hk, hF⟩ := hrel
    clear HF0
    by_cases hkN : k < N
    · have hkI : (k : Int) < (N : Int) := by omega
      have hkl : k < K.length := by have := HN.out; omega
      obtain ⟨b, m, qq, ha, hbl, e0, e1, e2, hBk⟩ := (HC.out.pi _ _ HJ.out hF.out.rest _ _ HP.out).cell k hkl
      have hfk := HF.out _ (List.getElem_mem hkl)
      have hnx := Pm.sumF_next f hkl
      have hbS : (limbs (Pm.sumF f (K.take k)).natAbs).length ≤ 1000000 := Nat.le_trans (limbs_abs (Nat.le_trans (Pm.sumF_abs _ _) (Pm.absS_take _ _)) HA.out) (by decide)
      have hbz : (limbs K[k].1.natAbs).length ≤ 1000000 := Nat.le_trans (limbs_abs (Pm.absS_mem (List.getElem_mem hkl)) HA.out) (by decide)
      obtain ⟨p, hp⟩ : ∃ p, K[k] = p := ⟨_, rfl⟩
      rw [hp] at e2 hBk hfk hnx hbz
      obtain ⟨z, l⟩ := p
      simp only at e2 hBk hfk hnx hbz
      subst ha
      obtain ⟨V, hV⟩ : ∃ V, wr.alloc (.cells #[.int .i64 m, .pointer qq, .int .i64 l] 67) = V := ⟨_, rfl⟩
      obtain ⟨hO, hbV⟩ := new_obj wr _ hV
      obtain ⟨v0, v1, v2, _, _, _⟩ := box3_facts hO
      have HO : Hid (V.heap[wr.heap.size]? = some (.cells #[.int .i64 m, .pointer qq, .int .i64 l] 67)) := hO
      have HFV : Hid (SumAt w (.slice (some ⟨b, 0, none⟩) N c) n q (Pm.sumF f (K.take k)) A J V) := hF.out.below HC.out hbV
      have HBV : Hid (BigAt V (.agg #[.int .i64 m, .pointer qq]) z) := hBk.below hbV
      have HCl : Hid (Calls Tryz.prog g (#[.int .i64 l] ++ cap) V fun e w'' => e = .returned (.bool (f l)) ∧ J w'' ∧ V.grownBy w'' A) := hfk V HFV.out.inv
      have Hnx : Hid (Pm.sumF f (K.take (k + 1)) = Pm.sumF f (K.take k) + (if f l then z else 0)) := hnx
      have Hbs : Hid ((limbs (Pm.sumF f (K.take k)).natAbs).length ≤ 1000000 ∧ (limbs z.natAbs).length ≤ 1000000) := ⟨hbS, hbz⟩
      have Hw : Hid (w.heap.size ≤ wr.heap.size) := hF.out.rest.size
      clear hO hbV hBk hp hF hfk hnx hbS hbz
      obtain ⟨t, ht⟩ : ∃ t, f l = t := ⟨_, rfl⟩
      rw [ht] at HCl Hnx
      clear ht
      cases t with
      | true =>
        go_wp2_with (go_at_fn g; refine calls_at HCl.out (by with_reducible rfl) (by with_reducible rfl) ?_; rintro e w1 ⟨rfl, hj1, hg1⟩; have HF1 : Hid (SumAt w (.slice (some ⟨b, 0, none⟩) N c) n q (Pm.sumF f (K.take k)) A J w1) := HFV.out.call HC.out hj1 hg1; have HB1 : Hid (BigAt w1 (.agg #[.int .i64 m, .pointer qq]) z) := HC.out.big _ _ HFV.out.inv hg1 _ _ HBV.out; obtain ⟨sn, sq, hs1, hsB⟩ := HF1.out.sum; obtain ⟨s0, s1, s2, s3⟩ := box_facts hs1; have hO1 : w1.heap[wr.heap.size]? = some (.cells #[.int .i64 m, .pointer qq, .int .i64 l] 67) := (hg1.block _ (Array.getElem?_eq_some_iff.1 HO.out).1 (fun e => by have := HC.out.lt _ e.symm; have := Hw.out; omega)).trans HO.out; obtain ⟨o0, o1, o2, _, _, _⟩ := box3_facts hO1; have HS1 : Hid (BigAt w1 (.agg #[.int .i64 sn, .pointer sq]) (Pm.sumF f (K.take k))) := hsB; clear hsB hs1 hO1 hj1 hg1 v0 v1 v2)
        refine (add_big (Pm.sumF f (K.take k)) z _ _ w1 HS1.out HB1.out Hbs.out.1 Hbs.out.2).mono ?_
        rintro r w2 ⟨r2, rfl, hB2, hb2⟩
        obtain ⟨n2, q2, rfl⟩ := hB2.shape
        have hF2 := HF1.out.below HC.out hb2
        obtain ⟨tn, tq, ht2, _⟩ := hF2.sum
        obtain ⟨t0, t1, t2, t3⟩ := box_facts ht2
        have HF3 : Hid (SumAt w (.slice (some ⟨b, 0, none⟩) N c) n q (Pm.sumF f (K.take (k + 1))) A J ((w2.setCell ⟨w.heap.size + 1 + 1, 0, none⟩ (.int .i64 n2)).setCell ⟨w.heap.size + 1 + 1, 1, none⟩ (.pointer q2))) := by
          show SumAt _ _ _ _ _ _ _ _
          rw [Hnx.out, if_pos trivial]
          exact hF2.store HC.out hB2
        clear hF2 ht2 hB2 hb2 s0 s1 s2 s3 o0 o1 o2
        go_wp2_with fail
        go_roundw
        case rel => exact ⟨k + 1, by go_num, by omega, HF3⟩
        case measure => simp [intOf]; omega
      | false =>
        go_wp2_with (go_at_fn g; refine calls_at HCl.out (by with_reducible rfl) (by with_reducible rfl) ?_; rintro e w1 ⟨rfl, hj1, hg1⟩; have HF3 : Hid (SumAt w (.slice (some ⟨b, 0, none⟩) N c) n q (Pm.sumF f (K.take (k + 1))) A J w1) := (by show SumAt _ _ _ _ _ _ _ _; rw [Hnx.out, if_neg (by decide), Int.add_zero]; exact HFV.out.call HC.out hj1 hg1); clear hj1 hg1)
        go_roundw
        case rel => exact ⟨k + 1, by go_num, by omega, HF3⟩
        case measure => simp [intOf]; omega
    · obtain rfl : k = N := by omega
      have htake : K.take k = K := List.take_of_length_le (by have := HN.out; omega)
      rw [htake] at hF
      obtain ⟨sn, sq, hs1, hsB⟩ := hF.out.sum
      obtain ⟨s0, s1, s2, s3⟩ := box_facts hs1
      have hR := hF.out.res
      obtain ⟨r0, r1, t0, t1⟩ := box_facts hR
      obtain ⟨X, hX⟩ : ∃ X, (wr.setCell ⟨w.heap.size + 1, 0, none⟩ (.int .i64 sn)).setCell ⟨w.heap.size + 1, 1, none⟩ (.pointer sq) = X := ⟨_, rfl⟩
      have hRX := box_over hR (.int .i64 sn) (.pointer sq)
      have hBX := hsB.setBox hR (.int .i64 sn) (.pointer sq)
      have hg := grown_set2 wr (w.heap.size + 1) 0 (.int .i64 sn) (.pointer sq)
      rw [hX] at hRX hBX
      have hg' : wr.grownBy X (some (w.heap.size + 1)) := by rw [← hX]; exact hg
      have HX : Hid ((wr.setCell ⟨w.heap.size + 1, 0, none⟩ (.int .i64 sn)).setCell ⟨w.heap.size + 1, 1, none⟩ (.pointer sq) = X) := hX
      have HR : Hid (X.heap[w.heap.size + 1]? = some (.cells #[.int .i64 sn, .pointer sq] 33)) := hRX
      have HBX : Hid (BigAt X (.agg #[.int .i64 sn, .pointer sq]) (Pm.sumF f K)) := hBX
      have HJX : Hid (J X ∧ w.grownBy X A) := ⟨HC.out.own _ _ _ (Nat.le_succ _) hF.out.inv hg', grown_new hF.out.rest hg' (Nat.le_succ _)⟩
      clear hX hRX hBX hg hg' hR hs1 hsB htake
      go_wp2_with fail
      rw [HX.out]
      obtain ⟨x0, x1, _, _⟩ := box_facts HR.out
      exact bodyPost_ret (by simp [results, Tryz.results49, go_sem, x0, x1]; try rfl) rfl ⟨_, rfl, HBX.out, HJX.out.1, HJX.out.2⟩
end Go.Proofs.YtjffbndiecjkjaaGreatDoor

namespace Go.Proofs.YtjffbndiecjkjaaGreatDoor
open Go.Shelf Go.RowKit Go.Lib Go.Sort
open Bn (limbs)

/-- What all coefficients come to. -/
def Pm.total (K : List (Int × Int)) : Int := Pm.sumF (fun _ => true) K

set_option maxRecDepth 100000 in
set_option maxHeartbeats 600000 in
theorem every_any (l : Int) (w : World) : Calls Tryz.prog 62 #[.int .i64 l] w fun e w' => e = .returned (.bool true) ∧ w' = w := by
  go_enter Tryz.func62, Tryz.ntmps62
  go_wp2
  go_ret
  exact ⟨rfl, rfl⟩

set_option maxRecDepth 100000 in
set_option maxHeartbeats 2000000 in
theorem total_any (v : Value) (K : List (Int × Int)) (D : Int) (w : World) (h : PbAt w v K D) (hn : K.length ≤ 1000000) (hab : (limbs (Pm.absS K)).length ≤ 900000) :
    Calls Tryz.prog 28 #[v] w fun e w' => ∃ r, e = .returned r ∧ BigAt w' r (Pm.total K) ∧ RowKit.Below w.heap.size w w' := by
  have HS : Hid (∀ w', PbAt w' v K D → Calls Tryz.prog 49 #[v, .func (.func 62) #[] #[]] w' fun e w'' => ∃ r, e = .returned r ∧ BigAt w'' r (Pm.total K) ∧ RowKit.Below w'.heap.size w' w'') := fun w' h' => by
    refine (sum_any v K D 62 #[] (fun _ => true) none (fun _ => True) w' h' hn hab (Calm.quiet _) trivial (enters_of Tryz.func62 (by kernel_rfl) rfl) (fun p _ w2 _ => ?_)).mono ?_
    · refine (every_any p.2 w2).mono ?_
      rintro e w3 ⟨rfl, rfl⟩
      exact ⟨rfl, trivial, grown_of_below (Below.refl _ _) _⟩
    · rintro e w3 ⟨r, rfl, hB, _, hg⟩
      exact ⟨r, rfl, hB, below_of_none hg⟩
  have HP : Hid (PbAt w v K D) := h
  obtain ⟨a, c, n, q, rfl, _, _⟩ := h
  obtain ⟨W, hW⟩ : ∃ W, (w.alloc (.cells #[.slice a K.length c, .int .i64 n, .pointer q] 35)).alloc (.cells #[.int .i64 0, .pointer none] 33) = W := ⟨_, rfl⟩
  obtain ⟨hO1, hO2, hbW, _⟩ := two_objs w _ _ hW
  have HCl : Hid (Calls Tryz.prog 49 #[.agg #[.slice a K.length c, .int .i64 n, .pointer q], .func (.func 62) #[] #[]] W fun e w'' => ∃ r, e = .returned r ∧ BigAt w'' r (Pm.total K) ∧ RowKit.Below W.heap.size W w'') := HS.out W (HP.out.below hbW)
  have HO2 : Hid (W.heap[w.heap.size + 1]? = some (.cells #[.int .i64 0, .pointer none] 33)) := hO2
  have HbW : Hid (RowKit.Below w.heap.size w W) := hbW
  obtain ⟨k0, k1, k2, _, _, _⟩ := box3_facts hO1
  clear hO1 hO2 hbW HS hab hn
  go_enter Tryz.func28, Tryz.ntmps28
  go_wp2_with fail
  refine HCl.out.mono ?_
  rintro e w1 ⟨r, rfl, hB, hb⟩
  obtain ⟨n1, q1, rfl⟩ := hB.shape
  have hR : w1.heap[w.heap.size + 1]? = some (.cells #[.int .i64 0, .pointer none] 33) := (hb.block _ (Array.getElem?_eq_some_iff.1 HO2.out).1).trans HO2.out
  obtain ⟨r0, r1, t0, t1⟩ := box_facts hR
  obtain ⟨X, hX⟩ : ∃ X, (w1.setCell ⟨w.heap.size + 1, 0, none⟩ (.int .i64 n1)).setCell ⟨w.heap.size + 1, 1, none⟩ (.pointer q1) = X := ⟨_, rfl⟩
  have HR : Hid (X.heap[w.heap.size + 1]? = some (.cells #[.int .i64 n1, .pointer q1] 33)) := by have h := box_over hR (.int .i64 n1) (.pointer q1); rw [hX] at h; exact h
  have HBX : Hid (BigAt X (.agg #[.int .i64 n1, .pointer q1]) (Pm.total K)) := by have h := hB.setBox hR (.int .i64 n1) (.pointer q1); rw [hX] at h; exact h
  have HbX : Hid (RowKit.Below w.heap.size w X) := by
    have hw1 : RowKit.Below w.heap.size w w1 := HbW.out.trans (hb.mono HbW.out.size)
    rw [← hX]; exact (hw1.setCell (p := ⟨w.heap.size + 1, 0, none⟩) (Nat.le_succ _) _).setCell (p := ⟨w.heap.size + 1, 1, none⟩) (Nat.le_succ _) _
  have HX : Hid ((w1.setCell ⟨w.heap.size + 1, 0, none⟩ (.int .i64 n1)).setCell ⟨w.heap.size + 1, 1, none⟩ (.pointer q1) = X) := hX
  clear hX hR hB hb
  go_wp2_with fail
  rw [HX.out]
  obtain ⟨x0, x1, _, _⟩ := box_facts HR.out
  exact bodyPost_ret (by simp [results, Tryz.results28, go_sem, x0, x1]; try rfl) rfl ⟨_, rfl, HBX.out, HbX.out⟩

set_option maxRecDepth 100000 in
set_option maxHeartbeats 2000000 in
theorem degree_any (v : Value) (K : List (Int × Int)) (D : Int) (w : World) (h : PbAt w v K D) :
    Calls Tryz.prog 19 #[v] w fun e w' => ∃ r, e = .returned r ∧ BigAt w' r D ∧ RowKit.Below w.heap.size w w' := by
  obtain ⟨a, c, n, q, rfl, _, hB⟩ := h
  have HB : Hid (BigAt w (.agg #[.int .i64 n, .pointer q]) D) := hB
  obtain ⟨W, hW⟩ : ∃ W, (w.alloc (.cells #[.slice a K.length c, .int .i64 n, .pointer q] 35)).alloc (.cells #[.int .i64 0, .pointer none] 33) = W := ⟨_, rfl⟩
  obtain ⟨hO1, hO2, hbW, _⟩ := two_objs w _ _ hW
  have HO2 : Hid (W.heap[w.heap.size + 1]? = some (.cells #[.int .i64 0, .pointer none] 33)) := hO2
  have HbW : Hid (RowKit.Below w.heap.size w W) := hbW
  obtain ⟨k0, k1, k2, _, _, _⟩ := box3_facts hO1
  obtain ⟨m0, m1, m2, m3⟩ := box_facts hO2
  clear hO1 hO2 hbW hB
  go_enter Tryz.func19, Tryz.ntmps19
  go_wp2_with fail
  have hR := box_over HO2.out (.int .i64 n) (.pointer q)
  obtain ⟨x0, x1, _, _⟩ := box_facts hR
  refine bodyPost_ret (by simp [results, Tryz.results19, go_sem, x0, x1]; try rfl) rfl ⟨_, rfl, (HB.out.below HbW.out).setBox HO2.out _ _, ?_⟩
  exact (HbW.out.setCell (p := ⟨w.heap.size + 1, 0, none⟩) (Nat.le_succ _) _).setCell (p := ⟨w.heap.size + 1, 1, none⟩) (Nat.le_succ _) _

set_option maxRecDepth 100000 in
set_option maxHeartbeats 2000000 in
theorem contra_any (v : Value) (K : List (Int × Int)) (D : Int) (w : World) (h : PbAt w v K D) (hn : K.length ≤ 1000000) (hab : (limbs (Pm.absS K)).length ≤ 900000) :
    Calls Tryz.prog 27 #[v] w fun e w' => e = .returned (.bool (decide (Pm.total K < D))) ∧ RowKit.Below w.heap.size w w' := by
  have HP : Hid (PbAt w v K D) := h
  obtain ⟨a, c, n, q, rfl, _, hB⟩ := h
  obtain ⟨W, hW⟩ : ∃ W, w.alloc (.cells #[.slice a K.length c, .int .i64 n, .pointer q] 35) = W := ⟨_, rfl⟩
  obtain ⟨hO1, hbW⟩ := new_obj w _ hW
  have HT : Hid (Calls Tryz.prog 28 #[.agg #[.slice a K.length c, .int .i64 n, .pointer q]] W.drew fun e w' => ∃ r, e = .returned r ∧ BigAt w' r (Pm.total K) ∧ RowKit.Below W.heap.size W w') := by
    refine (total_any _ K D W.drew (HP.out.below hbW.drew) hn hab).mono ?_
    rintro e w' ⟨r, rfl, hB, hb⟩
    exact ⟨r, rfl, hB, (Below.refl W.heap.size W).drew.trans hb⟩
  have HB : Hid (BigAt W (.agg #[.int .i64 n, .pointer q]) D) := hB.below hbW
  have Hl : Hid ((limbs (Pm.total K).natAbs).length ≤ 1000000) := Nat.le_trans (limbs_abs (Pm.sumF_abs _ _) hab) (by decide)
  have HO1 : Hid (W.heap[w.heap.size]? = some (.cells #[.slice a K.length c, .int .i64 n, .pointer q] 35)) := hO1
  have HbW : Hid (RowKit.Below w.heap.size w W) := hbW
  obtain ⟨k0, k1, k2, _, _, _⟩ := box3_facts hO1
  obtain ⟨cc, hcc⟩ : ∃ cc, cmpI (Pm.total K) D = cc := ⟨_, rfl⟩
  have Hcc : Hid (decide (cc < 0) = decide (Pm.total K < D)) := by
    show _ = _
    rw [← hcc]
    rcases Int.lt_trichotomy (Pm.total K) D with h | h | h
    · rw [cmpI_lt h]; simp [h]
    · rw [cmpI_eq (by omega) (by omega)]; simp; omega
    · rw [cmpI_gt h]; simp; omega
  have HC : Hid (∀ w1 r, BigAt w1 r (Pm.total K) → RowKit.Below W.heap.size W w1 → Calls Tryz.prog 30 #[r, .agg #[.int .i64 n, .pointer q]] w1 fun e w' => e = .returned (.int .i64 cc) ∧ RowKit.Below w1.heap.size w1 w') := fun w1 r hr hb => by
    have h := cmp_big (Pm.total K) D r _ w1 hr (HB.out.below hb) Hl.out
    rw [hcc] at h; exact h
  clear hO1 hbW hB hcc hab hn
  go_enter Tryz.func27, Tryz.ntmps27
  go_wp2_with fail
  go_region_with (first | (go_at_call 28; refine calls_at HT.out (by with_reducible rfl) (by with_reducible rfl) ?_; rintro e w1 ⟨r, rfl, hr, hb1⟩; have HR : Hid (BigAt w1 r (Pm.total K)) := hr; have hP1 : w1.heap[w.heap.size]? = some (.cells #[.slice a K.length c, .int .i64 n, .pointer q] 35) := (hb1.block _ (Array.getElem?_eq_some_iff.1 HO1.out).1).trans HO1.out; have Hb1 : Hid (RowKit.Below W.heap.size W w1) := hb1; obtain ⟨g0, g1, g2, _, _, _⟩ := box3_facts hP1; clear hb1 hr hP1) | (go_at_call 30; refine calls_at (HC.out w1 _ HR.out Hb1.out) (by with_reducible rfl) (by with_reducible rfl) ?_; rintro e w2 ⟨rfl, hb2⟩))
  all_goals
    go_wp2
    rw [show decide (cc < 0) = decide (Pm.total K < D) from Hcc.out]
    go_ret
    exact ⟨rfl, HbW.out.trans ((Hb1.out.trans (hb2.mono Hb1.out.size)).mono HbW.out.size)⟩
end Go.Proofs.YtjffbndiecjkjaaGreatDoor

namespace Go.Proofs.YtjffbndiecjkjaaGreatDoor
open Go.Shelf Go.RowKit Go.Lib Go.Sort
open Bn (limbs)

/-- Is a literal true, if fb tells which variables are? -/
def Pm.litT (fb : Nat → Bool) (l : Int) : Bool := fb l.natAbs == decide (0 < l)
/-- Does a row hold? -/
def Pm.holds (fb : Nat → Bool) (K : List (Int × Int)) (D : Int) : Bool := decide (D ≤ Pm.sumF (Pm.litT fb) K)

set_option maxRecDepth 100000 in
set_option maxHeartbeats 2000000 in
theorem istrue_any (l : Int) (hl : IsLit l) (G : Nat) (cap : Array Value) (fb : Nat → Bool) (A : Option Nat) (J : World → Prop) (B P : Nat) (w : World) (hC : Calm B A J) (hJ : J w) (he : Enters Tryz.prog G)
    (hP : w.cell? ⟨P, 0, none⟩ = some (.func (.func G) #[] cap)) (hG : ∀ w', J w' → Calls Tryz.prog G (#[.int .i64 ((l.natAbs : Nat) : Int)] ++ cap) w' fun e w'' => e = .returned (.bool (fb l.natAbs)) ∧ J w'' ∧ w'.grownBy w'' A) :
    Calls Tryz.prog 47 #[.int .i64 l, .pointer (some ⟨P, 0, none⟩)] w fun e w' => e = .returned (.bool (Pm.litT fb l)) ∧ J w' ∧ w.grownBy w' A := by
  have HV : Hid (∀ w', Calls Tryz.prog 48 #[.int .i64 l] w' fun e w'' => e = .returned (.int .i64 ((l.natAbs : Nat) : Int)) ∧ w'' = w') := fun w' => variable_any l w' hl
  have HG : Hid (Calls Tryz.prog G (#[.int .i64 ((l.natAbs : Nat) : Int)] ++ cap) w.drew fun e w'' => e = .returned (.bool (fb l.natAbs)) ∧ J w'' ∧ w.grownBy w'' A) := by
    refine (hG w.drew (hC.below hJ (Below.refl _ _).drew)).mono ?_
    rintro e w' ⟨rfl, h1, h2⟩
    exact ⟨rfl, h1, grown_trans (grown_of_below (Below.refl _ _).drew _) h2⟩
  have HE : Hid (∀ t, fb l.natAbs = t → (t == decide (0 < l)) = Pm.litT fb l) := fun t ht => by unfold Pm.litT; rw [ht]
  generalize Pm.litT fb l = res at *
  obtain ⟨t, ht⟩ : ∃ t, fb l.natAbs = t := ⟨_, rfl⟩
  have hEt := HE.out t ht
  rw [ht] at HG
  generalize ((l.natAbs : Nat) : Int) = v at *
  have HEt : Hid ((t == decide (0 < l)) = res) := hEt
  unfold Enters at he
  clear hG hC hJ HE ht hEt hl
  go_enter Tryz.func47, Tryz.ntmps47
  go_wp2_with fail
  go_region_with (first | (go_at_call 48; refine calls_at (HV.out _) (by with_reducible rfl) (by with_reducible rfl) ?_; rintro e w1 ⟨rfl, rfl⟩) | (go_at_fn G; refine calls_at HG.out (by with_reducible rfl) (by with_reducible rfl) ?_; rintro e w1 ⟨rfl, hj1, hg1⟩))
  all_goals
    go_wp2
    have hEq := HEt.out
    subst hEq
    go_ret
    exact ⟨rfl, hj1, hg1⟩

/-- What is so while a row is asked: the caller's, and the box of the function. -/
abbrev With (J : World → Prop) (P : Nat) (fv : Value) (w : World) : Prop := J w ∧ w.heap[P]? = some (.cells #[fv] 49)

set_option maxRecDepth 100000 in
set_option maxHeartbeats 2000000 in
theorem holds_any (v : Value) (K : List (Int × Int)) (D : Int) (G : Nat) (cap : Array Value) (fb : Nat → Bool) (A : Option Nat) (J : World → Prop) (w : World) (h : PbAt w v K D) (hlit : ∀ p ∈ K, IsLit p.2) (hn : K.length ≤ 1000000) (hab : (limbs (Pm.absS K)).length ≤ 900000)
    (hC : Calm w.heap.size A J) (hJ : J w) (he : Enters Tryz.prog G) (hG : ∀ p ∈ K, ∀ w', J w' → Calls Tryz.prog G (#[.int .i64 ((p.2.natAbs : Nat) : Int)] ++ cap) w' fun e w'' => e = .returned (.bool (fb p.2.natAbs)) ∧ J w'' ∧ w'.grownBy w'' A) :
    Calls Tryz.prog 16 #[v, .func (.func G) #[] cap] w fun e w' => e = .returned (.bool (Pm.holds fb K D)) ∧ J w' ∧ w.grownBy w' A := by
  have HP : Hid (PbAt w v K D) := h
  obtain ⟨a, c, n, q, rfl, _, hB⟩ := h
  obtain ⟨W, hW⟩ : ∃ W, (w.alloc (.cells #[.slice a K.length c, .int .i64 n, .pointer q] 35)).alloc (.cells #[.func (.func G) #[] cap] 49) = W := ⟨_, rfl⟩
  obtain ⟨hO1, hO2, hbW, hzW⟩ := two_objs w _ _ hW
  have hbWd : RowKit.Below w.heap.size w W.drew := hbW.drew
  have hJW : J W.drew := hC.below hJ hbWd
  have hCalm : Calm W.drew.heap.size A (With J (w.heap.size + 1) (.func (.func G) #[] cap)) := by
    have hsz : W.drew.heap.size = w.heap.size + 2 := hzW
    refine ⟨fun w1 w2 P hP hj hg => ⟨hC.own w1 w2 P (by omega) hj.1 hg, (hg.block _ (Array.getElem?_eq_some_iff.1 hj.2).1 (fun e => by injection e with e; omega)).trans hj.2⟩, fun g hg => Nat.lt_of_lt_of_le (hC.lt g hg) hbWd.size, fun w1 w2 hj => hC.big w1 w2 hj.1, fun w1 w2 hj => hC.pi w1 w2 hj.1⟩
  have HT : Hid (Calls Tryz.prog 49 #[.agg #[.slice a K.length c, .int .i64 n, .pointer q], .func (.func 47) #[] #[.pointer (some ⟨w.heap.size + 1, 0, none⟩)]] W.drew fun e w' => ∃ r, e = .returned r ∧ BigAt w' r (Pm.sumF (Pm.litT fb) K) ∧ J w' ∧ W.grownBy w' A) := by
    refine (sum_any _ K D 47 #[.pointer (some ⟨w.heap.size + 1, 0, none⟩)] (Pm.litT fb) A (With J (w.heap.size + 1) (.func (.func G) #[] cap)) W.drew (HP.out.below hbWd) hn hab hCalm ⟨hJW, hO2⟩ (enters_of Tryz.func47 (by kernel_rfl) rfl) (fun p hp w' hj => ?_)).mono ?_
    · refine (istrue_any p.2 (hlit p hp) G cap fb A (With J (w.heap.size + 1) (.func (.func G) #[] cap)) W.drew.heap.size (w.heap.size + 1) w' hCalm hj he (by simp [World.cell?, hj.2]) (fun w2 hj2 => ?_))
      refine (hG p hp w2 hj2.1).mono ?_
      rintro e w3 ⟨rfl, h1, h2⟩
      exact ⟨rfl, ⟨h1, (h2.block _ (Array.getElem?_eq_some_iff.1 hj2.2).1 (fun e => by have := hC.lt _ e.symm; omega)).trans hj2.2⟩, h2⟩
    · rintro e w' ⟨r, rfl, hB, hj, hg⟩
      exact ⟨r, rfl, hB, hj.1, grown_trans (grown_of_below (Below.refl _ _).drew _) hg⟩
  have HB : Hid (∀ w', W.grownBy w' A → BigAt w' (.agg #[.int .i64 n, .pointer q]) D) := fun w' hg => hC.big _ _ hJ (grown_trans (grown_of_below hbW _) hg) _ _ hB
  have HO1 : Hid (W.heap[w.heap.size]? = some (.cells #[.slice a K.length c, .int .i64 n, .pointer q] 35)) := hO1
  have HbW : Hid (RowKit.Below w.heap.size w W) := hbW
  have HC0 : Hid (Calm w.heap.size A J) := hC
  have Hl : Hid ((limbs (Pm.sumF (Pm.litT fb) K).natAbs).length ≤ 1000000) := Nat.le_trans (limbs_abs (Pm.sumF_abs _ _) hab) (by decide)
  obtain ⟨k0, k1, k2, _, _, _⟩ := box3_facts hO1
  obtain ⟨cc, hcc⟩ : ∃ cc, cmpI (Pm.sumF (Pm.litT fb) K) D = cc := ⟨_, rfl⟩
  have Hcc : Hid (decide (0 ≤ cc) = Pm.holds fb K D) := by
    show _ = _
    unfold Pm.holds
    rw [← hcc]
    rcases Int.lt_trichotomy (Pm.sumF (Pm.litT fb) K) D with h | h | h
    · rw [cmpI_lt h]; simp; omega
    · rw [cmpI_eq (by omega) (by omega)]; simp; omega
    · rw [cmpI_gt h]; simp; omega
  have HCm : Hid (∀ w1 r, BigAt w1 r (Pm.sumF (Pm.litT fb) K) → W.grownBy w1 A → Calls Tryz.prog 30 #[r, .agg #[.int .i64 n, .pointer q]] w1 fun e w' => e = .returned (.int .i64 cc) ∧ RowKit.Below w1.heap.size w1 w') := fun w1 r hr hg => by
    have h := cmp_big (Pm.sumF (Pm.litT fb) K) D r _ w1 hr (HB.out w1 hg) Hl.out
    rw [hcc] at h; exact h
  generalize Pm.holds fb K D = res at *
  clear hO1 hO2 hbW hB hcc hab hn hCalm hJW hbWd hC hJ hG he hlit
  go_enter Tryz.func16, Tryz.ntmps16
  go_wp2_with fail
  go_region_with (first | (go_at_call 49; refine calls_at HT.out (by with_reducible rfl) (by with_reducible rfl) ?_; rintro e w1 ⟨r, rfl, hr, hj1, hg1⟩; have HR : Hid (BigAt w1 r (Pm.sumF (Pm.litT fb) K)) := hr; have hP1 : w1.heap[w.heap.size]? = some (.cells #[.slice a K.length c, .int .i64 n, .pointer q] 35) := (hg1.block _ (Array.getElem?_eq_some_iff.1 HO1.out).1 (fun e => by have := HC0.out.lt _ e.symm; omega)).trans HO1.out; have Hg1 : Hid (J w1 ∧ W.grownBy w1 A) := ⟨hj1, hg1⟩; obtain ⟨g0, g1, g2, _, _, _⟩ := box3_facts hP1; clear hg1 hj1 hr hP1) | (go_at_call 30; refine calls_at (HCm.out w1 _ HR.out Hg1.out.2) (by with_reducible rfl) (by with_reducible rfl) ?_; rintro e w2 ⟨rfl, hb2⟩))
  all_goals
    go_wp2
    have hEq := Hcc.out
    subst hEq
    go_ret
    exact ⟨rfl, HC0.out.below Hg1.out.1 hb2, grown_trans (grown_trans (grown_of_below HbW.out _) Hg1.out.2) (grown_of_below hb2 _)⟩
end Go.Proofs.YtjffbndiecjkjaaGreatDoor
