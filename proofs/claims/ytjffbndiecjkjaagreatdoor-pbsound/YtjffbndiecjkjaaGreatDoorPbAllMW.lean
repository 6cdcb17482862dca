/-
  Put together: PbAllM, PbAllW.
-/
import Derived.Test.YtjffbndiecjkjaaGreatDoorPbFewBit
import Derived.Test.YtjffbndiecjkjaaGreatDoorPbNegate
import Derived.Test.YtjffbndiecjkjaaGreatDoorPbSums
import Derived.Test.YtjffbndiecjkjaaGreatDoorPbKnowns
namespace Go.Proofs.YtjffbndiecjkjaaGreatDoor
open Go.Shelf Go.RowKit Go.Lib Go.Sort
open Bn (limbs)

theorem absS_filter (ps : List (Int × Int)) (v : Nat) : Pm.absS ps = Pm.absS (ps.filter fun p => p.2.natAbs == v) + Pm.absS (ps.filter fun p => !(p.2.natAbs == v)) := by
  induction ps with
  | nil => rfl
  | cons p t ih =>
    cases h : p.2.natAbs == v <;> simp only [List.filter_cons, h, Pm.absS] <;> simp [Pm.absS] <;> omega
theorem net_filter (ps : List (Int × Int)) (v : Nat) : Pm.net ps v = Pm.net (ps.filter fun p => p.2.natAbs == v) v := by
  induction ps with
  | nil => rfl
  | cons p t ih =>
    cases h : p.2.natAbs == v
    · have h1 : ¬ p.2.natAbs = v := by simpa using h
      simp only [List.filter_cons, h, Pm.net, Pm.netP, if_neg h1, ih]; simp
    · simp only [List.filter_cons, h, Pm.net, ih]; simp [Pm.net]
theorem net_other (ps : List (Int × Int)) (v u : Nat) (h : u ≠ v) : Pm.net ps u = Pm.net (ps.filter fun p => !(p.2.natAbs == v)) u := by
  induction ps with
  | nil => rfl
  | cons p t ih =>
    cases h2 : p.2.natAbs == v
    · simp only [List.filter_cons, h2, Pm.net, ih]; simp [Pm.net]
    · have h1 : p.2.natAbs = v := by simpa using h2
      have h3 : ¬ p.2.natAbs = u := by omega
      simp only [List.filter_cons, h2, Pm.net, Pm.netP, if_neg h3, ih]; simp
theorem net_abs (ps : List (Int × Int)) (v : Nat) : (Pm.net ps v).natAbs ≤ Pm.absS ps := by
  induction ps with
  | nil => simp [Pm.net]
  | cons p t ih =>
    simp only [Pm.net, Pm.netP, Pm.absS]
    split
    · split <;> omega
    · omega
/-- The one form has no greater numbers than what was written. -/
theorem form_abs : ∀ (K ps : List (Int × Int)), Pm.Rises K → Pm.Sound K → (∀ p ∈ K, Pm.net ps p.2.natAbs = Pm.net K p.2.natAbs) → Pm.absS K ≤ Pm.absS ps
  | [], _, _, _, _ => Nat.zero_le _
  | p :: t, ps, hr, hs, hn => by
    have h1 := hn p (by simp)
    rw [Pm.net_head hr] at h1
    have hp := (hs p (by simp)).1
    have h2 := net_abs (ps.filter fun q => q.2.natAbs == p.2.natAbs) p.2.natAbs
    rw [← net_filter, h1] at h2
    have h3 : p.1.natAbs ≤ Pm.absS (ps.filter fun q => q.2.natAbs == p.2.natAbs) := by
      split at h2 <;> omega
    have h4 := form_abs t (ps.filter fun q => !(q.2.natAbs == p.2.natAbs)) hr.tail (fun q hq => hs q (List.mem_cons_of_mem _ hq)) (fun q hq => by
      have hlt := hr.above q hq
      rw [← net_other ps p.2.natAbs q.2.natAbs (by omega), hn q (List.mem_cons_of_mem _ hq)]
      simp only [Pm.net, Pm.netP]
      rw [if_neg (by omega)]; omega)
    rw [absS_filter ps p.2.natAbs]
    simp only [Pm.absS]
    omega

theorem parse_len (l : List UInt8) : (limbs ((parseZ l).getD 0).natAbs).length ≤ l.length := by
  unfold parseZ
  split
  · rename_i h
    simp only [Option.getD_some]
    rw [sg_abs, Bn.limbs_length_le]
    have hd : (digitsOf l).all isDig = true := by
      rcases h with h | h
      · subst h; rfl
      · exact sizeB_all h
    have h1 := dval_lt _ hd
    have h2 := digitsOf_le l
    have h3 : 10 ^ (digitsOf l).length ≤ 10 ^ l.length := Nat.pow_le_pow_right (by decide) h2
    have h4 : 10 ^ l.length ≤ 1000000000 ^ l.length := Nat.pow_le_pow_left (by decide) _
    omega
  · simp [Bn.limbs_zero]
/-- How great the numbers of a row of few parts are. -/
theorem parts_abs (ls : List (ByteArray × Int)) : Pm.absS (ofPs ls) < 1000000000 ^ (partsN ls + 1) := by
  induction ls with
  | nil => decide
  | cons p t ih =>
    have h1 := (Bn.limbs_length_le _ _).1 (parse_len p.1.data.toList)
    have e : p.1.data.toList.length = p.1.size := by simp
    rw [e] at h1
    simp only [ofPs, List.map_cons, Pm.absS, partsN] at *
    have h2 : (1000000000 : Nat) ^ p.1.size ≤ 1000000000 ^ (p.1.size + (partsN t + 1)) := Nat.pow_le_pow_right (by decide) (by omega)
    have h3 : (1000000000 : Nat) ^ (partsN t + 1) ≤ 1000000000 ^ (p.1.size + (partsN t + 1)) := Nat.pow_le_pow_right (by decide) (by omega)
    have h4 : (1000000000 : Nat) ^ (1 + p.1.size + partsN t + 1) = 1000000000 * 1000000000 ^ (p.1.size + (partsN t + 1)) := by
      rw [show 1 + p.1.size + partsN t + 1 = (p.1.size + (partsN t + 1)) + 1 by omega, Nat.pow_succ]; omega
    rw [h4]
    omega
theorem parts_len {ls : List (ByteArray × Int)} {k : Nat} (h : partsN ls + 1 ≤ k) : (limbs (Pm.absS (ofPs ls))).length ≤ k := by
  rw [Bn.limbs_length_le]
  exact Nat.lt_of_lt_of_le (parts_abs ls) (Nat.pow_le_pow_right (by decide) (by omega))
theorem parts_count (ls : List (ByteArray × Int)) : ls.length ≤ partsN ls := by
  induction ls with
  | nil => simp
  | cons p t ih => simp only [List.length_cons, partsN]; omega
theorem parts_size {ls : List (ByteArray × Int)} {p : ByteArray × Int} (h : p ∈ ls) : p.1.size ≤ partsN ls := by
  induction ls with
  | nil => cases h
  | cons q t ih =>
    simp only [partsN]
    rcases List.mem_cons.1 h with rfl | h
    · omega
    · have := ih h; omega

theorem lit_turned (fb : Nat → Bool) (l : Int) (h : l ≠ 0) : Pm.litT fb (-l) = !(Pm.litT fb l) := by
  unfold Pm.litT
  rw [Int.natAbs_neg]
  by_cases h1 : 0 < l
  · rw [decide_eq_true h1, decide_eq_false (by omega)]; cases fb l.natAbs <;> rfl
  · rw [decide_eq_false h1, decide_eq_true (by omega)]; cases fb l.natAbs <;> rfl
theorem sum_turned (fb : Nat → Bool) (K : List (Int × Int)) (hs : Pm.Sound K) : Pm.sumF (Pm.litT fb) (Pm.turned K) = Pm.total K - Pm.sumF (Pm.litT fb) K := by
  induction K with
  | nil => simp [Pm.turned, Pm.sumF, Pm.total]
  | cons p t ih =>
    have h1 := ih (fun q hq => hs q (List.mem_cons_of_mem _ hq))
    simp only [Pm.turned, Pm.total] at h1
    simp only [Pm.turned, List.map_cons, Pm.sumF, Pm.total, lit_turned fb p.2 (hs p (by simp)).2, h1]
    cases Pm.litT fb p.2 <;> simp <;> omega
theorem sum_le (f : Int → Bool) (K : List (Int × Int)) (hs : Pm.Sound K) : 0 ≤ Pm.sumF f K ∧ Pm.sumF f K ≤ Pm.total K := by
  induction K with
  | nil => simp [Pm.sumF, Pm.total]
  | cons p t ih =>
    have h1 := ih (fun q hq => hs q (List.mem_cons_of_mem _ hq))
    have h2 := (hs p (by simp)).1
    simp only [Pm.total] at h1
    simp only [Pm.sumF, Pm.total, if_true]
    split <;> omega
/-- A row or its negation, never both. -/
theorem neg_holds (fb : Nat → Bool) (K : List (Int × Int)) (D : Int) (hs : Pm.Sound K) : Pm.holds fb (Pm.turned K) (max 0 (Pm.total K - D + 1)) = !(Pm.holds fb K D) := by
  unfold Pm.holds
  rw [sum_turned fb K hs]
  have h := sum_le (Pm.litT fb) K hs
  by_cases h1 : D ≤ Pm.sumF (Pm.litT fb) K
  · rw [decide_eq_true h1, decide_eq_false (by omega)]; rfl
  · rw [decide_eq_false h1, decide_eq_true (by omega)]; rfl

def someB (a : Nat → Bool) : Nat → Bool
  | 0 => false
  | n + 1 => someB a n || a n
theorem someB_iff (a : Nat → Bool) (n : Nat) : someB a n = true ↔ ∃ m, m < n ∧ a m = true := by
  induction n with
  | zero => simp [someB]
  | succ n ih =>
    simp only [someB, Bool.or_eq_true, ih]
    constructor
    · rintro (⟨m, h1, h2⟩ | h)
      · exact ⟨m, by omega, h2⟩
      · exact ⟨n, by omega, h⟩
    · rintro ⟨m, h1, h2⟩
      rcases Nat.lt_or_ge m n with h | h
      · exact .inl ⟨m, h, h2⟩
      · have : m = n := by omega
        subst this; exact .inr h2
/-- The number that makes all literals true. -/
def nst : List (Int × Int) → Nat
  | [] => 0
  | p :: t => (if 0 < p.2 then 1 else 0) + 2 * nst t
theorem nst_lt (K : List (Int × Int)) : nst K < 2 ^ K.length := by
  induction K with
  | nil => simp [nst]
  | cons p t ih => simp only [nst, List.length_cons, Nat.pow_succ]; split <;> omega
theorem nst_bit (K : List (Int × Int)) (i : Nat) (h : i < K.length) : (nst K / 2 ^ i % 2 = 1) ↔ 0 < K[i].2 := by
  induction K generalizing i with
  | nil => simp at h
  | cons p t ih =>
    cases i with
    | zero => simp only [nst, Nat.pow_zero, Nat.div_one, List.getElem_cons_zero]; split <;> omega
    | succ i =>
      have h1 := ih i (by simpa using h)
      simp only [List.getElem_cons_succ, ← h1, Nat.pow_succ]
      rw [Nat.mul_comm, ← Nat.div_div_eq_div_mul]
      have h2 : nst (p :: t) / 2 = nst t := by simp only [nst]; split <;> omega
      rw [h2]
theorem bit_of (K : List (Int × Int)) (n : Nat) (hr : Pm.Rises K) : ∀ (j i : Nat) (h : j + i < K.length), bitAt (K.drop j) n (K[j + i].2.natAbs) j = decide (n / 2 ^ (j + i) % 2 = 1) := by
  intro j i
  induction i generalizing j with
  | zero =>
    intro h
    have h' : j < K.length := h
    simp only [Nat.add_zero]
    rw [bit_at h']; simp
  | succ i ih =>
    intro h
    have hj : j < K.length := by omega
    rw [bit_at hj]
    have hlt : K[j].2.natAbs < K[j + (i + 1)].2.natAbs := by
      have hd : Pm.Rises (K.drop j) := by
        clear ih h hj
        induction j generalizing K with
        | zero => exact hr
        | succ j ih =>
          cases K with
          | nil => trivial
          | cons p t => exact ih t hr.tail
      rw [List.drop_eq_getElem_cons hj] at hd
      refine hd.above _ ?_
      have : K[j + (i + 1)] = (K.drop (j + 1))[i]'(by rw [List.length_drop]; omega) := by rw [List.getElem_drop]; congr 1; omega
      rw [this]; exact List.getElem_mem _
    rw [if_neg (by omega)]
    have h2 := ih (j + 1) (by omega)
    have e : j + 1 + i = j + (i + 1) := by omega
    simp only [e] at h2
    exact h2
theorem sum_all (f : Int → Bool) (K : List (Int × Int)) (h : ∀ p ∈ K, f p.2 = true) : Pm.sumF f K = Pm.total K := by
  induction K with
  | nil => rfl
  | cons p t ih =>
    have h1 := ih (fun q hq => h q (List.mem_cons_of_mem _ hq))
    simp only [Pm.total] at h1
    simp only [Pm.sumF, Pm.total, h p (by simp), if_true, h1]
/-- Some assignment makes a row hold just if it is no contradiction. -/
theorem some_all (K : List (Int × Int)) (D : Int) (hr : Pm.Rises K) (hs : Pm.Sound K) : someB (fun n => Pm.holds (fun v => bitAt K n v 0) K D) (2 ^ K.length) = !(decide (Pm.total K < D)) := by
  by_cases h : Pm.total K < D
  · rw [decide_eq_true h]
    cases h1 : someB (fun n => Pm.holds (fun v => bitAt K n v 0) K D) (2 ^ K.length) with
    | false => rfl
    | true =>
      obtain ⟨m, _, h3⟩ := (someB_iff _ _).1 h1
      have h4 := of_decide_eq_true h3
      have := (sum_le (Pm.litT fun v => bitAt K m v 0) K hs).2
      omega
  · rw [decide_eq_false h]
    refine (someB_iff _ _).2 ⟨nst K, nst_lt K, decide_eq_true ?_⟩
    rw [sum_all]
    · omega
    · intro p hp
      obtain ⟨i, hi, rfl⟩ := List.getElem_of_mem hp
      have h1 := bit_of K (nst K) hr 0 i (by omega)
      simp only [Nat.zero_add, List.drop_zero] at h1
      unfold Pm.litT
      simp only [h1]
      have h2 := nst_bit K i hi
      by_cases h3 : 0 < K[i].2
      · rw [decide_eq_true h3, decide_eq_true (h2.2 h3)]; rfl
      · rw [decide_eq_false h3, decide_eq_false (fun e => h3 (h2.1 e))]; rfl
theorem limbs_three {a b c k : Nat} (ha : (limbs a).length ≤ k) (hb : (limbs b).length ≤ k) (hc : (limbs c).length ≤ k) : (limbs (a + b + c)).length ≤ k + 1 := by
  rw [Bn.limbs_length_le] at *
  rw [Nat.pow_succ]
  omega
/-- The numbers of the one form of a row. -/
theorem form_sizes {ps K : List (Int × Int)} {d D : Int} {k : Nat} (h : Pm.IsForm ps d K D) (h1 : (limbs (Pm.absS ps)).length ≤ k) (h2 : (limbs d.natAbs).length ≤ k) : (limbs (Pm.absS K)).length ≤ k ∧ (limbs D.natAbs).length ≤ k + 1 ∧ 0 ≤ D := by
  have hK := form_abs K ps h.rises h.sound (fun p _ => (h.net _).symm)
  have hKl : (limbs (Pm.absS K)).length ≤ k := Nat.le_trans (limbs_len_monoP hK) h1
  refine ⟨hKl, Nat.le_trans (limbs_len_monoP ?_) (limbs_three h2 h1 hKl), by rw [h.deg]; omega⟩
  have e1 := Pm.neg_abs ps
  have e2 := Pm.neg_abs K
  rw [h.deg]
  omega
end Go.Proofs.YtjffbndiecjkjaaGreatDoor

namespace Go.Proofs.YtjffbndiecjkjaaGreatDoor
open Go.Shelf Go.RowKit Go.Lib Go.Sort
open Bn (limbs)

theorem turned_abs (K : List (Int × Int)) : Pm.absS (Pm.turned K) = Pm.absS K := by
  induction K with
  | nil => rfl
  | cons p t ih => simp only [Pm.turned, List.map_cons, Pm.absS] at *; rw [ih]
theorem turned_mem {K : List (Int × Int)} {p : Int × Int} (h : p ∈ Pm.turned K) : ∃ q ∈ K, p.2 = -q.2 := by
  obtain ⟨q, hq, rfl⟩ := List.mem_map.1 h
  exact ⟨q, hq, rfl⟩
theorem shift_one {N : Nat} (h : N ≤ 12) : ∃ M : Nat, 2 ^ N = M ∧ M ≤ 4096 ∧ wrap64 ((2 : Int) ^ N) = (M : Int) := by
  refine ⟨2 ^ N, rfl, Nat.le_trans (Nat.pow_le_pow_right (by decide) h) (by decide), ?_⟩
  have h1 : 2 ^ N ≤ 2 ^ 12 := Nat.pow_le_pow_right (by decide) h
  have h2 : ((2 : Int) ^ N) = ((2 ^ N : Nat) : Int) := by simp
  rw [h2]
  generalize 2 ^ N = M at *
  unfold wrap64
  omega

theorem cell_new {w : World} {B : Nat} {x : Value} {t : TypeId} (h : w.heap[B]? = some (.cells #[x] t)) : w.cell? ⟨B, 0, none⟩ = some x := by simp [World.cell?, h]

/-- A number in a box. -/
def memN (pv : Value) (w : World) : Nat := match pv with
  | .pointer (some a) => (match w.cell? a with
    | some (.int _ n) => n.toNat
    | _ => 0)
  | _ => 0
theorem memN_at {w : World} {Q n : Nat} (h : w.cell? ⟨Q, 0, none⟩ = some (.int .i64 (n : Int))) : memN (.pointer (some ⟨Q, 0, none⟩)) w = n := by simp [memN, h]
theorem calm_below (w : World) : Calm w.heap.size none (fun w' => RowKit.Below w.heap.size w w') :=
  ⟨fun _ _ _ hP hj hg => below_of_grown hj hg hj.size hP, (fun g h => by cases h), fun _ _ _ h _ _ hB => hB.below (below_of_none h), fun _ _ _ h _ _ hB => hB.below (below_of_none h)⟩

set_option maxRecDepth 100000 in
set_option maxHeartbeats 4000000 in
theorem pbAll_walk (ls : List (ByteArray × Int)) (pv : Value) (deg : ByteArray) (w : World) (hA : ApAt w pv ls) (hsz : ∀ p ∈ ls, p.1.size ≤ maxLen) (hds : deg.size ≤ maxLen) (ht : Tab w) :
    Calls Tryz.prog 6 #[.agg #[pv, .string deg]] w fun e w' => e = .returned (.bool true) ∧ RowKit.Below w.heap.size w w' := by
  have HA : Hid (ApAt w pv ls) := hA
  have Hsz : Hid (∀ p ∈ ls, p.1.size ≤ maxLen) := hsz
  have Hds : Hid (deg.size ≤ maxLen) := hds
  have HT : Hid (Tab w) := ht
  obtain ⟨a, c, rfl, _, _, _⟩ := hA
  obtain ⟨N0, hN0⟩ : ∃ N, ls.length = N := ⟨_, rfl⟩
  have HAv : Hid (ApAt w (.slice a N0 c) ls) := by rw [← hN0]; exact HA.out
  rw [hN0]
  obtain ⟨W, hW⟩ : ∃ W, w.alloc (.cells #[.slice a N0 c, .string deg] 24) = W := ⟨_, rfl⟩
  obtain ⟨hO, hbW⟩ := new_obj w _ hW
  have HO : Hid (W.heap[w.heap.size]? = some (.cells #[.slice a N0 c, .string deg] 24)) := hO
  have HB : Hid (RowKit.Below w.heap.size w W) := hbW
  clear hsz hds ht hO hbW hN0 HA
  go_enter Tryz.func6, Tryz.ntmps6
  go_wp2_with fail
  refine (known_any W (HT.out.under HB.out)).mono ?_
  rintro e w1 ⟨rfl, hb⟩
  have HB : Hid (RowKit.Below w.heap.size w w1) := HB.out.trans (hb.mono HB.out.size)
  have HO : Hid (w1.heap[w.heap.size]? = some (.cells #[.slice a N0 c, .string deg] 24)) := (hb.block _ (Array.getElem?_eq_some_iff.1 HO.out).1).trans HO.out
  obtain ⟨k0, k1, _, _⟩ := box2_facts HO.out
  clear hb hW
  go_wp2_with fail
  refine (few_any ls _ deg w1 (HAv.out.below HB.out) Hsz.out Hds.out).mono ?_
  rintro e w2 ⟨b, rfl, hf, hb⟩
  have HB : Hid (RowKit.Below w.heap.size w w2) := HB.out.trans (hb.mono HB.out.size)
  have HO : Hid (w2.heap[w.heap.size]? = some (.cells #[.slice a N0 c, .string deg] 24)) := (hb.block _ (Array.getElem?_eq_some_iff.1 HO.out).1).trans HO.out
  obtain ⟨m0, m1, _, _⟩ := box2_facts HO.out
  clear hb k0 k1
  cases b with
  | false =>
    go_wp2_with fail
    go_ret
    exact ⟨rfl, HB.out⟩
  | true =>
    have hf := hf rfl
    have Hp : Hid (1 + deg.size + partsN ls ≤ 3000) := hf
    have hlab : (limbs (Pm.absS (ofPs ls))).length ≤ 3001 := parts_len (by omega)
    have hlde : (limbs ((parseZ deg.data.toList).getD 0).natAbs).length ≤ 3000 := Nat.le_trans (parse_len _) (by simp; omega)
    have HOf : Hid (Calls Tryz.prog 10 #[.agg #[.slice a N0 c, .string deg]] w2 (OfOut w2 ls deg)) := of_row ls _ deg w2 (HAv.out.below HB.out) (by have := parts_count ls; omega) (fun p hp => by have := parts_size hp; omega) (by omega) (by omega) (by omega)
    have Hla : Hid ((limbs (Pm.absS (ofPs ls))).length ≤ 3001 ∧ (limbs ((parseZ deg.data.toList).getD 0).natAbs).length ≤ 3000) := ⟨hlab, hlde⟩
    clear hf hlab hlde
    go_wp2_with fail
    refine HOf.out.mono ?_
    rintro e w3 ⟨r, K, D, rfl, hpb, hlit, hlen, hb, hform, hno⟩
    have HB : Hid (RowKit.Below w.heap.size w w3) := HB.out.trans (hb.mono HB.out.size)
    obtain ⟨er, her⟩ : ∃ er, ofErr ls deg = er := ⟨_, rfl⟩
    rw [her] at hform hno ⊢
    have hp' := hpb
    obtain ⟨a3, c3, n3, q3, rfl, _, _⟩ := hp'
    obtain ⟨NK, hNK⟩ : ∃ N, K.length = N := ⟨_, rfl⟩
    rw [hNK] at hpb ⊢
    obtain ⟨V3, hV3⟩ : ∃ V, w3.alloc (.cells #[.slice a3 NK c3, .int .i64 n3, .pointer q3] 35) = V := ⟨_, rfl⟩
    obtain ⟨hO3, hb3⟩ := new_obj w3 _ hV3
    have HB : Hid (RowKit.Below w.heap.size w V3) := HB.out.trans (hb3.mono HB.out.size)
    have HX : Hid (PbAt V3 (.agg #[.slice a3 NK c3, .int .i64 n3, .pointer q3]) K D) := hpb.below hb3
    have HO3 : Hid (V3.heap[w3.heap.size]? = some (.cells #[.slice a3 NK c3, .int .i64 n3, .pointer q3] 35)) := hO3
    obtain ⟨x0, x1, x2, _, _, _⟩ := box3_facts hO3
    have Hlit : Hid (∀ p ∈ K, IsLit p.2) := hlit
    have HNK : Hid (K.length = NK ∧ NK ≤ 3000) := ⟨hNK, by have := Hp.out; have := parts_count ls; omega⟩
    have HFm : Hid (er = 0 → Pm.IsForm (ofPs ls) ((parseZ deg.data.toList).getD 0) K D) := hform
    -- the sizes of the form
    have HSz : Hid ((limbs (Pm.absS K)).length ≤ 3001 ∧ (limbs D.natAbs).length ≤ 3002 ∧ Pm.Rises K ∧ Pm.Sound K) := by
      by_cases h0 : er = 0
      · have hF := hform h0
        have hs := form_sizes hF Hla.out.1 (Nat.le_trans Hla.out.2 (by decide))
        exact ⟨hs.1, hs.2.1, hF.rises, hF.sound⟩
      · obtain ⟨rfl, rfl⟩ := hno h0
        exact ⟨by simp [Pm.absS, Bn.limbs_zero], by simp [Bn.limbs_zero], trivial, (fun _ h => by cases h)⟩
    clear hpb hlit hlen hb hform hno her hNK hO3 hb3 HO m0 m1 HOf
    have HPl : Hid (Calls Tryz.prog 13 #[.agg #[.slice a3 NK c3, .int .i64 n3, .pointer q3]] V3 fun e w' => ∃ u, e = .returned (.agg #[u, .string (txt D)]) ∧ ApAt w' u (tells K) ∧ RowKit.Below V3.heap.size V3 w') := plain_any _ K D V3 HX.out (by have := HNK.out; omega) (fun p hp => Nat.le_trans (limbs_abs (Pm.absS_mem hp) HSz.out.1) (by decide)) (Nat.le_trans HSz.out.2.1 (by decide)) (HT.out.under HB.out)
    go_wp2_with fail
    refine HPl.out.mono ?_
    rintro e w4 ⟨u4, rfl, hA4, hb⟩
    have HB : Hid (RowKit.Below w.heap.size w w4) := HB.out.trans (hb.mono HB.out.size)
    have hA4' := hA4
    obtain ⟨a4, c4, rfl, _, _, _⟩ := hA4'
    have hlt : (tells K).length = NK := by unfold tells; rw [List.length_map]; exact HNK.out.1
    rw [hlt] at hA4 ⊢
    obtain ⟨s4, hs4⟩ : ∃ s, txt D = s := ⟨_, rfl⟩
    rw [hs4]
    obtain ⟨V4, hV4⟩ : ∃ V, w4.alloc (.cells #[.slice a4 NK c4, .string s4] 24) = V := ⟨_, rfl⟩
    obtain ⟨hO4, hb4⟩ := new_obj w4 _ hV4
    have HB : Hid (RowKit.Below w.heap.size w V4) := HB.out.trans (hb4.mono HB.out.size)
    have HA4 : Hid (ApAt V4 (.slice a4 NK c4) (tells K)) := hA4.below hb4
    have HO4 : Hid (V4.heap[w4.heap.size]? = some (.cells #[.slice a4 NK c4, .string s4] 24)) := hO4
    have HX : Hid (PbAt V4 (.agg #[.slice a3 NK c3, .int .i64 n3, .pointer q3]) K D) := (HX.out.below hb).below hb4
    have HO3 : Hid (V4.heap[w3.heap.size]? = some (.cells #[.slice a3 NK c3, .int .i64 n3, .pointer q3] 35)) := by
      have h := (hb.block _ (Array.getElem?_eq_some_iff.1 HO3.out).1).trans HO3.out
      exact (hb4.block _ (Array.getElem?_eq_some_iff.1 h).1).trans h
    obtain ⟨y0, y1, _, _⟩ := box2_facts hO4
    obtain ⟨z0, z1, z2, _, _, _⟩ := box3_facts HO3.out
    have HNu : Hid (∀ w', Calls Tryz.prog 11 #[.int .i64 er] w' fun e w'' => e = .returned (.int .i64 er) ∧ w'' = w') := fun w' => num_any er w'
    clear hA4 hb hlt hs4 hO4 hb4 x0 x1 x2 HPl hV3
    by_cases her : er = 0
    · have hb0 : (er != 0) = false := by simp [her]
      by_cases h12 : NK ≤ 12
      · have hI12 : ¬ (12 : Int) < (NK : Int) := by omega
        have HNg : Hid (Calls Tryz.prog 26 #[.agg #[.slice a3 NK c3, .int .i64 n3, .pointer q3]] V4 fun e w' => ∃ r, e = .returned r ∧ PbAt w' r (Pm.turned K) (max 0 (Pm.total K - D + 1)) ∧ RowKit.Below V4.heap.size V4 w') := negate_any _ K D V4 HX.out Hlit.out (by have := HNK.out; omega) (Nat.le_trans HSz.out.1 (by decide)) (Nat.le_trans HSz.out.2.1 (by decide)) (by
          have h1 := limbs_three (a := (Pm.total K).natAbs) (b := D.natAbs) (c := 0) (k := 3002) (Nat.le_trans (limbs_abs (Pm.sumF_abs _ _) HSz.out.1) (by decide)) HSz.out.2.1 (by simp [Bn.limbs_zero])
          exact Nat.le_trans (limbs_len_monoP (by omega)) (Nat.le_trans h1 (by decide)))
        clear her
        go_wp2_with (first | (go_at_call 11; refine calls_at (HNu.out _) (by with_reducible rfl) (by with_reducible rfl) ?_; rintro e w5 ⟨rfl, hww⟩; rw [hww]) | (go_at_call 26; refine calls_at HNg.out (by with_reducible rfl) (by with_reducible rfl) ?_; rintro e w6 ⟨r6, rfl, hp6, hb6⟩; obtain ⟨a6, c6, n6, q6, rfl, _, _⟩ := id hp6))
        have hlT : (Pm.turned K).length = NK := by unfold Pm.turned; rw [List.length_map]; exact HNK.out.1
        rw [hlT] at hp6 ⊢
        obtain ⟨X0, hX0⟩ : ∃ V, w6.alloc (.cells #[.slice a6 NK c6, .int .i64 n6, .pointer q6] 35) = V := ⟨_, rfl⟩
        obtain ⟨hO6, hb7⟩ := new_obj w6 _ hX0
        have HB : Hid (RowKit.Below w.heap.size w X0) := HB.out.trans ((hb6.trans (hb7.mono hb6.size)).mono HB.out.size)
        have hb8 : RowKit.Below V4.heap.size V4 X0 := hb6.trans (hb7.mono hb6.size)
        have HY6 : Hid (PbAt X0 (.agg #[.slice a6 NK c6, .int .i64 n6, .pointer q6]) (Pm.turned K) (max 0 (Pm.total K - D + 1))) := hp6.below hb7
        have HX : Hid (PbAt X0 (.agg #[.slice a3 NK c3, .int .i64 n3, .pointer q3]) K D) := HX.out.below hb8
        have HA4 : Hid (ApAt X0 (.slice a4 NK c4) (tells K)) := HA4.out.below hb8
        have HO3 : Hid (X0.heap[w3.heap.size]? = some (.cells #[.slice a3 NK c3, .int .i64 n3, .pointer q3] 35)) := (hb8.block _ (Array.getElem?_eq_some_iff.1 HO3.out).1).trans HO3.out
        have HO4 : Hid (X0.heap[w4.heap.size]? = some (.cells #[.slice a4 NK c4, .string s4] 24)) := (hb8.block _ (Array.getElem?_eq_some_iff.1 HO4.out).1).trans HO4.out
        have HO6 : Hid (X0.heap[w6.heap.size]? = some (.cells #[.slice a6 NK c6, .int .i64 n6, .pointer q6] 35)) := hO6
        rw [hX0]
        obtain ⟨X1, hX1⟩ : ∃ V, X0.alloc (.cells #[.int .i64 0] 3) = V := ⟨_, rfl⟩
        obtain ⟨hO7, hb9⟩ := new_obj X0 _ hX1
        rw [hX1]
        have hsz0 : X0.heap.size = w6.heap.size + 1 := by rw [← hX0]; simp
        have HQ0 : Hid (X1.heap[w6.heap.size + 1]? = some (.cells #[.int .i64 ((0 : Nat) : Int)] 3)) := by show _ = _; rw [← hsz0]; exact hO7
        have HQl0 : Hid (X0.heap.size ≤ w6.heap.size + 1) := Nat.le_of_eq hsz0
        have HB0 : Hid (RowKit.Below X0.heap.size X0 X1) := hb9
        obtain ⟨M, hM, hM4, hsh⟩ := shift_one h12
        have HM : Hid (2 ^ NK = M) := hM
        have H12 : Hid (NK ≤ 12) := h12
        obtain ⟨fA, hfA⟩ : ∃ f : Nat → Bool, f = fun n => Pm.holds (fun v => bitAt K n v 0) K D := ⟨_, rfl⟩
        have HfA : Hid (∀ n, fA n = Pm.holds (fun v => bitAt K n v 0) K D) := fun n => by rw [hfA]
        have Hend : Hid (someB fA M = !(decide (Pm.total K < D))) := by
          show _ = _
          rw [hfA, ← hM, ← HNK.out.1]
          exact some_all K D HSz.out.2.2.1 HSz.out.2.2.2
        clear hlT hp6 hb6 hb7 hb8 hb9 hO6 hO7 hX0 hX1 y0 y1 z0 z1 z2 hV4 HNg HNu hb0 hI12 hsz0 hM hfA h12
        go_loopw [7, 8] (fun sv pv wr => ∃ (n Q : Nat), sv = .bool (someB fA n) ∧ pv = .pointer (some ⟨Q, 0, none⟩) ∧ n ≤ M ∧ Hid (wr.heap[Q]? = some (.cells #[.int .i64 (n : Int)] 3)) ∧ Hid (X0.heap.size ≤ Q) ∧ Hid (RowKit.Below X0.heap.size X0 wr)) (fun _ pv wr => M - memN pv wr)
        case atStart => exact ⟨0, _, rfl, rfl, Nat.zero_le _, HQ0, HQl0, HB0⟩
        case round =>
          obtain ⟨n, Q, rfl, rfl, hn, hQ, hQl, hBr⟩ := hrel
          clear HQ0 HB0 HQl0
          have q0 : wr.cell? ⟨Q, 0, none⟩ = some (.int .i64 (n : Int)) := by simp [World.cell?, hQ.out]
          have hmem := memN_at q0
          have HO4r : Hid (wr.heap[w4.heap.size]? = some (.cells #[.slice a4 NK c4, .string s4] 24)) := (hBr.out.block _ (Array.getElem?_eq_some_iff.1 HO4.out).1).trans HO4.out
          have HO3r : Hid (wr.heap[w3.heap.size]? = some (.cells #[.slice a3 NK c3, .int .i64 n3, .pointer q3] 35)) := (hBr.out.block _ (Array.getElem?_eq_some_iff.1 HO3.out).1).trans HO3.out
          have HO6r : Hid (wr.heap[w6.heap.size]? = some (.cells #[.slice a6 NK c6, .int .i64 n6, .pointer q6] 35)) := (hBr.out.block _ (Array.getElem?_eq_some_iff.1 HO6.out).1).trans HO6.out
          obtain ⟨y0, y1, _, _⟩ := box2_facts HO4r.out
          obtain ⟨z0, z1, z2, _, _, _⟩ := box3_facts HO3r.out
          by_cases hnM : n < M
          · have hnI : (n : Int) < (M : Int) := by omega
            have HIs : Hid (∀ w', RowKit.Below wr.heap.size wr w' → ∀ l, IsLit l → Calls Tryz.prog 31 (#[.int .i64 ((l.natAbs : Nat) : Int)] ++ #[.pointer (some ⟨w4.heap.size, 0, none⟩), .pointer (some ⟨Q, 0, none⟩)]) w' fun e w'' => e = .returned (.bool (bitAt K n l.natAbs 0)) ∧ w'' = w') := fun w' hb l hl => by
              refine isn_any l.natAbs n w4.heap.size Q K _ s4 w' (by have := hl.1; omega) (by have := hl.2; omega) (by have := HNK.out; have := H12.out; omega) Hlit.out ((hb.block _ (Array.getElem?_eq_some_iff.1 HO4r.out).1).trans HO4r.out) ((HA4.out.below hBr.out).below hb) ((hb.block _ (Array.getElem?_eq_some_iff.1 hQ.out).1).trans hQ.out)
            have HH1 : Hid (Calls Tryz.prog 16 #[.agg #[.slice a3 NK c3, .int .i64 n3, .pointer q3], .func (.func 31) #[] #[.pointer (some ⟨w4.heap.size, 0, none⟩), .pointer (some ⟨Q, 0, none⟩)]] wr fun e w' => e = .returned (.bool (fA n)) ∧ RowKit.Below wr.heap.size wr w') := by
              have h := holds_any _ K D 31 #[.pointer (some ⟨w4.heap.size, 0, none⟩), .pointer (some ⟨Q, 0, none⟩)] (fun v => bitAt K n v 0) none (fun w' => RowKit.Below wr.heap.size wr w') wr (HX.out.below hBr.out) Hlit.out (by have := HNK.out; omega) (Nat.le_trans HSz.out.1 (by decide)) (calm_below wr) (Below.refl _ _) (enters_of Tryz.func31 (by kernel_rfl) rfl) (fun p hp w' hj => by
                refine (HIs.out w' hj p.2 (Hlit.out p hp)).mono ?_
                rintro e w'' ⟨rfl, rfl⟩
                exact ⟨rfl, hj, grown_of_below (Below.refl _ _) _⟩)
              refine h.mono ?_
              rintro e w' ⟨rfl, hj, _⟩
              exact ⟨by rw [HfA.out], hj⟩
            have HH2 : Hid (∀ w5, RowKit.Below wr.heap.size wr w5 → Calls Tryz.prog 16 #[.agg #[.slice a6 NK c6, .int .i64 n6, .pointer q6], .func (.func 31) #[] #[.pointer (some ⟨w4.heap.size, 0, none⟩), .pointer (some ⟨Q, 0, none⟩)]] w5 fun e w' => e = .returned (.bool (!(fA n))) ∧ RowKit.Below w5.heap.size w5 w') := fun w5 hb5 => by
              have h := holds_any _ (Pm.turned K) (max 0 (Pm.total K - D + 1)) 31 #[.pointer (some ⟨w4.heap.size, 0, none⟩), .pointer (some ⟨Q, 0, none⟩)] (fun v => bitAt K n v 0) none (fun w' => RowKit.Below w5.heap.size w5 w') w5 ((HY6.out.below hBr.out).below hb5) (fun p hp => by
                obtain ⟨q, hq, e⟩ := turned_mem hp
                have := Hlit.out q hq
                rw [e]; exact ⟨by have := this.1; omega, by have := this.2; omega, by have := this.2; omega⟩) (by have := HNK.out; simp [Pm.turned]; omega) (by rw [turned_abs]; exact Nat.le_trans HSz.out.1 (by decide)) (calm_below w5) (Below.refl _ _) (enters_of Tryz.func31 (by kernel_rfl) rfl) (fun p hp w' hj => by
                obtain ⟨q, hq, e⟩ := turned_mem hp
                have hq' := Hlit.out q hq
                refine (HIs.out w' (hb5.trans (hj.mono hb5.size)) p.2 (by rw [e]; exact ⟨by have := hq'.1; omega, by have := hq'.2; omega, by have := hq'.2; omega⟩)).mono ?_
                rintro e w'' ⟨rfl, rfl⟩
                exact ⟨rfl, hj, grown_of_below (Below.refl _ _) _⟩)
              refine h.mono ?_
              rintro e w' ⟨rfl, hj, _⟩
              exact ⟨by rw [HfA.out, neg_holds _ _ _ HSz.out.2.2.2], hj⟩
            have HsN : Hid (someB fA (n + 1) = (someB fA n || fA n)) := rfl
            generalize someB fA n = sB at *
            generalize fA n = fB at *
            clear hn HIs
            cases fB <;> cases sB
            all_goals
              go_wp2_with (first | (go_at_call 16; refine calls_at HH1.out (by with_reducible rfl) (by with_reducible rfl) ?_; rintro e w7 ⟨rfl, hb7⟩; have HB7 : Hid (RowKit.Below wr.heap.size wr w7) := hb7; obtain ⟨g0, g1, g2, _, _, _⟩ := box3_facts ((hb7.block _ (Array.getElem?_eq_some_iff.1 HO6r.out).1).trans HO6r.out); clear hb7) | (go_at_call 16; refine calls_at (HH2.out w7 HB7.out) (by with_reducible rfl) (by with_reducible rfl) ?_; rintro e w8 ⟨rfl, hb8⟩; have HB8 : Hid (RowKit.Below wr.heap.size wr w8) := HB7.out.trans (hb8.mono HB7.out.size); have q8 := (HB8.out.cell (p := ⟨Q, 0, none⟩) (Array.getElem?_eq_some_iff.1 hQ.out).1).trans q0; clear hb8))
              have hnew := World.alloc_heap_new w8 (.cells #[.int .i64 ((n : Int) + 1)] 3)
              have hbn : RowKit.Below X0.heap.size X0 w8 := hBr.out.trans (HB8.out.mono hBr.out.size)
              have hcast : ((n + 1 : Nat) : Int) = (n : Int) + 1 := by omega
              refine ⟨⟨n + 1, w8.heap.size, by rw [show someB fA (n + 1) = _ from HsN.out]; rfl, rfl, by omega, by show _ = _; rw [hcast]; exact hnew, hbn.size, hbn.alloc hbn.size _⟩, ?_⟩
              rw [memN_at (n := n + 1) (by rw [hcast]; exact cell_new hnew), hmem]
              omega
          · obtain rfl : n = M := by omega
            have hnI : ¬ (n : Int) < (n : Int) := by omega
            have HCo : Hid (Calls Tryz.prog 27 #[.agg #[.slice a3 NK c3, .int .i64 n3, .pointer q3]] wr fun e w' => e = .returned (.bool (decide (Pm.total K < D))) ∧ RowKit.Below wr.heap.size wr w') := contra_any _ K D wr (HX.out.below hBr.out) (by have := HNK.out; omega) (Nat.le_trans HSz.out.1 (by decide))
            rw [Hend.out]
            generalize decide (Pm.total K < D) = cB at *
            cases cB
            all_goals
              go_wp2_with (go_at_call 27; refine calls_at HCo.out (by with_reducible rfl) (by with_reducible rfl) ?_; rintro e w9 ⟨rfl, hb9⟩)
              go_ret
              exact ⟨rfl, HB.out.trans ((hBr.out.trans (hb9.mono hBr.out.size)).mono HB.out.size)⟩
      · have hI12 : (12 : Int) < (NK : Int) := by omega
        clear her
        go_wp2_with (go_at_call 11; refine calls_at (HNu.out _) (by with_reducible rfl) (by with_reducible rfl) ?_; rintro e w5 ⟨rfl, hww⟩; rw [hww])
        go_ret
        exact ⟨rfl, HB.out⟩
    · have hb0 : (er != 0) = true := by simp [her]
      clear her
      go_wp2_with (go_at_call 11; refine calls_at (HNu.out _) (by with_reducible rfl) (by with_reducible rfl) ?_; rintro e w5 ⟨rfl, hww⟩; rw [hww])
      go_ret
      exact ⟨rfl, HB.out⟩
end Go.Proofs.YtjffbndiecjkjaaGreatDoor
