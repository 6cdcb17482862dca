/-
  Put together: PbFew, PbBit.
-/
import Derived.Test.YtjffbndiecjkjaaGreatDoorPbOfs
import Derived.Test.YtjffbndiecjkjaaGreatDoorPbSums
namespace Go.Proofs.YtjffbndiecjkjaaGreatDoor
open Go.Shelf Go.RowKit Go.Lib Go.Sort
open Bn (limbs)

def cnt (left n : Int) : Int := if 0 ≤ left then left - n else left
abbrev CntAt (w : World) (P : Nat) (left : Int) : Prop := w.heap[P]? = some (.cells #[.int .i64 left] 92)
theorem CntAt.facts {w : World} {P : Nat} {left : Int} (h : CntAt w P left) : w.cell? ⟨P, 0, none⟩ = some (.int .i64 left) ∧ w.frozen? ⟨P, 0, none⟩ = false := by
  refine ⟨?_, ?_⟩ <;> simp [World.cell?, World.frozen?, h]
theorem CntAt.set {w : World} {P : Nat} {left : Int} (h : CntAt w P left) (m : Int) : CntAt (w.setCell ⟨P, 0, none⟩ (.int .i64 m)) P m := by simp [CntAt, World.setCell, Array.getElem?_modify, h]
theorem grown_set1 (w : World) (b k : Nat) (u : Value) : w.grownBy (w.setCell ⟨b, k, none⟩ u) (some b) :=
  ⟨rfl, rfl, rfl, by simp [World.setCell], fun j _ hne => Below.heap_setCell _ ⟨b, k, none⟩ u j (fun h => hne (by rw [h]))⟩
theorem wrap_cnt {l n : Int} (h0 : 0 ≤ l) (h1 : l ≤ 3000) (h2 : 0 ≤ n) (h3 : n ≤ 9223372036854775807) : wrap64 (l - n) = l - n ∧ IntKind.i64.wrap (l - n) = l - n := by
  refine ⟨by unfold wrap64; omega, by rw [IntKind.wrap_i64]; omega⟩

set_option maxRecDepth 100000 in
set_option maxHeartbeats 600000 in
theorem cadd_any (P : Nat) (left n : Int) (w : World) (h : CntAt w P left) (h1 : left ≤ 3000) (h2 : 0 ≤ n) (h3 : n ≤ 9223372036854775807) :
    Calls Tryz.prog 95 #[.pointer (some ⟨P, 0, none⟩), .int .i64 n] w fun e w' => (∃ b, e = .returned (.bool b)) ∧ CntAt w' P (cnt left n) ∧ w.grownBy w' (some P) := by
  obtain ⟨c0, f0⟩ := h.facts
  have HC : Hid (CntAt w P left) := h
  by_cases h0 : 0 ≤ left
  · obtain ⟨e1, e2⟩ := wrap_cnt h0 h1 h2 h3
    rw [show cnt left n = left - n from if_pos h0]
    clear h h1 h2 h3
    go_enter Tryz.func95, Tryz.ntmps95
    go_wp2
    go_ret
    exact ⟨⟨_, rfl⟩, HC.out.set _, grown_set1 _ _ _ _⟩
  · rw [show cnt left n = left from if_neg h0]
    clear h h1 h2 h3
    go_enter Tryz.func95, Tryz.ntmps95
    go_wp2
    exact bodyPost_ret (v := .bool false) (by simp [results, Tryz.results95, go_sem]) rfl ⟨.inl rfl, HC.out, grown_of_below (Below.refl _ _) _⟩
theorem cnt_le {l n : Int} (h : l ≤ 3000) (h2 : 0 ≤ n) : cnt l n ≤ 3000 := by unfold cnt; split <;> omega

set_option maxRecDepth 100000 in
set_option maxHeartbeats 600000 in
theorem ctext_any (P : Nat) (left : Int) (s : ByteArray) (w : World) (h : CntAt w P left) (h1 : left ≤ 3000) (h3 : s.size ≤ maxLen) :
    Calls Tryz.prog 67 #[.pointer (some ⟨P, 0, none⟩), .string s] w fun e w' => e = .returned (.tuple #[]) ∧ CntAt w' P (cnt (cnt left 1) s.size) ∧ w.grownBy w' (some P) := by
  have HC : Hid (CntAt w P left) := h
  have Hs : Hid (s.size ≤ 9223372036854775807) := by unfold maxLen at h3; exact h3
  have Hl : Hid (left ≤ 3000) := h1
  clear h h1 h3
  go_enter Tryz.func67, Tryz.ntmps67
  go_wp2_with fail
  refine (cadd_any P left 1 w HC.out Hl.out (by decide) (by decide)).mono ?_
  rintro e w1 ⟨⟨b, rfl⟩, hc1, hg1⟩
  have HC1 : Hid (CntAt w1 P (cnt left 1) ∧ w.grownBy w1 (some P)) := ⟨hc1, hg1⟩
  clear hc1 hg1
  go_wp2_with fail
  refine (cadd_any P (cnt left 1) (s.size : Int) w1 HC1.out.1 (cnt_le Hl.out (by decide)) (by omega) (by have := Hs.out; omega)).mono ?_
  rintro e w2 ⟨⟨b2, rfl⟩, hc2, hg2⟩
  have HC2 : Hid (CntAt w2 P (cnt (cnt left 1) s.size) ∧ w.grownBy w2 (some P)) := ⟨hc2, grown_trans HC1.out.2 hg2⟩
  clear hc2 hg2
  go_wp2_with fail
  go_end0
  exact ⟨rfl, HC2.out.1, HC2.out.2⟩

set_option maxRecDepth 100000 in
set_option maxHeartbeats 600000 in
theorem cok_any (P : Nat) (left : Int) (w : World) (h : CntAt w P left) : Calls Tryz.prog 36 #[.pointer (some ⟨P, 0, none⟩)] w fun e w' => e = .returned (.bool (decide (0 ≤ left))) ∧ w' = w := by
  obtain ⟨c0, f0⟩ := h.facts
  clear h
  go_enter Tryz.func36, Tryz.ntmps36
  go_wp2
  go_ret
  exact ⟨rfl, rfl⟩

/-- How many parts pieces have. -/
def partsN : List (ByteArray × Int) → Nat
  | [] => 0
  | p :: t => 1 + p.1.size + partsN t
theorem partsN_append (a b : List (ByteArray × Int)) : partsN (a ++ b) = partsN a + partsN b := by
  induction a with
  | nil => simp [partsN]
  | cons p a ih => simp only [List.cons_append, partsN, ih]; omega
theorem partsN_next {ls : List (ByteArray × Int)} {k : Nat} {p : ByteArray × Int} (hk : k < ls.length) (hp : ls[k] = p) : partsN (ls.take (k + 1)) = partsN (ls.take k) + (1 + p.1.size) := by
  rw [List.take_succ_eq_append_getElem hk, hp, partsN_append]; simp [partsN]
/-- What is left, as long as something is. -/
def Left (left : Int) (n : Nat) : Prop := left ≤ 3000 ∧ (0 ≤ left → left = 3000 - (n : Int))
theorem Left.text {left : Int} {n k : Nat} (h : Left left n) : Left (cnt (cnt left 1) (k : Int)) (n + (1 + k)) := by
  obtain ⟨h1, h2⟩ := h
  refine ⟨cnt_le (cnt_le h1 (by decide)) (by omega), fun h0 => ?_⟩
  unfold cnt at *
  by_cases h3 : 0 ≤ left
  · rw [if_pos h3] at h0 ⊢
    by_cases h4 : 0 ≤ left - 1
    · rw [if_pos h4] at h0 ⊢
      have := h2 h3
      omega
    · rw [if_neg h4] at h0
      omega
  · rw [if_neg h3, if_neg h3] at h0
    omega

set_option maxRecDepth 100000 in
set_option maxHeartbeats 2000000 in
theorem crow_any (P : Nat) (left : Int) (ls : List (ByteArray × Int)) (pv : Value) (deg : ByteArray) (w : World) (h : CntAt w P left) (hP : P < w.heap.size) (hl : Left left 0) (hA : ∀ w', w.grownBy w' (some P) → ApAt w' pv ls) (hsz : ∀ p ∈ ls, p.1.size ≤ maxLen) (hds : deg.size ≤ maxLen) :
    Calls Tryz.prog 35 #[.pointer (some ⟨P, 0, none⟩), .agg #[pv, .string deg]] w fun e w' => e = .returned (.tuple #[]) ∧ (∃ l, CntAt w' P l ∧ Left l (1 + deg.size + partsN ls) ∨ CntAt w' P l ∧ l < 0) ∧ w.grownBy w' (some P) := by
  obtain ⟨a, c, rfl, hlc, hcm, _⟩ := hA w (grown_of_below (Below.refl _ _) _)
  obtain ⟨N, hN⟩ : ∃ N : Nat, ls.length = N := ⟨_, rfl⟩
  have HN : Hid (ls.length = N) := hN
  have HC : Hid (∀ w', w.grownBy w' (some P) → ∀ k (h : k < ls.length), ∃ b off, a = some ⟨b, off, none⟩ ∧ b < w'.heap.size ∧ w'.cell? ⟨b, off + k * 2, none⟩ = some (.string ls[k].1) ∧ w'.cell? ⟨b, off + k * 2 + 1, none⟩ = some (.int .i64 ls[k].2)) := fun w' hg k hk => by
    obtain ⟨a', c', e, _, _, hc⟩ := hA w' hg
    injection e with e1 _ _
    subst e1
    exact hc k hk
  have Hsz : Hid (∀ p ∈ ls, p.1.size ≤ maxLen) := hsz
  have Hds : Hid (deg.size ≤ maxLen) := hds
  have Hl : Hid (Left left 0) := hl
  have hN63 : N ≤ 9223372036854775807 := by have h1 := hlc; have h2 := hcm; unfold maxLen at h2; omega
  have HcP : Hid (P < w.heap.size) := hP
  rw [hN]
  clear hlc hcm
  obtain ⟨W, hW⟩ : ∃ W, w.alloc (.cells #[.slice a N c, .string deg] 24) = W := ⟨_, rfl⟩
  obtain ⟨hO, hbW⟩ := new_obj w _ hW
  have HO : Hid (W.heap[w.heap.size]? = some (.cells #[.slice a N c, .string deg] 24)) := hO
  obtain ⟨k0, k1, _, _⟩ := box2_facts hO
  have HC0 : Hid (CntAt W P left) := (hbW.block _ hP).trans h
  have HgW : Hid (w.grownBy W (some P)) := grown_of_below hbW _
  clear hN hA hsz hds hl h hO hbW hP
  go_enter Tryz.func35, Tryz.ntmps35
  go_wp2_with fail
  refine (ctext_any P left deg W HC0.out Hl.out.1 Hds.out).mono ?_
  rintro e w1 ⟨rfl, hc1, hg1⟩
  have HL1 : Hid (∃ l, CntAt w1 P l ∧ Left l (1 + deg.size + partsN (ls.take 0))) := ⟨_, hc1, by have := Hl.out.text (k := deg.size); simpa [partsN] using this⟩
  have HG1 : Hid (w.grownBy w1 (some P) ∧ w1.heap[w.heap.size]? = some (.cells #[.slice a N c, .string deg] 24)) := ⟨grown_trans HgW.out hg1, (hg1.block _ (Array.getElem?_eq_some_iff.1 HO.out).1 (by have := HcP.out; simp; omega)).trans HO.out⟩
  clear hc1 hg1 k0 k1 hW
  go_wp2_with fail
  go_loopw [4] (fun iv wr => ∃ (k : Nat), iv = .int .i64 (k : Int) ∧ k ≤ N ∧ Hid (∃ l, CntAt wr P l ∧ Left l (1 + deg.size + partsN (ls.take k))) ∧ Hid (w.grownBy wr (some P) ∧ wr.heap[w.heap.size]? = some (.cells #[.slice a N c, .string deg] 24))) (fun iv _ => N - (intOf iv).toNat)
  case atStart => exact ⟨0, rfl, Nat.zero_le _, HL1, HG1⟩
  case round =>
    obtain ⟨k, rfl, hk, hL, hG⟩ := hrel
    obtain ⟨m0, m1, _, _⟩ := box2_facts hG.out.2
    obtain ⟨l, hcl, hll⟩ := hL.out
    have HCl : Hid (CntAt wr P l) := hcl
    have HLl : Hid (Left l (1 + deg.size + partsN (ls.take k))) := hll
    have HOk : Hid (Calls Tryz.prog 36 #[.pointer (some ⟨P, 0, none⟩)] wr fun e w' => e = .returned (.bool (decide (0 ≤ l))) ∧ w' = wr) := cok_any P l wr hcl
    clear hcl hll hL HL1 HG1
    by_cases hkN : k < N
    · have hkI : (k : Int) < (N : Int) := by omega
      by_cases hl0 : 0 ≤ l
      · rw [decide_eq_true hl0] at HOk
        have hkl : k < ls.length := by have := HN.out; omega
        obtain ⟨b, off, ha, hbl, e0, e1⟩ := HC.out wr hG.out.1 k hkl
        have hzs := Hsz.out _ (List.getElem_mem hkl)
        obtain ⟨p, hp⟩ : ∃ p, ls[k] = p := ⟨_, rfl⟩
        have Hnx := partsN_next hkl hp
        rw [hp] at e0 e1 hzs
        obtain ⟨s, ll⟩ := p
        simp only at e0 e1 hzs Hnx
        subst ha
        have HNx : Hid (partsN (ls.take (k + 1)) = partsN (ls.take k) + (1 + s.size)) := Hnx
        have HTx : Hid (Calls Tryz.prog 67 #[.pointer (some ⟨P, 0, none⟩), .string s] wr fun e w' => e = .returned (.tuple #[]) ∧ CntAt w' P (cnt (cnt l 1) s.size) ∧ wr.grownBy w' (some P)) := ctext_any P l s wr HCl.out HLl.out.1 hzs
        clear Hnx hp hzs e1
        go_wp2_with (first | (go_at_call 36; refine calls_at HOk.out (by with_reducible rfl) (by with_reducible rfl) ?_; rintro e w3 ⟨rfl, hww⟩; rw [hww]) | (go_at_call 67; refine calls_at HTx.out (by with_reducible rfl) (by with_reducible rfl) ?_; rintro e w4 ⟨rfl, hc4, hg4⟩))
        have HL4 : Hid (∃ l, CntAt w4 P l ∧ Left l (1 + deg.size + partsN (ls.take (k + 1)))) := ⟨_, hc4, by have := HLl.out.text (k := s.size); rw [HNx.out, ← Nat.add_assoc]; exact this⟩
        have HG4 : Hid (w.grownBy w4 (some P) ∧ w4.heap[w.heap.size]? = some (.cells #[.slice (some ⟨b, off, none⟩) N c, .string deg] 24)) := ⟨grown_trans hG.out.1 hg4, (hg4.block _ (Array.getElem?_eq_some_iff.1 hG.out.2).1 (by have := HcP.out; simp; omega)).trans hG.out.2⟩
        clear hc4 hg4
        go_wp2_with fail
        go_roundw
        case rel => exact ⟨k + 1, by go_num, by omega, HL4, HG4⟩
        case measure => simp [intOf]; omega
      · rw [decide_eq_false hl0] at HOk
        have hl1 : l < 0 := by omega
        go_wp2_with (go_at_call 36; refine calls_at HOk.out (by with_reducible rfl) (by with_reducible rfl) ?_; rintro e w3 ⟨rfl, hww⟩; rw [hww])
        go_end0
        exact ⟨rfl, ⟨l, .inr ⟨HCl.out, hl1⟩⟩, hG.out.1⟩
    · obtain rfl : k = N := by omega
      have htake : ls.take k = ls := List.take_of_length_le (by have := HN.out; omega)
      rw [htake] at HLl
      go_wp2_with fail
      go_end0
      exact ⟨rfl, ⟨l, .inl ⟨HCl.out, HLl.out⟩⟩, hG.out.1⟩

set_option maxRecDepth 100000 in
set_option maxHeartbeats 600000 in
theorem many_any (n : Int) (w : World) : Calls Tryz.prog 34 #[.int .i64 n] w fun e w' => e = .returned (.pointer (some ⟨w.heap.size, 0, none⟩)) ∧ CntAt w' w.heap.size n ∧ RowKit.Below w.heap.size w w' := by
  go_enter Tryz.func34, Tryz.ntmps34
  go_wp2
  go_ret
  exact ⟨rfl, World.alloc_heap_new w _, (Below.refl _ _).alloc (Nat.le_refl _) _⟩

set_option maxRecDepth 100000 in
set_option maxHeartbeats 2000000 in
theorem few_any (ls : List (ByteArray × Int)) (pv : Value) (deg : ByteArray) (w : World) (hA : ApAt w pv ls) (hsz : ∀ p ∈ ls, p.1.size ≤ maxLen) (hds : deg.size ≤ maxLen) :
    Calls Tryz.prog 8 #[.agg #[pv, .string deg]] w fun e w' => ∃ b, e = .returned (.bool b) ∧ (b = true → 1 + deg.size + partsN ls ≤ 3000) ∧ RowKit.Below w.heap.size w w' := by
  have HA : Hid (ApAt w pv ls) := hA
  have Hsz : Hid (∀ p ∈ ls, p.1.size ≤ maxLen) := hsz
  have Hds : Hid (deg.size ≤ maxLen) := hds
  obtain ⟨a, c, rfl, _, _, _⟩ := hA
  obtain ⟨W, hW⟩ : ∃ W, w.alloc (.cells #[.slice a ls.length c, .string deg] 24) = W := ⟨_, rfl⟩
  obtain ⟨hO, hbW⟩ := new_obj w _ hW
  obtain ⟨k0, k1, _, _⟩ := box2_facts hO
  have HO : Hid (W.heap[w.heap.size]? = some (.cells #[.slice a ls.length c, .string deg] 24)) := hO
  have HbW : Hid (RowKit.Below w.heap.size w W) := hbW
  clear hsz hds hO hbW
  go_enter Tryz.func8, Tryz.ntmps8
  go_wp2_with fail
  refine (many_any 3000 W).mono ?_
  rintro e w1 ⟨rfl, hc1, hb1⟩
  have hQ1 := (hb1.block _ (Array.getElem?_eq_some_iff.1 HO.out).1).trans HO.out
  obtain ⟨g0, g1, _, _⟩ := box2_facts hQ1
  have HC1 : Hid (CntAt w1 W.heap.size 3000) := hc1
  have HB1 : Hid (RowKit.Below w.heap.size w w1) := HbW.out.trans (hb1.mono HbW.out.size)
  have HR : Hid (Calls Tryz.prog 35 #[.pointer (some ⟨W.heap.size, 0, none⟩), .agg #[.slice a ls.length c, .string deg]] w1 fun e w' => e = .returned (.tuple #[]) ∧ (∃ l, CntAt w' W.heap.size l ∧ Left l (1 + deg.size + partsN ls) ∨ CntAt w' W.heap.size l ∧ l < 0) ∧ w1.grownBy w' (some W.heap.size)) :=
    crow_any W.heap.size 3000 ls _ deg w1 hc1 (Array.getElem?_eq_some_iff.1 hc1).1 ⟨by decide, fun _ => by simp⟩ (fun w' hg => HA.out.below (below_of_grown HB1.out hg HB1.out.size HbW.out.size)) Hsz.out Hds.out
  clear hc1 hb1 hQ1 k0 k1
  go_wp2_with fail
  refine HR.out.mono ?_
  rintro e w2 ⟨rfl, ⟨l, hl⟩, hg2⟩
  have HB2 : Hid (RowKit.Below w.heap.size w w2) := below_of_grown HB1.out hg2 HB1.out.size HbW.out.size
  have HC2 : Hid (CntAt w2 W.heap.size l) := by rcases hl with h | h <;> exact h.1
  have HF : Hid (decide (0 ≤ l) = true → 1 + deg.size + partsN ls ≤ 3000) := fun h0 => by
    have h1 := of_decide_eq_true h0
    rcases hl with h | h
    · have := h.2.2 h1
      omega
    · omega
  clear hl hg2 g0 g1
  obtain ⟨b0, hb0⟩ : ∃ b, decide (0 ≤ l) = b := ⟨_, rfl⟩
  have HOk : Hid (Calls Tryz.prog 36 #[.pointer (some ⟨W.heap.size, 0, none⟩)] w2 fun e w' => e = .returned (.bool b0) ∧ w' = w2) := by
    have h := cok_any W.heap.size l w2 HC2.out
    rw [hb0] at h; exact h
  rw [hb0] at HF
  clear hb0
  go_wp2_with (go_at_call 36; refine calls_at HOk.out (by with_reducible rfl) (by with_reducible rfl) ?_; rintro e w3 ⟨rfl, hww⟩; rw [hww])
  exact bodyPost_ret (v := .bool b0) (by simp [results, Tryz.results8, go_sem]) rfl ⟨b0, rfl, HF.out, HB2.out⟩
end Go.Proofs.YtjffbndiecjkjaaGreatDoor

namespace Go.Proofs.YtjffbndiecjkjaaGreatDoor
open Go.Shelf Go.RowKit Go.Lib Go.Sort
open Bn (limbs)

/-- The bit of the first piece of a variable. -/
def bitAt : List (Int × Int) → Nat → Nat → Nat → Bool
  | [], _, _, _ => false
  | p :: t, n, v, i => if p.2.natAbs = v then decide (n / 2 ^ i % 2 = 1) else bitAt t n v (i + 1)
theorem bit_at {K : List (Int × Int)} {k n v : Nat} (hk : k < K.length) : bitAt (K.drop k) n v k = if K[k].2.natAbs = v then decide (n / 2 ^ k % 2 = 1) else bitAt (K.drop (k + 1)) n v (k + 1) := by
  rw [List.drop_eq_getElem_cons hk]; rfl

theorem bit_eq (n k : Nat) : (((n : Int) / 2 ^ k).tmod 2 == 1) = decide (n / 2 ^ k % 2 = 1) := by
  have h1 : ((n : Int) / 2 ^ k) = ((n / 2 ^ k : Nat) : Int) := by simp
  rw [h1]
  generalize n / 2 ^ k = m
  rw [Int.tmod_eq_emod_of_nonneg (by omega)]
  by_cases h : m % 2 = 1
  · have h2 : (m : Int) % 2 = 1 := by omega
    simp [h2, h]
  · have h2 : ¬ (m : Int) % 2 = 1 := by omega
    rw [decide_eq_false h, beq_eq_false_iff_ne.2 h2]

set_option maxRecDepth 100000 in
set_option maxHeartbeats 2000000 in
theorem isn_any (v n P Q : Nat) (K : List (Int × Int)) (u : Value) (s : ByteArray) (w : World) (hv : 1 ≤ v) (hv2 : v ≤ 1073741824) (hK : K.length ≤ 12) (hlit : ∀ p ∈ K, IsLit p.2) (hP : w.heap[P]? = some (.cells #[u, .string s] 24)) (hA : ApAt w u (tells K)) (hQ : w.heap[Q]? = some (.cells #[.int .i64 (n : Int)] 3)) :
    Calls Tryz.prog 31 #[.int .i64 (v : Int), .pointer (some ⟨P, 0, none⟩), .pointer (some ⟨Q, 0, none⟩)] w fun e w' => e = .returned (.bool (bitAt K n v 0)) ∧ w' = w := by
  have hlen : (tells K).length = K.length := by unfold tells; rw [List.length_map]
  obtain ⟨a, c, rfl, hlc, hcm, hcell⟩ := hA
  obtain ⟨N, hN⟩ : ∃ N : Nat, K.length = N := ⟨_, rfl⟩
  rw [hlen] at hP hlc
  have HC : Hid (∀ k (h : k < K.length), ∃ b off, a = some ⟨b, off, none⟩ ∧ w.cell? ⟨b, off + k * 2 + 1, none⟩ = some (.int .i64 K[k].2)) := fun k hk => by
    obtain ⟨b, off, ha, _, _, c1⟩ := hcell k (by rw [hlen]; exact hk)
    exact ⟨b, off, ha, by rw [c1]; simp [tells]⟩
  rw [hN] at hP hlc hK
  have HN : Hid (K.length = N) := hN
  have Hlit : Hid (∀ p ∈ K, IsLit p.2) := hlit
  obtain ⟨p0, p1, _, _⟩ := box2_facts hP
  have q0 : w.cell? ⟨Q, 0, none⟩ = some (.int .i64 (n : Int)) := by simp [World.cell?, hQ]
  obtain ⟨res, hres⟩ : ∃ r, bitAt K n v 0 = r := ⟨_, rfl⟩
  have Hres : Hid (bitAt K n v 0 = res) := hres
  rw [hres]
  have hwv : wrap64 (-(v : Int)) = -(v : Int) := by unfold wrap64; omega
  have hwv2 : IntKind.i64.wrap (-(v : Int)) = -(v : Int) := by rw [IntKind.wrap_i64]; omega
  clear hN hlit hP hQ hcell hlen hres hcm
  go_enter Tryz.func31, Tryz.ntmps31
  go_wp2_with fail
  go_loopw [5] (fun iv wr => ∃ (k : Nat), iv = .int .i64 (k : Int) ∧ k ≤ N ∧ w = wr ∧ Hid (bitAt (K.drop k) n v k = res)) (fun iv _ => N - (intOf iv).toNat)
  case atStart => exact ⟨0, rfl, Nat.zero_le _, rfl, Hres⟩
  case round =>
    obtain ⟨k, rfl, hk, hww, hB⟩ := hrel
    subst hww
    by_cases hkN : k < N
    · have hkI : (k : Int) < (N : Int) := by omega
      have hkl : k < K.length := by have := HN.out; omega
      obtain ⟨b, off, ha, c1⟩ := HC.out k hkl
      have hnx := bit_at (n := n) (v := v) hkl
      have hll := Hlit.out _ (List.getElem_mem hkl)
      obtain ⟨p, hp⟩ : ∃ p, K[k] = p := ⟨_, rfl⟩
      rw [hp] at c1 hnx hll
      obtain ⟨z, l⟩ := p
      simp only at c1 hnx hll
      subst ha
      by_cases hl : l.natAbs = v
      · rw [if_pos hl] at hnx
        have Hr : Hid (decide (n / 2 ^ k % 2 = 1) = res) := hnx.symm.trans hB.out
        clear hnx hB hp
        by_cases hpos : l = (v : Int)
        · subst hpos
          go_wp2_with fail
          have hr := Hr.out
          rw [← bit_eq] at hr
          subst hr
          go_ret
          exact ⟨rfl, rfl⟩
        · have hneg : l = -(v : Int) := by omega
          subst hneg
          have hb1 : ((-(v : Int)) == (v : Int)) = false := beq_eq_false_iff_ne.2 (by omega)
          clear hpos hl
          go_wp2_with fail
          have hr := Hr.out
          rw [← bit_eq] at hr
          subst hr
          go_ret
          exact ⟨rfl, rfl⟩
      · rw [if_neg hl] at hnx
        have HB2 : Hid (bitAt (K.drop (k + 1)) n v (k + 1) = res) := hnx.symm.trans hB.out
        have hb1 : (l == (v : Int)) = false := beq_eq_false_iff_ne.2 (by omega)
        have hb2 : (l == -(v : Int)) = false := beq_eq_false_iff_ne.2 (by omega)
        clear hnx hB hp hl
        go_wp2_with fail
        go_roundw
        case rel => exact ⟨k + 1, by go_num, by omega, (by first | rfl | trivial), HB2⟩
        case measure => simp [intOf]; omega
    · obtain rfl : k = N := by omega
      have hd : K.drop k = [] := List.drop_eq_nil_of_le (by have := HN.out; omega)
      rw [hd] at hB
      have hr : false = res := hB.out
      subst hr
      go_wp2_with fail
      go_ret
      exact ⟨rfl, rfl⟩
end Go.Proofs.YtjffbndiecjkjaaGreatDoor
