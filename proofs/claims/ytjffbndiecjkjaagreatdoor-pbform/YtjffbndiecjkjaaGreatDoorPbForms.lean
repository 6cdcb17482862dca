/-
  Put together: PbFormM, PbFormW.
-/
import Derived.Test.YtjffbndiecjkjaaGreatDoorPbSaid
import Derived.Test.YtjffbndiecjkjaaGreatDoorThere
import Derived.Test.YtjffbndiecjkjaaGreatDoorPbAllMW
namespace Go.Proofs.YtjffbndiecjkjaaGreatDoor
open Go.Shelf Go.RowKit Go.Lib Go.Sort
open Bn (limbs)

/-- What the told variables give, those below b. -/
def gives (fb : Nat → Bool) (g : Nat → Int) : Nat → Int
  | 0 => 0
  | n + 1 => gives fb g n + (if fb n then g n else 0)
theorem gives_zero (fb : Nat → Bool) (b : Nat) : gives fb (fun _ => 0) b = 0 := by
  induction b with
  | zero => rfl
  | succ n ih => simp [gives, ih]
theorem gives_add (fb : Nat → Bool) (g h : Nat → Int) (b : Nat) : gives fb (fun v => g v + h v) b = gives fb g b + gives fb h b := by
  induction b with
  | zero => rfl
  | succ n ih => simp only [gives, ih]; split <;> omega
theorem gives_one (fb : Nat → Bool) (p : Int × Int) (b : Nat) : gives fb (Pm.netP p) b = if p.2.natAbs < b ∧ fb p.2.natAbs = true then (if p.2 < 0 then -p.1 else p.1) else 0 := by
  induction b with
  | zero => simp [gives]
  | succ n ih =>
    simp only [gives, ih, Pm.netP]
    by_cases h : p.2.natAbs = n
    · subst h
      have h1 : ¬ (p.2.natAbs < p.2.natAbs ∧ fb p.2.natAbs = true) := by omega
      rw [if_neg h1, if_pos rfl]
      cases hf : fb p.2.natAbs
      · simp
      · simp
    · have h1 : (p.2.natAbs < n + 1 ∧ fb p.2.natAbs = true) ↔ (p.2.natAbs < n ∧ fb p.2.natAbs = true) := by
        constructor
        · rintro ⟨a, c⟩; exact ⟨by omega, c⟩
        · rintro ⟨a, c⟩; exact ⟨by omega, c⟩
      simp only [h1, if_neg h]
      split <;> simp
theorem sum_gives (fb : Nat → Bool) (ps : List (Int × Int)) (b : Nat) (h : ∀ p ∈ ps, p.2 ≠ 0 ∧ p.2.natAbs < b) : Pm.sumF (Pm.litT fb) ps = Pm.neg ps + gives fb (Pm.net ps) b := by
  induction ps with
  | nil => simp [Pm.sumF, Pm.neg, Pm.net, gives_zero]
  | cons p t ih =>
    have hp := h p (List.mem_cons_self ..)
    have e1 : Pm.net (p :: t) = fun v => Pm.netP p v + Pm.net t v := by funext v; rfl
    rw [e1, gives_add, gives_one]
    have ih := ih (fun q hq => h q (List.mem_cons_of_mem _ hq))
    simp only [Pm.sumF, Pm.neg, ih, Pm.negP, Pm.litT]
    by_cases h0 : p.2 < 0
    · have hd : ¬ 0 < p.2 := by omega
      rcases Bool.eq_false_or_eq_true (fb p.2.natAbs) with hf | hf <;> simp only [hf, hp.2, h0, hd] <;> simp <;> omega
    · have hd : 0 < p.2 := by have := hp.1; omega
      rcases Bool.eq_false_or_eq_true (fb p.2.natAbs) with hf | hf <;> simp only [hf, hp.2, h0, hd] <;> simp <;> omega
theorem lits_below (ps : List (Int × Int)) : ∃ b, ∀ p ∈ ps, p.2.natAbs < b := by
  induction ps with
  | nil => exact ⟨0, fun _ h => by cases h⟩
  | cons p t ih =>
    obtain ⟨b, hb⟩ := ih
    refine ⟨max b (p.2.natAbs + 1), fun q hq => ?_⟩
    rcases List.mem_cons.1 hq with rfl | hq
    · omega
    · have := hb q hq; omega
theorem form_holds (fb : Nat → Bool) {ps K : List (Int × Int)} {d D : Int} (h : Pm.IsForm ps d K D) (hps : ∀ p ∈ ps, p.2 ≠ 0) : Pm.holds fb K D = decide (d ≤ Pm.sumF (Pm.litT fb) ps) := by
  obtain ⟨b1, h1⟩ := lits_below ps
  obtain ⟨b2, h2⟩ := lits_below K
  have e1 := sum_gives fb ps (max b1 b2) (fun p hp => ⟨hps p hp, by have := h1 p hp; omega⟩)
  have e2 := sum_gives fb K (max b1 b2) (fun p hp => ⟨(h.sound p hp).2, by have := h2 p hp; omega⟩)
  have e3 : Pm.net K = Pm.net ps := funext h.net
  rw [e3] at e2
  have hs := (sum_le (Pm.litT fb) K h.sound).1
  have hD := h.deg
  unfold Pm.holds
  apply decide_eq_decide.2
  omega
theorem form_self {K : List (Int × Int)} {D : Int} (hr : Pm.Rises K) (hs : Pm.Sound K) (hD : 0 ≤ D) : Pm.IsForm K D K D := ⟨hr, hs, fun _ => rfl, by omega⟩
theorem parse_txt (z : Int) : parseZ (txt z).data.toList = some z := by
  unfold txt
  simpa using parse_of_text z
theorem ps_tells (K : List (Int × Int)) : ofPs (tells K) = K := by
  unfold ofPs tells
  rw [List.map_map]
  conv => rhs; rw [← List.map_id K]
  apply List.map_congr_left
  intro p _
  simp [parse_txt]
theorem err_tells (K : List (Int × Int)) (D : Int) (h : ∀ p ∈ K, IsLit p.2) : ofErr (tells K) (txt D) = 0 := by
  have hE : ofE (tells K) = 0 := by
    induction K with
    | nil => rfl
    | cons p t ih =>
      have := ih (fun q hq => h q (List.mem_cons_of_mem _ hq))
      unfold tells at this ⊢
      simp only [List.map_cons, ofE, parse_txt, Option.isSome_some, if_true, if_pos (h p (List.mem_cons_self ..)), this]
  unfold ofErr
  rw [if_pos hE, parse_txt]
  rfl
theorem digits_le : ∀ (k u : Nat), 0 < k → u < 10 ^ k → Lib.nDigits u ≤ k
  | 0, _, h, _ => absurd h (by decide)
  | k + 1, u, _, h => by
    by_cases hu : u < 10
    · rw [Lib.nDigits_small hu]; omega
    · rw [Lib.nDigits_big hu]
      have hk : 0 < k := by
        rcases Nat.eq_zero_or_pos k with rfl | h0
        · simp at h; omega
        · exact h0
      have := digits_le k (u / 10) hk (by rw [Nat.pow_succ] at h; omega)
      omega
/-- A number's text is no longer than nine signs a limb and a sign. -/
theorem txt_size {z : Int} {k : Nat} (hk : 0 < k) (h : (limbs z.natAbs).length ≤ k) : (txt z).size ≤ 9 * k + 1 := by
  rw [Bn.limbs_length_le] at h
  have h10 : z.natAbs < 10 ^ (9 * k) := by
    rw [Nat.pow_mul]
    simpa using h
  have hl := digits_le (9 * k) z.natAbs (by omega) h10
  unfold txt
  rw [size_mk]
  unfold Lib.itoa
  split
  · rw [List.length_cons, Lib.decDigits_length]; omega
  · rw [Lib.decDigits_length, show z.toNat = z.natAbs by omega]; omega
end Go.Proofs.YtjffbndiecjkjaaGreatDoor

namespace Go.Proofs.YtjffbndiecjkjaaGreatDoor
open Go.Shelf Go.RowKit Go.Lib Go.Sort
open Bn (limbs)

/-- What came in, in its boxes. -/
structure Came (w : World) (a : Option Addr) (N c : Nat) (deg : ByteArray) (oa : Option Addr) (M oc : Nat) (wr : World) : Prop where
  row : wr.heap[w.heap.size]? = some (.cells #[.slice a N c, .string deg] 24)
  of : wr.heap[w.heap.size + 1]? = some (.cells #[.slice oa M oc] 25)
  rest : RowKit.Below w.heap.size w wr
theorem Came.below {w : World} {a : Option Addr} {N c : Nat} {deg : ByteArray} {oa : Option Addr} {M oc : Nat} {wr w' : World} (h : Came w a N c deg oa M oc wr) (hb : RowKit.Below wr.heap.size wr w') : Came w a N c deg oa M oc w' :=
  ⟨(hb.block _ (Array.getElem?_eq_some_iff.1 h.row).1).trans h.row, (hb.block _ (Array.getElem?_eq_some_iff.1 h.of).1).trans h.of, h.rest.trans (hb.mono h.rest.size)⟩
theorem Came.cells {w : World} {a : Option Addr} {N c : Nat} {deg : ByteArray} {oa : Option Addr} {M oc : Nat} {wr : World} (h : Came w a N c deg oa M oc wr) : wr.cell? ⟨w.heap.size, 0, none⟩ = some (.slice a N c) ∧ wr.cell? ⟨w.heap.size, 1, none⟩ = some (.string deg) ∧ wr.cell? ⟨w.heap.size + 1, 0, none⟩ = some (.slice oa M oc) := by
  refine ⟨?_, ?_, ?_⟩
  · simp [World.cell?, h.row]
  · simp [World.cell?, h.row]
  · simp [World.cell?, h.of]

theorem rises_at : ∀ (K : List (Int × Int)) (k : Nat), Pm.Rises K → ∀ h : k + 1 < K.length, K[k].2.natAbs < K[k + 1].2.natAbs
  | [], _, _, h => absurd h (by simp)
  | p :: t, 0, hr, h => by
    have := hr.above (t[0]'(by simpa using h)) (List.getElem_mem _)
    simpa using this
  | p :: t, k + 1, hr, h => by
    have := rises_at t k hr.tail (by simpa using h)
    simpa using this
/-- The list of the row's own variables, as it grows in box Q. -/
structure FoAt (V : World) (own : List Int) (wr : World) : Prop where
  box : ∃ v, wr.heap[V.heap.size]? = some (.cells #[v] 25) ∧ wr.ownsRow (V.heap.size + 1) 3 1 v own.length (own.map (.int .i64 ·))
  rest : RowKit.Below V.heap.size V wr
theorem FoAt.below {V : World} {own : List Int} {wr w' : World} (h : FoAt V own wr) (hb : RowKit.Below wr.heap.size wr w') : FoAt V own w' := by
  obtain ⟨v, h1, h2⟩ := h.box
  exact ⟨⟨v, (hb.block _ (Array.getElem?_eq_some_iff.1 h1).1).trans h1, ownsRow_below h2 hb⟩, h.rest.trans (hb.mono h.rest.size)⟩

theorem FoAt.next {V : World} {own : List Int} {w8 w' : World} {vo v' : Value} {y : Int} (hr : RowKit.Below V.heap.size V w8) (hlt : V.heap.size < w8.heap.size) (h1 : w8.heap[V.heap.size]? = some (.cells #[vo] 25)) (h2 : w8.ownsRow (V.heap.size + 1) 3 1 vo own.length (own.map (.int .i64 ·)))
    (ho : w'.ownsRow (V.heap.size + 1) 3 1 v' (own.length + 1) (own.map (.int .i64 ·) ++ [.int .i64 y])) (hg : (w8.alloc (.cells #[.int .i64 y] 3)).grownBy w' vo.ownBlock) :
    w'.heap[V.heap.size]? = some (.cells #[vo] 25) ∧ FoAt V (own ++ [y]) (w'.setCell ⟨V.heap.size, 0, none⟩ v') := by
  have hb0 : RowKit.Below w8.heap.size w8 (w8.alloc (.cells #[.int .i64 y] 3)) := (Below.refl _ _).alloc (Nat.le_refl _) _
  have hne : ∀ g, vo.ownBlock = some g → V.heap.size + 1 ≤ g := fun g e => (h2.lt g e).1
  have hQ : w'.heap[V.heap.size]? = some (.cells #[vo] 25) := (hg.block _ (Nat.lt_of_lt_of_le hlt hb0.size) (fun e => by have := hne _ e.symm; omega)).trans ((hb0.block _ hlt).trans h1)
  have hbl : RowKit.Below V.heap.size V w' := (hr.trans (hb0.mono hr.size)).grown hg (Nat.le_trans hr.size hb0.size) (fun g e => by have := hne g e; omega)
  refine ⟨hQ, ⟨v', ?_, ?_⟩, hbl.setCell (p := ⟨V.heap.size, 0, none⟩) (Nat.le_refl _) _⟩
  · simp [World.setCell, Array.getElem?_modify, hQ]
  · rw [List.length_append, List.map_append]
    obtain ⟨l1, l2⟩ := ho
    refine ⟨l1, ?_⟩
    rcases l2 with l2 | ⟨g, cap, cur, hv, hgb, hc, r⟩
    · exact .inl l2
    · exact .inr ⟨g, cap, cur, hv, hgb, (Below.heap_setCell _ ⟨V.heap.size, 0, none⟩ _ g (by show g ≠ V.heap.size; omega)).trans hc, r⟩

theorem PbAt.bit {w w' : World} {v : Value} {K : List (Int × Int)} {D : Int} {g : Nat} {d : Bool} (h : PbAt w v K D) (hB : BitAt w g d) (hg : w.grownBy w' (some g)) : PbAt w' v K D := by
  obtain ⟨a, c, n, q, hv, hp, hb⟩ := h
  exact ⟨a, c, n, q, hv, hp.bit hB hg, hb.bit hB hg⟩
theorem InAt.of_owns {w : World} {base : Nat} {v : Value} {l : List Int} (h : w.ownsRow base 3 1 v l.length (l.map (.int .i64 ·))) : InAt w v l := by
  obtain ⟨_, h2⟩ := h
  rcases h2 with ⟨rfl, h0⟩ | ⟨g, cap, cur, rfl, _, hc, hle, hcm, hsz, htk⟩
  · exact ⟨none, 0, by rw [h0], by omega, by decide, fun k hk => absurd hk (by omega)⟩
  · refine ⟨_, cap, rfl, hle, hcm, fun k hk => ⟨g, 0, rfl, (Array.getElem?_eq_some_iff.1 hc).1, ?_⟩⟩
    have h1 : (cur.toList.take (l.length * 1))[k]? = some (.int .i64 l[k]) := by rw [htk]; simp [hk]
    rw [List.getElem?_take, if_pos (by omega)] at h1
    simpa [World.cell?, hc] using h1

set_option maxRecDepth 100000 in
set_option maxHeartbeats 4000000 in
theorem pbForm_walk (ls : List (ByteArray × Int)) (pv : Value) (deg : ByteArray) (of : List Int) (ov : Value) (w : World) (hA : ApAt w pv ls) (hI : InAt w ov of) (hsz : ∀ p ∈ ls, p.1.size ≤ maxLen) (hds : deg.size ≤ maxLen) (ht : Tab w) :
    Calls Tryz.prog 3 #[.agg #[pv, .string deg], ov] w fun e w' => e = .returned (.bool true) ∧ RowKit.Below w.heap.size w w' := by
  have HA : Hid (ApAt w pv ls) := hA
  have HI : Hid (InAt w ov of) := hI
  have Hsz : Hid (∀ p ∈ ls, p.1.size ≤ maxLen) := hsz
  have Hds : Hid (deg.size ≤ maxLen) := hds
  have HT : Hid (Tab w) := ht
  obtain ⟨a, c, rfl, _, _, _⟩ := hA
  obtain ⟨oa, oc, rfl, _, _, _⟩ := hI
  obtain ⟨N0, hN0⟩ : ∃ N, ls.length = N := ⟨_, rfl⟩
  obtain ⟨M0, hM0⟩ : ∃ N, of.length = N := ⟨_, rfl⟩
  have HAv : Hid (ApAt w (.slice a N0 c) ls) := by rw [← hN0]; exact HA.out
  have HIv : Hid (InAt w (.slice oa M0 oc) of) := by rw [← hM0]; exact HI.out
  have HM0 : Hid (of.length = M0) := hM0
  rw [hN0, hM0]
  obtain ⟨W, hW⟩ : ∃ W, (w.alloc (.cells #[.slice a N0 c, .string deg] 24)).alloc (.cells #[.slice oa M0 oc] 25) = W := ⟨_, rfl⟩
  obtain ⟨hO1, hO2, hbW, _⟩ := two_objs w _ _ hW
  have HC : Hid (Came w a N0 c deg oa M0 oc W) := ⟨hO1, hO2, hbW⟩
  clear hsz hds ht hO1 hO2 hbW hN0 hM0 HA HI
  obtain ⟨i0, hi, hz0, hz1, hz2⟩ := info_parts Tryz.info3
  go_enter Tryz.func3, Tryz.ntmps3
  go_wp2_with fail
  refine (known_any W (HT.out.under HC.out.rest)).mono ?_
  rintro e w1 ⟨rfl, hb⟩
  have HC : Hid (Came w a N0 c deg oa M0 oc w1) := HC.out.below hb
  obtain ⟨k0, k1, k2⟩ := HC.out.cells
  clear hb hW
  go_wp2_with fail
  refine (few_any ls _ deg w1 (HAv.out.below HC.out.rest) Hsz.out Hds.out).mono ?_
  rintro e w2 ⟨b, rfl, hf, hb⟩
  have HC : Hid (Came w a N0 c deg oa M0 oc w2) := HC.out.below hb
  obtain ⟨m0, m1, m2⟩ := HC.out.cells
  clear hb k0 k1 k2
  cases b with
  | false =>
    go_wp2_with fail
    go_ret
    exact ⟨rfl, HC.out.rest⟩
  | true =>
    by_cases hM : M0 ≤ 200
    · have hM2 : ¬ (200 : Int) < (M0 : Int) := by omega
      have hf := hf rfl
      have Hp : Hid (1 + deg.size + partsN ls ≤ 3000) := hf
      have hlab : (limbs (Pm.absS (ofPs ls))).length ≤ 3001 := parts_len (by omega)
      have hlde : (limbs ((parseZ deg.data.toList).getD 0).natAbs).length ≤ 3000 := Nat.le_trans (parse_len _) (by simp; omega)
      have Hla : Hid ((limbs (Pm.absS (ofPs ls))).length ≤ 3001 ∧ (limbs ((parseZ deg.data.toList).getD 0).natAbs).length ≤ 3000) := ⟨hlab, hlde⟩
      have HSy : Hid (Calls Tryz.prog 9 #[.agg #[.slice a N0 c, .string deg], .slice oa M0 oc] w2 (SyOut w2 ls deg of)) := says_any ls _ deg of _ w2 (HAv.out.below HC.out.rest) (HIv.out.below HC.out.rest) (by have := parts_count ls; omega) (by have := HM0.out; omega) (fun p hp => by have := parts_size hp; omega) (by omega) (by omega)
      clear hf hlab hlde
      go_wp2_with fail
      refine HSy.out.mono ?_
      rintro e w3 ⟨h, rfl, hb, hh⟩
      have HC : Hid (Came w a N0 c deg oa M0 oc w3) := HC.out.below hb
      obtain ⟨k0, k1, k2⟩ := HC.out.cells
      have Hh : Hid (ofErr ls deg = 0 → h = decide ((parseZ deg.data.toList).getD 0 ≤ Pm.sumF (Pm.litT (ofT of)) (ofPs ls))) := hh
      clear hb m0 m1 m2 HSy hh
      have HOf : Hid (Calls Tryz.prog 10 #[.agg #[.slice a N0 c, .string deg]] w3 (OfOut w3 ls deg)) := of_row ls _ deg w3 (HAv.out.below HC.out.rest) (by have := parts_count ls; have := Hp.out; omega) (fun p hp => by have := parts_size hp; have := Hp.out; omega) (by have := Hp.out; omega) (Nat.le_trans Hla.out.1 (by decide)) (Nat.le_trans Hla.out.2 (by decide))
      generalize hdd : decide (ofErr ls deg = 0) = right
      have Hdd : Hid (decide (ofErr ls deg = 0) = right) := hdd
      clear hdd
      go_wp2_with fail
      refine HOf.out.mono ?_
      rintro e w4 ⟨r, K, D, rfl, hpb, hlit, hlen, hb, hform, hno⟩
      have HC : Hid (Came w a N0 c deg oa M0 oc w4) := HC.out.below hb
      obtain ⟨er, her⟩ : ∃ er, ofErr ls deg = er := ⟨_, rfl⟩
      rw [her] at hform hno Hh Hdd ⊢
      have hp' := hpb
      obtain ⟨a3, c3, n3, q3, rfl, _, _⟩ := hp'
      obtain ⟨NK, hNK⟩ : ∃ N, K.length = N := ⟨_, rfl⟩
      rw [hNK] at hpb ⊢
      obtain ⟨V3, hV3⟩ : ∃ V, w4.alloc (.cells #[.slice a3 NK c3, .int .i64 n3, .pointer q3] 35) = V := ⟨_, rfl⟩
      obtain ⟨hO3, hb3⟩ := new_obj w4 _ hV3
      have HC : Hid (Came w a N0 c deg oa M0 oc V3) := HC.out.below hb3
      have HX : Hid (PbAt V3 (.agg #[.slice a3 NK c3, .int .i64 n3, .pointer q3]) K D) := hpb.below hb3
      have HO3 : Hid (V3.heap[w4.heap.size]? = some (.cells #[.slice a3 NK c3, .int .i64 n3, .pointer q3] 35)) := hO3
      obtain ⟨x0, x1, x2, _, _, _⟩ := box3_facts hO3
      have Hlit : Hid (∀ p ∈ K, IsLit p.2) := hlit
      have HNK : Hid (K.length = NK ∧ NK ≤ 3000) := ⟨hNK, by have := Hp.out; have := parts_count ls; omega⟩
      have HFm : Hid (er = 0 → Pm.IsForm (ofPs ls) ((parseZ deg.data.toList).getD 0) K D) := hform
      have Hno : Hid (er ≠ 0 → K = [] ∧ D = 0) := hno
      have HSz : Hid ((limbs (Pm.absS K)).length ≤ 3001 ∧ (limbs D.natAbs).length ≤ 3002 ∧ Pm.Rises K ∧ Pm.Sound K) := by
        by_cases h0 : er = 0
        · have hF := hform h0
          have hs := form_sizes hF Hla.out.1 (Nat.le_trans Hla.out.2 (by decide))
          exact ⟨hs.1, hs.2.1, hF.rises, hF.sound⟩
        · obtain ⟨rfl, rfl⟩ := hno h0
          exact ⟨by simp [Pm.absS, Bn.limbs_zero], by simp [Bn.limbs_zero], trivial, (fun _ h => by cases h)⟩
      have HNu : Hid (∀ e w', Calls Tryz.prog 11 #[.int .i64 e] w' fun e' w'' => e' = .returned (.int .i64 e) ∧ w'' = w') := fun e w' => num_any e w'
      have Hps : Hid (er = 0 → ∀ p ∈ ofPs ls, IsLit p.2) := fun h => ofE_lits (by have h1 := her.trans h; unfold ofErr at h1; split at h1; assumption; exact h1)
      clear hpb hlit hlen hb hform hno her hNK hO3 hb3 k0 k1 k2 HOf
      by_cases hr : er = 0
      · obtain rfl : true = right := by have := Hdd.out; rw [decide_eq_true hr] at this; exact this
        subst hr
        have HPl : Hid (Calls Tryz.prog 13 #[.agg #[.slice a3 NK c3, .int .i64 n3, .pointer q3]] V3 fun e w' => ∃ u, e = .returned (.agg #[u, .string (txt D)]) ∧ ApAt w' u (tells K) ∧ RowKit.Below V3.heap.size V3 w') := plain_any _ K D V3 HX.out (by have := HNK.out; omega) (fun p hp => Nat.le_trans (limbs_abs (Pm.absS_mem hp) HSz.out.1) (by decide)) (Nat.le_trans HSz.out.2.1 (by decide)) (HT.out.under HC.out.rest)
        go_wp2_with (first | (go_at_call 11; refine calls_at (HNu.out 0 _) (by with_reducible rfl) (by with_reducible rfl) ?_; rintro e w5 ⟨rfl, hww⟩; rw [hww]))
        refine HPl.out.mono ?_
        rintro e w6 ⟨u4, rfl, hA4, hb⟩
        have HC : Hid (Came w a N0 c deg oa M0 oc w6) := HC.out.below hb
        have hA4' := hA4
        obtain ⟨a4, c4, rfl, _, _, _⟩ := hA4'
        have hlt : (tells K).length = NK := by unfold tells; rw [List.length_map]; exact HNK.out.1
        rw [hlt] at hA4 ⊢
        obtain ⟨s4, hs4⟩ : ∃ s, txt D = s := ⟨_, rfl⟩
        have Hs4 : Hid (txt D = s4) := hs4
        rw [hs4]
        obtain ⟨V4, hV4⟩ : ∃ V, w6.alloc (.cells #[.slice a4 NK c4, .string s4] 24) = V := ⟨_, rfl⟩
        obtain ⟨hO4, hb4⟩ := new_obj w6 _ hV4
        have HC : Hid (Came w a N0 c deg oa M0 oc V4) := HC.out.below hb4
        have HA4 : Hid (ApAt V4 (.slice a4 NK c4) (tells K)) := hA4.below hb4
        have HO4 : Hid (V4.heap[w6.heap.size]? = some (.cells #[.slice a4 NK c4, .string s4] 24)) := hO4
        have HX : Hid (PbAt V4 (.agg #[.slice a3 NK c3, .int .i64 n3, .pointer q3]) K D) := (HX.out.below hb).below hb4
        have HO3 : Hid (V4.heap[w4.heap.size]? = some (.cells #[.slice a3 NK c3, .int .i64 n3, .pointer q3] 35)) := by
          have h := (hb.block _ (Array.getElem?_eq_some_iff.1 HO3.out).1).trans HO3.out
          exact (hb4.block _ (Array.getElem?_eq_some_iff.1 h).1).trans h
        clear hA4 hb hlt hs4 hO4 hb4 x0 x1 x2 HPl hV3
        go_wp2_with fail
        obtain ⟨V5, hV5⟩ : ∃ V, V4.alloc (.cells #[.slice none 0 0] 25) = V := ⟨_, rfl⟩
        obtain ⟨hO5, hb5⟩ := new_obj V4 _ hV5
        rw [hV5]
        have HF0 : Hid (FoAt V4 [] V5) := ⟨⟨_, hO5, rfl, .inl ⟨rfl, rfl⟩⟩, hb5⟩
        have Hgt0 : Hid (∀ h : 0 < K.length, ((0 : Nat) : Int) < ((K[0].2.natAbs : Nat) : Int)) := fun h => by
          have := (HSz.out.2.2.2 K[0] (List.getElem_mem h)).2
          omega
        clear hO5 hb5 hV5 hV4
        have hN6 : NK ≤ 3000 := HNK.out.2
        go_loopw [10, 12] (fun av iv wr => ∃ (k m : Nat), av = .int .i64 (m : Int) ∧ iv = .int .i64 (k : Int) ∧ k ≤ NK ∧ Hid (∀ h : k < K.length, (m : Int) < ((K[k].2.natAbs : Nat) : Int)) ∧ Hid (FoAt V4 ((K.take k).map fun p => ((p.2.natAbs : Nat) : Int)) wr)) (fun _ iv _ => NK - (intOf iv).toNat)
        case atStart => exact ⟨0, 0, rfl, rfl, Nat.zero_le _, Hgt0, HF0⟩
        case round =>
          obtain ⟨k, m, rfl, rfl, hk, hgt, hF⟩ := hrel
          clear HF0 Hgt0
          by_cases hkN : k < NK
          · have hkI : (k : Int) < (NK : Int) := by omega
            have hkl : k < K.length := by have := HNK.out; omega
            have hkt : k < (tells K).length := by unfold tells; rw [List.length_map]; exact hkl
            have hA4r := HA4.out.below hF.out.rest
            have hO4r := (hF.out.rest.block _ (Array.getElem?_eq_some_iff.1 HO4.out).1).trans HO4.out
            obtain ⟨m0, m1, _, _⟩ := box2_facts hO4r
            have hw6 := (Array.getElem?_eq_some_iff.1 hO4r).1
            obtain ⟨_, _, hva, _, _, hcell⟩ := hA4r
            injection hva with e1 e2 e3
            subst e1; subst e3
            clear e2
            obtain ⟨b, off, ha, hbl, c0, c1⟩ := hcell k hkt
            subst ha
            have htk : (tells K)[k] = (txt K[k].1, K[k].2) := by simp [tells]
            rw [htk] at c0 c1
            have hgt := hgt.out hkl
            have hzp := (HSz.out.2.2.2 K[k] (List.getElem_mem hkl)).1
            have hlk := Hlit.out K[k] (List.getElem_mem hkl)
            have hszk : (limbs K[k].1.natAbs).length ≤ 3001 := limbs_abs (Pm.absS_mem (List.getElem_mem hkl)) HSz.out.1
            have htake : (K.take (k + 1)).map (fun p => ((p.2.natAbs : Nat) : Int)) = (K.take k).map (fun p => ((p.2.natAbs : Nat) : Int)) ++ [((K[k].2.natAbs : Nat) : Int)] := by rw [List.take_succ_eq_append_getElem hkl, List.map_append]; rfl
            have Hnx : Hid (∀ h : k + 1 < K.length, ((K[k].2.natAbs : Nat) : Int) < ((K[k + 1].2.natAbs : Nat) : Int)) := fun h => by have := rises_at K k HSz.out.2.2.1 h; omega
            generalize K[k] = pk at *
            obtain ⟨z, l⟩ := pk
            simp only at c0 c1 hgt hzp hlk hszk htake Hnx
            have Htake : Hid ((K.take (k + 1)).map (fun p => ((p.2.natAbs : Nat) : Int)) = (K.take k).map (fun p => ((p.2.natAbs : Nat) : Int)) ++ [((l.natAbs : Nat) : Int)]) := htake
            obtain ⟨y, hy⟩ : ∃ y : Nat, l.natAbs = y := ⟨_, rfl⟩
            have hP0 := parse_any (txt z) wr (Nat.le_trans (txt_size (by decide) hszk) (by decide))
            rw [parse_txt z] at hP0
            have HP : Hid (Calls Tryz.prog 14 #[.string (txt z)] wr fun e w' => ∃ r, e = .returned (.tuple #[r, .int .i64 0]) ∧ BigAt w' r z ∧ RowKit.Below wr.heap.size wr w') := hP0
            clear hP0 htake htk hO4r hszk hcell
            go_wp2_with fail
            refine HP.out.mono ?_
            rintro e w7 ⟨r, rfl, hB7, hb7⟩
            obtain ⟨n7, q7, rfl⟩ := hB7.shape
            obtain ⟨V7, hV7⟩ : ∃ V, w7.alloc (.cells #[.int .i64 n7, .pointer q7] 33) = V := ⟨_, rfl⟩
            obtain ⟨hO7, hb8⟩ := new_obj w7 _ hV7
            have hbr : RowKit.Below wr.heap.size wr V7 := hb7.trans (hb8.mono hb7.size)
            have HF7 : Hid (FoAt V4 ((K.take k).map fun p => ((p.2.natAbs : Nat) : Int)) V7) := hF.out.below hbr
            have d1 := (hbr.cell (p := ⟨b, off + k * 2 + 1, none⟩) hbl).trans c1
            have d0 := (hbr.cell (p := ⟨w6.heap.size, 0, none⟩) hw6).trans m0
            obtain ⟨y0, y1, _, _⟩ := box_facts hO7
            obtain ⟨X7, hX7⟩ : ∃ X, V7.drew = X := ⟨_, rfl⟩
            have hbx : RowKit.Below V7.heap.size V7 X7 := by rw [← hX7]; exact (Below.refl _ _).drew
            have HS0 := sign_big z _ X7 ((hB7.below hb8).below hbx)
            rw [Int.sign_eq_one_of_pos hzp] at HS0
            have HS : Hid (Calls Tryz.prog 15 #[.agg #[.int .i64 n7, .pointer q7]] X7 fun e w' => e = .returned (.int .i64 1) ∧ RowKit.Below X7.heap.size X7 w') := HS0
            have HFx : Hid (FoAt V4 ((K.take k).map fun p => ((p.2.natAbs : Nat) : Int)) X7) := HF7.out.below hbx
            obtain ⟨z0, z1, _, _⟩ := box_facts ((hbx.block _ (Array.getElem?_eq_some_iff.1 hO7).1).trans hO7)
            have hwn : IntKind.i64.wrap (-l) = -l := (wrap_lit hlk).2
            have hmx : max l (-l) = (y : Int) := by omega
            have hyI : ¬ (y : Int) ≤ (m : Int) := by omega
            have HX7 : Hid (V7.drew = X7) := hX7
            clear hB7 hb7 hO7 hb8 hF HP HS0 hbr c0 c1 m0 m1 hzp hX7
            go_wp2_with (first | (go_at_call 11; refine calls_at (HNu.out 0 _) (by with_reducible rfl) (by with_reducible rfl) ?_; rintro e w5 ⟨rfl, hww⟩; rw [hww]))
            go_region
            rw [HX7.out]
            have Hy : Hid (l.natAbs = y) := hy
            clear d0 d1 y0 y1 hmx hwn HF7 hbx hy
            go_wp2_with (first | (go_at_call 11; refine calls_at (HNu.out 0 _) (by with_reducible rfl) (by with_reducible rfl) ?_; rintro e w5 ⟨rfl, hww⟩; rw [hww]) | (go_at_call 15; refine calls_at HS.out (by with_reducible rfl) (by with_reducible rfl) ?_; rintro e w8 ⟨rfl, hb8⟩; have HF8 : Hid (FoAt V4 ((K.take k).map fun p => ((p.2.natAbs : Nat) : Int)) w8) := HFx.out.below hb8; obtain ⟨vo, ho8, hown8⟩ := HF8.out.box; have Ho8 : Hid (w8.heap[V4.heap.size]? = some (.cells #[vo] 25)) := ho8; have Hown8 : Hid (w8.ownsRow (V4.heap.size + 1) 3 1 vo ((K.take k).map fun p => ((p.2.natAbs : Nat) : Int)).length (((K.take k).map fun p => ((p.2.natAbs : Nat) : Int)).map (.int .i64 ·))) := hown8; have g0 := cell_new ho8; clear hb8 ho8 hown8) | (at_builtin; refine append_one w8 rfl _ _ 25 rfl (V4.heap.size + 1) 3 i0 .i64 8 Tryz.underlying25 hi hz0 hz1 hz2 _ _ _ (by rfl) Hown8.out _ _ rfl (by rfl) (by have := HNK.out; simp; omega) (by decide) (Array.getElem?_eq_some_iff.1 Ho8.out).1 ?_; intro v' w' ho hg; obtain ⟨hQ, hnx⟩ := FoAt.next HF8.out.rest (Array.getElem?_eq_some_iff.1 Ho8.out).1 Ho8.out Hown8.out ho hg; obtain ⟨av, cv, hv'⟩ := own_form ho; subst hv'; have g1 := cell_new hQ; have g2 : w'.frozen? ⟨V4.heap.size, 0, none⟩ = false := (by simp [World.frozen?, hQ]); have HN : Hid (FoAt V4 ((K.take k).map (fun p => ((p.2.natAbs : Nat) : Int)) ++ [((y : Nat) : Int)]) (w'.setCell ⟨V4.heap.size, 0, none⟩ (.slice av (((K.take k).map fun p => ((p.2.natAbs : Nat) : Int)).length + 1) cv))) := hnx; clear hnx hQ ho hg g0))
            simp only [List.length_map, List.length_take] at HN
            go_roundw
            case rel => exact ⟨k + 1, y, rfl, by go_num, by omega, by rw [← Hy.out]; exact Hnx, by rw [Htake.out, Hy.out]; exact HN⟩
            case measure => simp [intOf]; omega
          · obtain rfl : k = NK := by omega
            have htake : K.take k = K := List.take_of_length_le (by have := HNK.out; omega)
            rw [htake] at hF
            have hO4r := (hF.out.rest.block _ (Array.getElem?_eq_some_iff.1 HO4.out).1).trans HO4.out
            obtain ⟨m0, m1, _, _⟩ := box2_facts hO4r
            have hOf0 := of_row (tells K) (.slice a4 k c4) s4 wr (HA4.out.below hF.out.rest) (by have := HNK.out; simp [tells]; omega) (fun p hp => by
              obtain ⟨q, hq, rfl⟩ := List.mem_map.1 hp
              exact Nat.le_trans (txt_size (k := 3001) (by decide) (limbs_abs (Pm.absS_mem hq) HSz.out.1)) (by decide)) (by rw [← Hs4.out]; exact Nat.le_trans (txt_size (k := 3002) (by decide) HSz.out.2.1) (by decide)) (by rw [ps_tells]; exact Nat.le_trans HSz.out.1 (by decide)) (by rw [← Hs4.out, parse_txt]; exact Nat.le_trans HSz.out.2.1 (by decide))
            have HOf : Hid (Calls Tryz.prog 10 #[.agg #[.slice a4 k c4, .string s4]] wr fun e w' => ∃ r, e = .returned (.tuple #[r, .int .i64 0]) ∧ PbAt w' r K D ∧ RowKit.Below wr.heap.size wr w') := by
              refine hOf0.mono ?_
              rintro e w' ⟨r, K', D', rfl, hp, _, _, hb, hf, _⟩
              have he : ofErr (tells K) s4 = 0 := by rw [← Hs4.out]; exact err_tells K D Hlit.out
              have hf := hf he
              rw [ps_tells, ← Hs4.out, parse_txt] at hf
              have hD0 : 0 ≤ D := by have := (HFm.out (by first | rfl | trivial)).deg; omega
              obtain ⟨rfl, rfl⟩ := hf.one (form_self HSz.out.2.2.1 HSz.out.2.2.2 hD0)
              exact ⟨r, by rw [he], hp, hb⟩
            clear hOf0 hgt hO4r htake
            go_wp2_with fail
            refine HOf.out.mono ?_
            rintro e w7 ⟨r, rfl, hp7, hb7⟩
            obtain ⟨a7, c7, n7, q7, rfl, _, _⟩ := id hp7
            obtain ⟨V9, hV9⟩ : ∃ V, (w7.alloc (.cells #[.slice a7 K.length c7, .int .i64 n7, .pointer q7] 35)).alloc (.cells #[.bool true] 4) = V := ⟨_, rfl⟩
            obtain ⟨hO8, hO9, hb9, _⟩ := two_objs w7 _ _ hV9
            have hbA : RowKit.Below wr.heap.size wr V9 := hb7.trans (hb9.mono hb7.size)
            have hbB : RowKit.Below V4.heap.size V4 V9 := hF.out.rest.trans (hbA.mono hF.out.rest.size)
            have HF9 : Hid (FoAt V4 (K.map fun p => ((p.2.natAbs : Nat) : Int)) V9) := hF.out.below hbA
            have HC9 : Hid (Came w a N0 c deg oa M0 oc V9) := HC.out.below hbB
            have HX9 : Hid (PbAt V9 (.agg #[.slice a3 k c3, .int .i64 n3, .pointer q3]) K D) := HX.out.below hbB
            have HY9 : Hid (PbAt V9 (.agg #[.slice a7 K.length c7, .int .i64 n7, .pointer q7]) K D) := hp7.below hb9
            have hO3r := (hbB.block _ (Array.getElem?_eq_some_iff.1 HO3.out).1).trans HO3.out
            have HO3r : Hid (V9.heap[w4.heap.size]? = some (.cells #[.slice a3 k c3, .int .i64 n3, .pointer q3] 35)) := hO3r
            have HO8 : Hid (V9.heap[w7.heap.size]? = some (.cells #[.slice a7 K.length c7, .int .i64 n7, .pointer q7] 35)) := hO8
            have HO9 : Hid (BitAt V9 (w7.heap.size + 1) true) := hO9
            obtain ⟨x0, x1, x2, _, _, _⟩ := box3_facts hO3r
            obtain ⟨vo, ho1, ho2⟩ := HF9.out.box
            have HH : Hid (Calls Tryz.prog 16 #[.agg #[.slice a3 k c3, .int .i64 n3, .pointer q3], .func (.func 17) #[] #[.pointer (some ⟨w7.heap.size + 1, 0, none⟩), .pointer (some ⟨V4.heap.size, 0, none⟩), .pointer (some ⟨w.heap.size + 1, 0, none⟩)]] V9 fun e w' => e = .returned (.bool (Pm.holds (ofT of) K D)) ∧ AskJ V9 (w7.heap.size + 1) w' ∧ V9.grownBy w' (some (w7.heap.size + 1))) :=
              holds_any _ K D 17 _ (ofT of) (some (w7.heap.size + 1)) (AskJ V9 (w7.heap.size + 1)) V9 HX9.out Hlit.out (by have := HNK.out; omega) (Nat.le_trans HSz.out.1 (by decide)) (askJ_calm (Array.getElem?_eq_some_iff.1 HO9.out).1) ⟨HO9.out, grown_of_below (Below.refl _ _) _⟩ (enters_of Tryz.func17 (by kernel_rfl) rfl) (fun p hp w' hj =>
                ask_any V9 (w7.heap.size + 1) V4.heap.size (w.heap.size + 1) (K.map fun p => ((p.2.natAbs : Nat) : Int)) of vo _ ((p.2.natAbs : Nat) : Int) HO9.out ho1 HC9.out.of (InAt.of_owns ho2) (HIv.out.below HC9.out.rest) (by have := HNK.out; simp; omega) (by have := HM0.out; omega) (List.contains_iff_mem.2 (List.mem_map.2 ⟨p, hp, rfl⟩)) w' hj)
            have Hhh : Hid (h = Pm.holds (ofT of) K D) := by
              show _ = _
              rw [form_holds (ofT of) (HFm.out (by first | rfl | trivial)) (fun p hp => (Hps.out (by first | rfl | trivial) p hp).1)]
              exact Hh.out (by first | rfl | trivial)
            have HD0 : Hid (0 ≤ D.sign) := by
              have hD0 : 0 ≤ D := by have := (HFm.out (by first | rfl | trivial)).deg; omega
              show _ ≤ _
              rcases Int.lt_or_eq_of_le hD0 with h1 | h1
              · rw [Int.sign_eq_one_of_pos h1]; decide
              · rw [← h1]; decide
            generalize Pm.holds (ofT of) K D = res at *
            obtain rfl : h = res := Hhh.out
            have hwV : Hid (V4.heap.size ≤ w7.heap.size) := Nat.le_trans hF.out.rest.size hb7.size
            clear hO8 hO9 hb9 hbA hbB hO3r ho1 ho2 HOf hp7 hb7 m0 m1 hF
            go_wp2_with (first | (go_at_call 16; refine calls_at HH.out (by with_reducible rfl) (by with_reducible rfl) ?_; rintro e w10 ⟨rfl, hj10, hg10⟩; have HJ : Hid (AskJ V9 (w7.heap.size + 1) w10 ∧ V9.grownBy w10 (some (w7.heap.size + 1))) := ⟨hj10, hg10⟩; clear hj10 hg10))
            have hX10 := HX9.out.bit HO9.out HJ.out.2
            have hY10 := HY9.out.bit HO9.out HJ.out.2
            have hne : ∀ b, b < w7.heap.size + 1 → some b ≠ some (w7.heap.size + 1) := fun b hb e => by injection e with e; omega
            have hx10 := (HJ.out.2.block _ (Array.getElem?_eq_some_iff.1 HO3r.out).1 (hne _ (by have := (Array.getElem?_eq_some_iff.1 HO3.out).1; have := hwV.out; omega))).trans HO3r.out
            have hy10 := (HJ.out.2.block _ (Array.getElem?_eq_some_iff.1 HO8.out).1 (hne _ (by omega))).trans HO8.out
            have HB10 : Hid (RowKit.Below w.heap.size w w10) := below_of_grown HC9.out.rest HJ.out.2 HC9.out.rest.size (by have := hwV.out; have := HC.out.rest.size; omega)
            have hT10 : Tab w10 := HT.out.under HB10.out
            have hSm := same_any _ _ K K D D w10 hY10 hX10 (by have := HNK.out; omega) (fun p hp => Nat.le_trans (limbs_abs (Pm.absS_mem hp) HSz.out.1) (by decide)) (fun p hp => Nat.le_trans (limbs_abs (Pm.absS_mem hp) HSz.out.1) (by decide)) (Nat.le_trans HSz.out.2.1 (by decide)) hT10
            rw [decide_eq_true ⟨rfl, rfl⟩] at hSm
            have HSm : Hid (Calls Tryz.prog 12 #[.agg #[.slice a7 K.length c7, .int .i64 n7, .pointer q7], .agg #[.slice a3 k c3, .int .i64 n3, .pointer q3]] w10 fun e w' => e = .returned (.bool true) ∧ RowKit.Below w10.heap.size w10 w') := hSm
            have HDg : Hid (∀ w', RowKit.Below w10.heap.size w10 w' → Calls Tryz.prog 19 #[.agg #[.slice a3 k c3, .int .i64 n3, .pointer q3]] w' fun e w'' => ∃ r, e = .returned r ∧ BigAt w'' r D ∧ RowKit.Below w'.heap.size w' w'') := fun w' hb => degree_any _ K D w' (hX10.below hb)
            have HSg : Hid (∀ w' r, BigAt w' r D → Calls Tryz.prog 15 #[r] w' fun e w'' => e = .returned (.int .i64 D.sign) ∧ RowKit.Below w'.heap.size w' w'') := fun w' r hr => sign_big D r w' hr
            obtain ⟨x0, x1, x2, _, _, _⟩ := box3_facts hx10
            obtain ⟨y0, y1, y2, _, _, _⟩ := box3_facts hy10
            have Hx10 : Hid (w10.heap[w4.heap.size]? = some (.cells #[.slice a3 k c3, .int .i64 n3, .pointer q3] 35)) := hx10
            have HA10 : Hid (w10.heap[w7.heap.size + 1]? = some (.cells #[.bool true] 4)) := HJ.out.1.1
            have hsgn : 0 ≤ D.sign := HD0.out
            clear hX10 hY10 hne hx10 hy10 hT10 hSm
            generalize D.sign = sg at *
            go_wp2_with (first | (go_at_call 11; refine calls_at (HNu.out 0 _) (by with_reducible rfl) (by with_reducible rfl) ?_; rintro e w5 ⟨rfl, hww⟩; rw [hww]) | (go_at_call 12; refine calls_at HSm.out (by with_reducible rfl) (by with_reducible rfl) ?_; rintro e w11 ⟨rfl, hb11⟩; have HB11 : Hid (RowKit.Below w10.heap.size w10 w11) := hb11; obtain ⟨g0, g1, g2, _, _, _⟩ := box3_facts ((hb11.block _ (Array.getElem?_eq_some_iff.1 Hx10.out).1).trans Hx10.out); clear hb11) | (go_at_call 19; refine calls_at (HDg.out w11 HB11.out) (by with_reducible rfl) (by with_reducible rfl) ?_; rintro e w12 ⟨r12, rfl, hr12, hb12⟩; have HR12 : Hid (BigAt w12 r12 D) := hr12; have HB12 : Hid (RowKit.Below w10.heap.size w10 w12) := HB11.out.trans (hb12.mono HB11.out.size); clear hr12 hb12) | (go_at_call 15; refine calls_at (HSg.out w12 _ HR12.out) (by with_reducible rfl) (by with_reducible rfl) ?_; rintro e w13 ⟨rfl, hb13⟩; have HB13 : Hid (RowKit.Below w10.heap.size w10 w13) := HB12.out.trans (hb13.mono HB12.out.size); have q0 := cell_new ((HB13.out.block _ (Array.getElem?_eq_some_iff.1 HA10.out).1).trans HA10.out); clear hb13))
            go_ret
            exact ⟨rfl, HB10.out.trans (HB13.out.mono HB10.out.size)⟩
      · obtain rfl : false = right := by have := Hdd.out; rw [decide_eq_false hr] at this; exact this
        have hb0 : (er == 0) = false := beq_eq_false_iff_ne.2 hr
        have hS := same_any _ (.agg #[.slice none 0 0, .int .i64 0, .pointer none]) K [] D 0 V3 HX.out (PbAt.zero V3) (by have := HNK.out; omega) (fun p hp => Nat.le_trans (limbs_abs (Pm.absS_mem hp) HSz.out.1) (by decide)) (fun p hp => by cases hp) (Nat.le_trans HSz.out.2.1 (by decide)) (HT.out.under HC.out.rest)
        rw [decide_eq_true (Hno.out hr)] at hS
        have HS : Hid (Calls Tryz.prog 12 #[.agg #[.slice a3 NK c3, .int .i64 n3, .pointer q3], .agg #[.slice none 0 0, .int .i64 0, .pointer none]] V3 fun e w' => e = .returned (.bool true) ∧ RowKit.Below V3.heap.size V3 w') := hS
        clear hS hr
        go_wp2_with (first | (go_at_call 11; refine calls_at (HNu.out er _) (by with_reducible rfl) (by with_reducible rfl) ?_; rintro e w5 ⟨rfl, hww⟩; rw [hww]) | (go_at_call 12; refine calls_at HS.out (by with_reducible rfl) (by with_reducible rfl) ?_; rintro e w6 ⟨rfl, hb6⟩))
        go_ret
        exact ⟨rfl, HC.out.rest.trans (hb6.mono HC.out.rest.size)⟩
    · have hM2 : (200 : Int) < (M0 : Int) := by omega
      go_wp2_with fail
      go_ret
      exact ⟨rfl, HC.out.rest⟩
end Go.Proofs.YtjffbndiecjkjaaGreatDoor
