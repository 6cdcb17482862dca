/-
  Put together: There, PbSame.
-/
import Derived.Test.YtjffbndiecjkjaaGreatDoorParse
import Derived.Test.YtjffbndiecjkjaaGreatDoorPbOfs
import Derived.Test.YtjffbndiecjkjaaGreatDoorCmp
namespace Go.Proofs.YtjffbndiecjkjaaGreatDoor
open Go

theorem byte_digit {c : UInt8} (h : isDig c = true) : UInt8.ofNat (48 + (c.toNat - 48)) = c := by
  unfold isDig at h
  have h' := of_decide_eq_true h
  rw [show 48 + (c.toNat - 48) = c.toNat from by omega]
  exact UInt8.ofNat_toNat

/-- Digits that write a number above 0 are its digits. -/
theorem digits_back (l : List UInt8) : sizeB l = true → 0 < dval l ∧ Lib.decDigits (dval l) = l := by
  suffices H : ∀ r : List UInt8, sizeB r.reverse = true → 0 < dval r.reverse ∧ Lib.decDigits (dval r.reverse) = r.reverse by
    have := H l.reverse; rwa [List.reverse_reverse] at this
  intro r
  induction r with
  | nil => intro h; cases h
  | cons c r ih =>
    intro h
    rw [List.reverse_cons] at h ⊢
    unfold sizeB at h
    simp only [Bool.and_eq_true, List.all_append, List.all_cons, List.all_nil, Bool.and_true] at h
    obtain ⟨⟨_, h1⟩, h2, h3⟩ := h
    rw [dval_snoc]
    have hd := of_decide_eq_true (show decide (48 ≤ c.toNat ∧ c.toNat ≤ 57) = true from h3)
    cases hr : r.reverse with
    | nil =>
      rw [hr] at h1
      have hc : c.toNat ≠ 48 := by
        intro e
        have : c = 48 := UInt8.toNat_inj.1 (by rw [e]; rfl)
        subst this; exact absurd h1 (by decide)
      have e0 : dval [] = 0 := rfl
      rw [e0, Nat.mul_zero, Nat.zero_add]
      refine ⟨by omega, ?_⟩
      rw [Lib.decDigits_one (by omega), byte_digit h3]; rfl
    | cons e t =>
      have hs : sizeB r.reverse = true := by
        unfold sizeB
        rw [h2]
        rw [hr] at h1 ⊢
        simp at h1 ⊢
        exact h1
      obtain ⟨p, q⟩ := ih hs
      rw [hr] at p q
      refine ⟨by omega, ?_⟩
      rw [Bn.decDigits_step p (by omega), q, byte_digit h3]

theorem itoa_neg {n : Nat} (h : 0 < n) : Lib.itoa (-(n : Int)) = 45 :: Lib.decDigits n := by
  unfold Lib.itoa
  rw [if_pos (by omega)]
  congr 2
  omega
theorem itoa_nat (n : Nat) : Lib.itoa (n : Int) = Lib.decDigits n := by
  unfold Lib.itoa
  rw [if_neg (by omega)]
  congr 1

/-- A text that is taken is the text of its number. -/
theorem text_of_parse {l : List UInt8} {z : Int} (h : parseZ l = some z) : Lib.itoa z = l := by
  unfold parseZ at h
  split at h
  · rename_i hc
    injection h with h
    subst h
    rcases hc with rfl | hc
    · have : sg (minus [48]) (dval (digitsOf [48])) = 0 := by rfl
      rw [this, Bn.itoa_zero]
    · obtain ⟨p, q⟩ := digits_back _ hc
      unfold sg minus
      unfold digitsOf Lib.trimPrefix at p q ⊢
      cases hm : Lib.hasPrefix l [45] with
      | true =>
        rw [hm] at p q
        simp only [if_true] at p q ⊢
        rw [itoa_neg p, q]
        cases l with
        | nil => cases hm
        | cons c t =>
          unfold Lib.hasPrefix at hm
          simp [List.isPrefixOf] at hm
          subst hm; rfl
      | false =>
        rw [hm] at p q
        simp at p q ⊢
        rw [itoa_nat, q]
  · cases h

/-- A number's digits are digits, write it, and begin with none that is 0. -/
theorem digits_of (n : Nat) (h : 0 < n) : sizeB (Lib.decDigits n) = true ∧ dval (Lib.decDigits n) = n := by
  induction n using Nat.strongRecOn with
  | _ n ih =>
    by_cases hn : n < 10
    · rw [Lib.decDigits_one hn]
      match n, hn, h with
      | 1, _, _ => decide
      | 2, _, _ => decide
      | 3, _, _ => decide
      | 4, _, _ => decide
      | 5, _, _ => decide
      | 6, _, _ => decide
      | 7, _, _ => decide
      | 8, _, _ => decide
      | 9, _, _ => decide
    · obtain ⟨h1, h2⟩ := ih (n / 10) (by omega) (by omega)
      have hb : ∀ d, d < 10 → isDig (UInt8.ofNat (48 + d)) = true ∧ (UInt8.ofNat (48 + d)).toNat - 48 = d := by decide
      obtain ⟨b1, b2⟩ := hb (n % 10) (by omega)
      have hs : Lib.decDigits n = Lib.decDigits (n / 10) ++ [UInt8.ofNat (48 + n % 10)] := by
        rw [Lib.decDigits, dif_neg hn]
      rw [hs]
      constructor
      · unfold sizeB at h1 ⊢
        simp only [Bool.and_eq_true] at h1 ⊢
        obtain ⟨⟨a1, a2⟩, a3⟩ := h1
        cases hl : Lib.decDigits (n / 10) with
        | nil => rw [hl] at a1; cases a1
        | cons c t =>
          rw [hl] at a2 a3
          refine ⟨⟨rfl, ?_⟩, ?_⟩
          · simpa using a2
          · rw [List.all_append, a3, List.all_cons, b1]; rfl
      · rw [dval_snoc, h2, b2]; omega

/-- A number's text is taken for it. -/
theorem parse_of_text (z : Int) : parseZ (Lib.itoa z) = some z := by
  rcases Int.lt_trichotomy z 0 with h | h | h
  · obtain ⟨n, rfl⟩ : ∃ n : Nat, z = -(n : Int) := ⟨z.natAbs, by omega⟩
    obtain ⟨h1, h2⟩ := digits_of n (by omega)
    rw [itoa_neg (by omega)]
    have hd : digitsOf (45 :: Lib.decDigits n) = Lib.decDigits n := by
      unfold digitsOf Lib.trimPrefix Lib.hasPrefix
      simp [List.isPrefixOf]
    have hm : minus (45 :: Lib.decDigits n) = true := by
      unfold minus Lib.hasPrefix
      simp [List.isPrefixOf]
    unfold parseZ
    rw [hd, hm, if_pos (.inr h1), h2]; rfl
  · subst h; rw [Bn.itoa_zero]; rfl
  · obtain ⟨n, rfl⟩ : ∃ n : Nat, z = (n : Int) := ⟨z.natAbs, by omega⟩
    obtain ⟨h1, h2⟩ := digits_of n (by omega)
    rw [itoa_nat]
    have hm : minus (Lib.decDigits n) = false := by
      cases hl : Lib.decDigits n with
      | nil => rfl
      | cons c t =>
        rw [hl] at h1
        unfold minus Lib.hasPrefix
        unfold sizeB at h1
        simp [List.isPrefixOf] at h1 ⊢
        intro e
        subst e
        exact absurd h1.2.1 (by decide)
    have hd : digitsOf (Lib.decDigits n) = Lib.decDigits n := by
      unfold minus at hm
      unfold digitsOf Lib.trimPrefix
      rw [hm]; rfl
    unfold parseZ
    rw [hd, hm, if_pos (.inr h1), h2]; rfl
end Go.Proofs.YtjffbndiecjkjaaGreatDoor

namespace Go.Proofs.YtjffbndiecjkjaaGreatDoor
open Go.Shelf Go.RowKit Go.Lib Go.Sort
open Bn (limbs)

theorem txt_inj {x y : Int} (h : txt x = txt y) : x = y := by
  have h1 : Lib.itoa x = Lib.itoa y := by
    have := congrArg (fun s : ByteArray => s.data.toList) h
    simpa [txt] using this
  have h2 := parse_of_text x
  rw [h1, parse_of_text y] at h2
  injection h2 with h2
  exact h2.symm
theorem ap_fields : (Tryz.prog.fieldsOf 45).toList.map (fun f => (f.name, f.type, f.offset)) = [("C", 9, 0), ("L", 3, 1)] := by kernel_rfl
theorem ap_part (a1 a2 : Value) (w : World) : (part 9 #[a1, a2] 0).run Tryz.prog w = .ok a1 w ∧ (part 3 #[a1, a2] 1).run Tryz.prog w = .ok a2 w := ⟨by kernel_rfl, by kernel_rfl⟩
set_option maxHeartbeats 400000 in
theorem ap_neq (s1 s2 : ByteArray) (l1 l2 : Int) (w : World) : (binOp .neq 45 (.agg #[.string s1, .int .i64 l1]) (.agg #[.string s2, .int .i64 l2])).run Tryz.prog w = .ok (.bool (!(s1.toList == s2.toList && l1 == l2))) w := by
  rw [run_neq_struct, run_equalIn_struct (d := 9999) (ht := by kernel_rfl) (hp := by kernel_rfl)]
  have hf := ap_fields
  generalize (Tryz.prog.fieldsOf 45).toList = l at *
  simp only [List.map_eq_cons_iff, List.map_eq_nil_iff, Prod.mk.injEq] at hf
  obtain ⟨f1, l1', rfl, ⟨n1, t1, o1⟩, f2, l2', rfl, ⟨n2, t2, o2⟩, rfl⟩ := hf
  have pa := ap_part (.string s1) (.int .i64 l1) w
  have pb := ap_part (.string s2) (.int .i64 l2) w
  have eq := fun a b => run_equalIn_int (P := Tryz.prog) w 9998 3 .i64 .i64 a b Tryz.underlying3
  have eqs := fun a b => run_equalIn_string (P := Tryz.prog) w 9998 9 a b Tryz.underlying9
  simp only [Op.eqFields, n1, n2, t1, t2, o1, o2, Sem.run_bind, pa, pb, eq, eqs, Result.andThen_ok, Sem.run_ite, Sem.run_pure]
  cases s1.toList == s2.toList <;> cases l1 == l2 <;> simp [Result.andThen]
theorem told_same (x y : Int × Int) : (!((txt x.1).toList == (txt y.1).toList && x.2 == y.2)) = !decide (x = y) := by
  congr 1
  by_cases h : x = y
  · subst h; simp
  · rw [decide_eq_false h]
    by_cases h2 : x.2 = y.2
    · have h1 : ¬ (txt x.1).toList = (txt y.1).toList := fun e => h (Prod.ext (txt_inj (by
        rw [ByteArray.toList_eq, ByteArray.toList_eq] at e
        have := Array.ext' e
        generalize txt x.1 = a at *
        generalize txt y.1 = b at *
        cases a; cases b; simp at this; rw [this])) h2)
      simp [h1]
    · simp [h2]

set_option maxRecDepth 100000 in
set_option maxHeartbeats 2000000 in
theorem same_any (u v : Value) (K K' : List (Int × Int)) (D D' : Int) (w : World) (hu : PbAt w u K D) (hv : PbAt w v K' D') (hn : K.length ≤ 1000000) (hkl : ∀ p ∈ K, (limbs p.1.natAbs).length ≤ 1000000) (hkl' : ∀ p ∈ K', (limbs p.1.natAbs).length ≤ 1000000) (hDl : (limbs D.natAbs).length ≤ 1000000) (ht : Tab w) :
    Calls Tryz.prog 12 #[u, v] w fun e w' => e = .returned (.bool (decide (K = K' ∧ D = D'))) ∧ RowKit.Below w.heap.size w w' := by
  obtain ⟨a, c, n, q, rfl, hpi, hB⟩ := hu
  obtain ⟨a', c', n', q', rfl, hpi', hB'⟩ := hv
  obtain ⟨a2, c2, hac, hlc, hcm⟩ := hpi.form
  injection hac with ea _ ec
  subst ea
  subst ec
  obtain ⟨a3, c3, hac, hlc', hcm'⟩ := hpi'.form
  injection hac with ea _ ec
  subst ea
  subst ec
  obtain ⟨N, hN⟩ : ∃ N : Nat, K.length = N := ⟨_, rfl⟩
  obtain ⟨N', hN'⟩ : ∃ N : Nat, K'.length = N := ⟨_, rfl⟩
  have HN : Hid (K.length = N) := hN
  have HN' : Hid (K'.length = N') := hN'
  rw [hN] at hlc hpi ⊢
  rw [hN'] at hlc' hpi' ⊢
  obtain ⟨W, hW⟩ : ∃ W, (w.alloc (.cells #[.slice a N c, .int .i64 n, .pointer q] 35)).alloc (.cells #[.slice a' N' c', .int .i64 n', .pointer q'] 35) = W := ⟨_, rfl⟩
  obtain ⟨hO1, hO2, hbW, _⟩ := two_objs w _ _ hW
  obtain ⟨k0, k1, k2, _, _, _⟩ := box3_facts hO1
  obtain ⟨m0, m1, m2, _, _, _⟩ := box3_facts hO2
  have HO1 : Hid (W.heap[w.heap.size]? = some (.cells #[.slice a N c, .int .i64 n, .pointer q] 35)) := hO1
  have HO2 : Hid (W.heap[w.heap.size + 1]? = some (.cells #[.slice a' N' c', .int .i64 n', .pointer q'] 35)) := hO2
  have HbW : Hid (RowKit.Below w.heap.size w W) := hbW
  have HP : Hid (PiAt W (.slice a N c) K) := hpi.below hbW
  have HP' : Hid (PiAt W (.slice a' N' c') K') := hpi'.below hbW
  have HT : Hid (Tab W) := ht.under hbW
  have Hkl : Hid ((∀ p ∈ K, (limbs p.1.natAbs).length ≤ 1000000) ∧ ∀ p ∈ K', (limbs p.1.natAbs).length ≤ 1000000) := ⟨hkl, hkl'⟩
  have hN6 : N ≤ 1000000 := by omega
  obtain ⟨cc, hcc⟩ : ∃ cc, cmpI D D' = cc := ⟨_, rfl⟩
  have HC : Hid (Calls Tryz.prog 30 #[.agg #[.int .i64 n, .pointer q], .agg #[.int .i64 n', .pointer q']] W fun e w' => e = .returned (.int .i64 cc) ∧ RowKit.Below W.heap.size W w') := by
    have h := cmp_big D D' _ _ W (hB.below hbW) (hB'.below hbW) hDl
    rw [hcc] at h; exact h
  have Hc0 : Hid (cc = 0 ↔ D = D') := by
    show _ ↔ _
    rw [← hcc]
    rcases Int.lt_trichotomy D D' with h | h | h
    · rw [cmpI_lt h]; constructor <;> intro h' <;> omega
    · rw [cmpI_eq (by omega) (by omega)]; exact ⟨fun _ => h, fun _ => rfl⟩
    · rw [cmpI_gt h]; constructor <;> intro h' <;> omega
  clear hN hN' hO1 hO2 hbW hpi hpi' hB hB' hkl hkl' hDl ht hcc hn
  by_cases hl : N = N'
  · subst hl
    by_cases hc : cc = 0
    · have hD : D = D' := Hc0.out.1 hc
      have hcb : (cc != 0) = false := by simp [hc]
      have HE : Hid (decide (K = K' ∧ D = D') = decide (K = K')) := by show _ = _; simp [hD]
      obtain ⟨res, hres⟩ : ∃ r, decide (K = K' ∧ D = D') = r := ⟨_, rfl⟩
      have HR : Hid (res = decide (K = K')) := by show _ = _; rw [← hres]; exact HE.out
      rw [hres]
      clear hc hD HE hres Hc0
      go_enter Tryz.func12, Tryz.ntmps12
      go_wp2_with (go_at_call 30; refine calls_at HC.out (by with_reducible rfl) (by with_reducible rfl) ?_; rintro e w1 ⟨rfl, hb1⟩; have hQ1 : w1.heap[w.heap.size]? = some (.cells #[.slice a N c, .int .i64 n, .pointer q] 35) := (hb1.block _ (Array.getElem?_eq_some_iff.1 HO1.out).1).trans HO1.out; obtain ⟨g0, g1, g2, _, _, _⟩ := box3_facts hQ1; have HB1 : Hid (RowKit.Below W.heap.size W w1) := hb1; clear hb1 hQ1)
      go_loopw [25] (fun iv wr => ∃ (k : Nat), iv = .int .i64 (k : Int) ∧ k ≤ N ∧ Hid (RowKit.Below W.heap.size W wr) ∧ Hid (K.take k = K'.take k)) (fun iv _ => N - (intOf iv).toNat)
      case atStart => exact ⟨0, rfl, Nat.zero_le _, HB1, rfl⟩
      case round =>
        obtain ⟨k, rfl, hk, hF, hE⟩ := hrel
        by_cases hkN : k < N
        · have hkI : (k : Int) < (N : Int) := by omega
          have hkl : k < K.length := by have := HN.out; omega
          have hkl' : k < K'.length := by have := HN'.out; omega
          obtain ⟨b, m, qq, ha, hbl, e0, e1, e2, hBk⟩ := (HP.out.below hF.out).cell k hkl
          obtain ⟨b', m', qq', ha', hbl', d0, d1, d2, hBk'⟩ := (HP'.out.below hF.out).cell k hkl'
          have hz := Hkl.out.1 _ (List.getElem_mem hkl)
          have hz' := Hkl.out.2 _ (List.getElem_mem hkl')
          have hts := told_same K[k] K'[k]
          have hnx : K.take (k + 1) = K'.take (k + 1) ↔ K[k] = K'[k] := by
            rw [List.take_succ_eq_append_getElem hkl, List.take_succ_eq_append_getElem hkl', hE.out]; exact ⟨fun h => by have := List.append_cancel_left h; injection this, fun h => by rw [h]⟩
          have hne : K = K' → K[k] = K'[k] := fun e => by subst e; rfl
          obtain ⟨p, hp⟩ : ∃ p, K[k] = p := ⟨_, rfl⟩
          obtain ⟨p', hp'⟩ : ∃ p, K'[k] = p := ⟨_, rfl⟩
          rw [hp] at e2 hBk hz hts hnx hne
          rw [hp'] at d2 hBk' hz' hts hnx hne
          obtain ⟨z, l⟩ := p
          obtain ⟨z', l'⟩ := p'
          simp only at e2 hBk hz d2 hBk' hz' hts
          subst ha
          subst ha'
          obtain ⟨V, hV⟩ : ∃ V, wr.alloc (.cells #[.int .i64 m, .pointer qq, .int .i64 l] 67) = V := ⟨_, rfl⟩
          obtain ⟨hO, hbV⟩ := new_obj wr _ hV
          have HO : Hid (V.heap[wr.heap.size]? = some (.cells #[.int .i64 m, .pointer qq, .int .i64 l] 67)) := hO
          have HbV : Hid (RowKit.Below W.heap.size W V) := hF.out.trans (hbV.mono hF.out.size)
          have HPa : Hid (∀ w', RowKit.Below V.heap.size V w' → Calls Tryz.prog 40 #[.agg #[.int .i64 m, .pointer qq, .int .i64 l]] w' fun e w'' => e = .returned (.agg #[.string (txt z), .int .i64 l]) ∧ RowKit.Below w'.heap.size w' w'') := fun w' hb => plainP_any m qq l z w' ((hBk.below hbV).below hb) hz ((HT.out.under HbV.out).under hb)
          have HPb : Hid (∀ w', RowKit.Below V.heap.size V w' → Calls Tryz.prog 40 #[.agg #[.int .i64 m', .pointer qq', .int .i64 l']] w' fun e w'' => e = .returned (.agg #[.string (txt z'), .int .i64 l']) ∧ RowKit.Below w'.heap.size w' w'') := fun w' hb => plainP_any m' qq' l' z' w' ((hBk'.below hbV).below hb) hz' ((HT.out.under HbV.out).under hb)
          have hneq := ap_neq (txt z) (txt z') l l'
          rw [hts] at hneq
          have HAll : Hid (∀ w', RowKit.Below V.heap.size V w' → w'.heap[w.heap.size + 1]? = some (.cells #[.slice (some ⟨b', 0, none⟩) N c', .int .i64 n', .pointer q'] 35) ∧ w'.heap[wr.heap.size]? = some (.cells #[.int .i64 m, .pointer qq, .int .i64 l] 67) ∧ w'.cell? ⟨b', k * 3, none⟩ = some (.int .i64 m') ∧ w'.cell? ⟨b', k * 3 + 1, none⟩ = some (.pointer qq') ∧ w'.cell? ⟨b', k * 3 + 2, none⟩ = some (.int .i64 l')) := fun w' hb => by
            have hx := (HbV.out.block _ (Array.getElem?_eq_some_iff.1 HO2.out).1).trans HO2.out
            have hlt : b' < V.heap.size := Nat.lt_of_lt_of_le hbl' hbV.size
            exact ⟨(hb.block _ (Array.getElem?_eq_some_iff.1 hx).1).trans hx, (hb.block _ (Array.getElem?_eq_some_iff.1 hO).1).trans hO, (hb.cell (p := ⟨b', _, none⟩) hlt).trans ((hbV.cell (p := ⟨b', _, none⟩) hbl').trans d0), (hb.cell (p := ⟨b', _, none⟩) hlt).trans ((hbV.cell (p := ⟨b', _, none⟩) hbl').trans d1), (hb.cell (p := ⟨b', _, none⟩) hlt).trans ((hbV.cell (p := ⟨b', _, none⟩) hbl').trans d2)⟩
          have HW : Hid (RowKit.Below V.heap.size V V.drew) := (Below.refl _ _).drew
          have hall := HAll.out V.drew HW.out
          obtain ⟨y0, y1, y2, _, _, _⟩ := box3_facts hall.1
          obtain ⟨v0, v1, v2, _, _, _⟩ := box3_facts hall.2.1
          obtain ⟨_, _, y3, y4, y5⟩ := hall
          have Hnx : Hid (K.take (k + 1) = K'.take (k + 1) ↔ (z, l) = (z', l')) := hnx
          have Hne : Hid (K = K' → (z, l) = (z', l')) := hne
          obtain ⟨r, hr⟩ : ∃ r, (!decide ((z, l) = (z', l'))) = r := ⟨_, rfl⟩
          have Hr : Hid ((!decide ((z, l) = (z', l'))) = r) := hr
          rw [hr] at hneq
          generalize txt z = sz at *
          generalize txt z' = sz' at *
          clear hO hbV hBk hBk' hz hz' hts hnx hne hp hp' d0 d1 d2 hr
          go_wp2_with fail
          go_region_with (first | (go_at_call 40; refine calls_at (HPa.out _ HW.out) (by with_reducible rfl) (by with_reducible rfl) ?_; rintro e w2 ⟨rfl, hb2⟩; have HW : Hid (RowKit.Below V.heap.size V w2) := HW.out.trans (hb2.mono HW.out.size); have hall2 := HAll.out _ HW.out; obtain ⟨o0, o1, o2, _, _, _⟩ := box3_facts hall2.1; obtain ⟨_, _, o3, o4, o5⟩ := hall2; clear hb2) | (go_at_call 40; refine calls_at (HPb.out _ HW.out) (by with_reducible rfl) (by with_reducible rfl) ?_; rintro e w3 ⟨rfl, hb3⟩; have HW : Hid (RowKit.Below V.heap.size V w3) := HW.out.trans (hb3.mono HW.out.size); have hall3 := HAll.out _ HW.out; obtain ⟨s0, s1, s2, _, _, _⟩ := box3_facts hall3.2.1; clear hb3 hall3))
          all_goals
            cases r with
            | true =>
              have HRf : Hid (res = false) := by
                show _ = _
                rw [HR.out, decide_eq_false_iff_not]
                intro e
                have h1 := Hne.out e
                have h2 := Hr.out
                rw [decide_eq_true h1] at h2
                cases h2
              have hrf := HRf.out
              subst hrf
              go_wp2_with fail
              go_ret
              exact ⟨rfl, HbW.out.trans ((HbV.out.trans (HW.out.mono HbV.out.size)).mono HbW.out.size)⟩
            | false =>
              have HE2 : Hid (K.take (k + 1) = K'.take (k + 1)) := by
                refine Hnx.out.2 ?_
                have h2 := Hr.out
                simpa using h2
              have HF2 : Hid (RowKit.Below W.heap.size W _) := HbV.out.trans (HW.out.mono HbV.out.size)
              go_wp2_with fail
              go_roundw
              case rel => exact ⟨k + 1, by go_num, by omega, HF2, HE2⟩
              case measure => simp [intOf]; omega
        · obtain rfl : k = N := by omega
          have HRt : Hid (res = true) := by
            show _ = _
            rw [HR.out, decide_eq_true_iff]
            have h := hE.out
            rw [List.take_of_length_le (by have := HN.out; omega), List.take_of_length_le (by have := HN'.out; omega)] at h
            exact h
          have hrt := HRt.out
          subst hrt
          go_wp2_with fail
          go_ret
          exact ⟨rfl, HbW.out.trans (hF.out.mono HbW.out.size)⟩
    · have hD : ¬ D = D' := fun e => hc (Hc0.out.2 e)
      have hcb : (cc != 0) = true := by simp [hc]
      have hres : decide (K = K' ∧ D = D') = false := decide_eq_false (fun h => hD h.2)
      rw [hres]
      clear hc hD hres Hc0
      go_enter Tryz.func12, Tryz.ntmps12
      go_wp2_with (go_at_call 30; refine calls_at HC.out (by with_reducible rfl) (by with_reducible rfl) ?_; rintro e w1 ⟨rfl, hb1⟩)
      go_ret
      exact ⟨rfl, HbW.out.trans (hb1.mono HbW.out.size)⟩
  · have hres : decide (K = K' ∧ D = D') = false := decide_eq_false (fun h => hl (by rw [← HN.out, ← HN'.out, h.1]))
    have hlb : ((N : Int) != (N' : Int)) = true := by simp; omega
    rw [hres]
    clear hres hl Hc0
    go_enter Tryz.func12, Tryz.ntmps12
    go_wp2_with fail
    go_ret
    exact ⟨rfl, HbW.out⟩
end Go.Proofs.YtjffbndiecjkjaaGreatDoor
