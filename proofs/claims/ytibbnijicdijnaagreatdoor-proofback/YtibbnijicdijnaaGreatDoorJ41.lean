/-
  Put together: PfMb, PfMc.
-/
import Derived.Test.YtibbnijicdijnaaGreatDoorJ40
namespace Go.Proofs.YtibbnijicdijnaaGreatDoor
open Go.RowKit

/-- Digits, there and back. -/
theorem dval_pos {l : List UInt8} (h : sizeB l = true) : 1 ≤ dval l := by
  have h1 : l ≠ [] ∧ l.head? ≠ some 48 ∧ l.all isDig = true := by
    unfold sizeB at h
    simp only [Bool.and_eq_true, Bool.not_eq_true', bne_iff_ne, ne_eq] at h
    exact ⟨fun e => by rw [e] at h; simp at h, h.1.2, h.2⟩
  cases l with
  | nil => exact absurd rfl h1.1
  | cons c l =>
    have hc : isDig c = true := by have := h1.2.2; simp at this; exact this.1
    have hc8 : c ≠ 48 := fun e => h1.2.1 (by rw [e]; rfl)
    have hn : 1 ≤ c.toNat - 48 := by
      unfold isDig at hc
      have := of_decide_eq_true hc
      have h8 : c.toNat ≠ 48 := fun e => hc8 (UInt8.toNat_inj.1 (by rw [e]; rfl))
      omega
    have key : ∀ (t : List UInt8) (a : Nat), 1 ≤ a → 1 ≤ t.foldl (fun n c => 10 * n + (c.toNat - 48)) a := by
      intro t
      induction t with
      | nil => intro a ha; exact ha
      | cons d t ih =>
        intro a ha
        have h0 : 1 ≤ 10 * a + (d.toNat - 48) := by omega
        exact ih _ h0
    unfold dval
    rw [List.foldl_cons]
    exact key l _ (by omega)
theorem dec_back : ∀ (n : Nat) (l : List UInt8), l.length ≤ n → sizeB l = true → Lib.decDigits (dval l) = l := by
  intro n
  induction n with
  | zero =>
    intro l hl h
    have : l = [] := List.length_eq_zero_iff.1 (by omega)
    subst this
    cases h
  | succ n ih =>
    intro l hl h
    rcases List.eq_nil_or_concat l with rfl | ⟨t, c, rfl⟩
    · cases h
    · have h0 := h
      unfold sizeB at h
      simp only [Bool.and_eq_true, Bool.not_eq_true', bne_iff_ne, ne_eq, List.concat_eq_append, List.all_append, List.all_cons, List.all_nil, Bool.and_true] at h
      have hc : isDig c = true := h.2.2
      unfold isDig at hc
      have hcn := of_decide_eq_true hc
      have hb : UInt8.ofNat (48 + (c.toNat - 48)) = c := by
        have : 48 + (c.toNat - 48) = c.toNat := by omega
        rw [this]
        simp
      rw [List.concat_eq_append, dval_snoc]
      by_cases ht : t = []
      · subst ht
        rw [Lib.decDigits, dif_pos (by show 10 * 0 + (c.toNat - 48) < 10; omega)]
        show [UInt8.ofNat (48 + (10 * 0 + (c.toNat - 48)))] = _
        rw [Nat.mul_zero, Nat.zero_add, hb]
        rfl
      · have hs : sizeB t = true := by
          unfold sizeB
          simp only [Bool.and_eq_true, Bool.not_eq_true', bne_iff_ne, ne_eq]
          refine ⟨⟨by simp [ht], fun e => h.1.2 ?_⟩, h.2.1⟩
          cases t with
          | nil => exact absurd rfl ht
          | cons d t => simpa using e
        have hp := dval_pos hs
        have e1 : (10 * dval t + (c.toNat - 48)) / 10 = dval t := by omega
        have e2 : (10 * dval t + (c.toNat - 48)) % 10 = c.toNat - 48 := by omega
        rw [Lib.decDigits, dif_neg (by omega), e1, e2, hb, ih t (by simp at hl; omega) hs]
/-- A word that may stand in a line. -/
def Gw (x : List UInt8) : Prop := x ≠ [] ∧ ∀ c ∈ x, blk c = false ∧ c ≠ 10
theorem Gw.pw {x : List UInt8} (h : Gw x) : Pw x := ⟨h.1, fun c hc => (h.2 c hc).1⟩
theorem dig_good {c : UInt8} (h : isDig c = true) : blk c = false ∧ c ≠ 10 := by
  unfold isDig at h
  have := of_decide_eq_true h
  have key : ∀ k : UInt8, k.toNat < 48 → c ≠ k := fun k hk e => by rw [e] at this; omega
  refine ⟨?_, key 10 (by decide)⟩
  unfold blk
  simp [key 32 (by decide), key 9 (by decide)]
theorem dig_not {c : UInt8} (h : isDig c = true) (k : UInt8) (hk : k.toNat < 48) : c ≠ k := fun e => by
  unfold isDig at h
  have := of_decide_eq_true h
  rw [e] at this
  omega
theorem parse_good {x : List UInt8} (h : (parseZ x).isSome = true) : Gw x ∧ ∀ c ∈ x, c = 45 ∨ isDig c = true := by
  have h1 : x = [48] ∨ sizeB (digitsOf x) = true := by
    unfold parseZ at h
    split at h
    · assumption
    · cases h
  have key : x ≠ [] ∧ ∀ c ∈ x, c = 45 ∨ isDig c = true := by
    rcases h1 with rfl | h1
    · exact ⟨by decide, fun c hc => by simp at hc; subst hc; exact .inr (by decide)⟩
    · have h2 : (digitsOf x) ≠ [] ∧ ∀ c ∈ digitsOf x, isDig c = true := by
        unfold sizeB at h1
        simp only [Bool.and_eq_true, Bool.not_eq_true', List.all_eq_true] at h1
        exact ⟨fun e => by rw [e] at h1; simp at h1, h1.2⟩
      cases x with
      | nil => exact absurd rfl h2.1
      | cons c x =>
        refine ⟨by simp, fun d hd => ?_⟩
        by_cases hc : c = 45
        · subst hc
          have e : digitsOf (45 :: x) = x := by simp [digitsOf, Lib.trimPrefix, Lib.hasPrefix, List.isPrefixOf]
          rw [e] at h2
          rcases List.mem_cons.1 hd with rfl | hd
          · exact .inl rfl
          · exact .inr (h2.2 d hd)
        · have e : digitsOf (c :: x) = c :: x := by
            unfold digitsOf Lib.trimPrefix Lib.hasPrefix
            rw [if_neg]
            simp [List.isPrefixOf]
            exact fun e => hc e.symm
          rw [e] at h2
          exact .inr (h2.2 d hd)
  refine ⟨⟨key.1, fun c hc => ?_⟩, key.2⟩
  rcases key.2 c hc with rfl | h3
  · decide
  · exact dig_good h3
theorem bad_parse {x : List UInt8} {g : Int} (h : badN x g = false) : (parseZ x).isSome = true := by
  unfold badN at h
  cases hp : parseZ x with
  | none => rw [hp] at h; simp at h
  | some z => rfl
theorem bad_good {x : List UInt8} {g : Int} (h : badN x g = false) : Gw x := (parse_good (bad_parse h)).1
theorem bad_not {x : List UInt8} {g : Int} (h : badN x g = false) (k : UInt8) (hk : k ≠ 45 ∧ isDig k = false) (t : List UInt8) : x ≠ k :: t := fun e => by
  have := (parse_good (bad_parse h)).2 k (by rw [e]; exact List.mem_cons_self)
  rcases this with h1 | h1
  · exact hk.1 h1
  · rw [hk.2] at h1; cases h1

/-- What a literal's word is. -/
theorem lit_word {y : List UInt8} (h : (litP y).2 = true) : ∃ ds, sizeB ds = true ∧ 1 ≤ dval ds ∧ dval ds ≤ 1073741824 ∧ ((y = 120 :: ds ∧ (litP y).1 = (dval ds : Int)) ∨ (y = 126 :: 120 :: ds ∧ (litP y).1 = -(dval ds : Int))) := by
  unfold litP at h ⊢
  obtain ⟨u, hu⟩ : ∃ u, Lib.trimPrefix y [126] = u := ⟨_, rfl⟩
  rw [hu] at h ⊢
  by_cases hx : Lib.hasPrefix u [120] = true
  · rw [if_pos hx] at h ⊢
    obtain ⟨ds, hds⟩ : ∃ ds, Lib.trimPrefix u [120] = ds := ⟨_, rfl⟩
    rw [hds] at h ⊢
    by_cases hv : 1 ≤ smallV ((parseZ ds).getD 0) ∧ smallV ((parseZ ds).getD 0) ≤ 1073741824
    · rw [if_pos hv] at h ⊢
      have hu2 : u = 120 :: ds := by
        cases u with
        | nil => cases hx
        | cons c u =>
          have : c = 120 := by unfold Lib.hasPrefix at hx; simp [List.isPrefixOf] at hx; exact hx.symm
          subst this
          rw [← hds]
          simp [Lib.trimPrefix, Lib.hasPrefix, List.isPrefixOf]
      obtain ⟨z, hz⟩ : ∃ z, parseZ ds = some z := by
        cases hp : parseZ ds with
        | none => rw [hp] at hv; exact absurd hv.1 (by decide)
        | some z => exact ⟨z, rfl⟩
      rw [hz] at hv ⊢
      simp only [Option.getD_some] at hv ⊢
      have hsz : smallV z = z := by
        unfold smallV at hv ⊢
        split
        · rfl
        · rename_i h0; rw [if_neg h0] at hv; exact absurd hv.1 (by decide)
      rw [hsz] at hv ⊢
      have hp := hz
      unfold parseZ at hp
      split at hp
      · rename_i hc
        have hp' := Option.some.inj hp
        cases hm : minus ds with
        | true =>
          rw [hm] at hp'
          unfold sg at hp'
          simp at hp'
          omega
        | false =>
          rw [hm] at hp'
          have hdd : digitsOf ds = ds := by
            unfold minus at hm
            unfold digitsOf Lib.trimPrefix
            rw [if_neg (by rw [hm]; decide)]
          rw [hdd] at hp' hc
          unfold sg at hp'
          simp at hp'
          have hs : sizeB ds = true := by
            rcases hc with rfl | hc
            · have : dval [48] = 0 := rfl
              rw [this] at hp'
              omega
            · exact hc
          refine ⟨ds, hs, by omega, by omega, ?_⟩
          by_cases hy : Lib.hasPrefix y [126] = true
          · right
            refine ⟨?_, by simp [hy]; omega⟩
            cases y with
            | nil => cases hy
            | cons c y =>
              have : c = 126 := by unfold Lib.hasPrefix at hy; simp [List.isPrefixOf] at hy; exact hy.symm
              subst this
              have : Lib.trimPrefix (126 :: y) [126] = y := by simp [Lib.trimPrefix, Lib.hasPrefix, List.isPrefixOf]
              rw [this] at hu
              rw [hu, hu2]
          · left
            refine ⟨?_, by simp [hy]; omega⟩
            have : Lib.trimPrefix y [126] = y := by unfold Lib.trimPrefix; rw [if_neg hy]
            rw [this] at hu
            rw [hu, hu2]
      · cases hp
    · rw [if_neg hv] at h; cases h
  · rw [if_neg hx] at h; cases h
theorem size_head {ds : List UInt8} (h : sizeB ds = true) : Lib.hasPrefix ds [45] = false := by
  cases ds with
  | nil => rfl
  | cons c ds =>
    have hc : isDig c = true := by unfold sizeB at h; simp at h; exact h.2.1
    have := dig_not hc 45 (by decide)
    unfold Lib.hasPrefix
    simp [List.isPrefixOf]
    exact fun e => this e.symm
theorem lit_back {y : List UInt8} (h : (litP y).2 = true) : litT (litP y).1 = y := by
  obtain ⟨ds, h1, h2, h3, h4⟩ := lit_word h
  have hd := dec_back ds.length ds (Nat.le_refl _) h1
  have hh := size_head h1
  rcases h4 with ⟨rfl, h5⟩ | ⟨rfl, h5⟩
  · rw [h5]
    have e : Lib.itoa (dval ds : Int) = ds := by unfold Lib.itoa; rw [if_neg (by omega), Int.toNat_natCast, hd]
    unfold litT
    rw [e, hh]
    simp [Lib.trimPrefix, hh]
  · rw [h5]
    have e : Lib.itoa (-(dval ds : Int)) = 45 :: ds := by
      unfold Lib.itoa
      rw [if_pos (by omega)]
      have : (-(dval ds : Int)).natAbs = dval ds := by omega
      rw [this, hd]
    unfold litT
    rw [e]
    simp [Lib.trimPrefix, Lib.hasPrefix, List.isPrefixOf]
/-- A literal. -/
def okLi (n : Int) : Prop := litP (litT n) = (n, true)
theorem lit_ok {y : List UInt8} (h : (litP y).2 = true) : okLi (litP y).1 := by
  unfold okLi
  rw [lit_back h, ← h]
theorem okLi.good {n : Int} (h : okLi n) : Gw (litT n) ∧ -1073741824 ≤ n ∧ n ≤ 1073741824 ∧ ∃ t, litT n = 120 :: t ∨ litT n = 126 :: t := by
  unfold okLi at h
  have h2 : (litP (litT n)).2 = true := by rw [h]
  obtain ⟨ds, h1, h3, h4, h5⟩ := lit_word h2
  have h6 : ∀ c ∈ ds, blk c = false ∧ c ≠ 10 := by
    unfold sizeB at h1
    simp only [Bool.and_eq_true, List.all_eq_true] at h1
    exact fun c hc => dig_good (h1.2 c hc)
  rcases h5 with ⟨e, h7⟩ | ⟨e, h7⟩
  · rw [h] at h7
    simp only [] at h7
    refine ⟨?_, by omega, by omega, ⟨_, .inl e⟩⟩
    rw [e]
    refine ⟨by simp, fun c hc => ?_⟩
    rcases List.mem_cons.1 hc with rfl | hc
    · decide
    · exact h6 c hc
  · rw [h] at h7
    simp only [] at h7
    refine ⟨?_, by omega, by omega, ⟨_, .inr e⟩⟩
    rw [e]
    refine ⟨by simp, fun c hc => ?_⟩
    rcases List.mem_cons.1 hc with rfl | hc
    · decide
    · rcases List.mem_cons.1 hc with rfl | hc
      · decide
      · exact h6 c hc
theorem okLi.two {n : Int} (h : okLi n) : (litP (litT n)).2 = true ∧ (litP (litT n)).1 = n := by
  unfold okLi at h
  rw [h]
  exact ⟨rfl, rfl⟩

/-- Nothing is read behind a fault. -/
theorem whole_bad {x : List UInt8} {g : Int} {s : Ls} (h : s.2.isSome = true) : wholeP x g s = s := by
  unfold wholeP
  split
  · exact fail_bad h
  · rfl
theorem literal_bad {x : List UInt8} {s : Ls} (h : s.2.isSome = true) : literalP x s = s := by
  unfold literalP
  split
  · rfl
  · exact fail_bad h
theorem must_bad {x : List UInt8} {s : Ls} (h : s.2.isSome = true) : mustP x s = s := by
  unfold mustP
  rw [next_bad h]
  simp [fail_bad h]
theorem row_bad {n : Nat} {x : List UInt8} {s : Ls} (h : s.2.isSome = true) : rowL n x s = ([], s) := by
  cases n with
  | zero => rfl
  | succ n => exact rowL_stop (.inr h)
theorem rowP_bad {s : Ls} (h : s.2.isSome = true) : (rowP s).2 = s := by
  unfold rowP
  rw [next_bad h]
  simp only []
  rw [row_bad h]
  simp only []
  rw [next_bad h]
  simp only []
  rw [whole_bad h, must_bad h]
theorem list_bad {rd : List UInt8 → Ls → Ls} {s : Ls} (h : s.2.isSome = true) : listP rd s = ([], s) := lst_bad h
theorem oper_bad {x : List UInt8} {s : Ls} (h : s.2.isSome = true) : (operP x s).2 = s := by
  unfold operP
  split
  · rfl
  · unfold operS
    split
    · simp only []; rw [fail_bad h, whole_bad h]
    · exact whole_bad h
theorem turn_bad {fr tk : Int} {A : List OpL} {s : Ls} (h : s.2.isSome = true) : (turnP fr tk A s).2 = s := by
  unfold turnP
  split
  · exact fail_bad h
  · split
    · rfl
    · exact fail_bad h
theorem op_bad {x : List UInt8} {A : List OpL} {s : Ls} (h : s.2.isSome = true) : (opP x A s).2 = s := by
  unfold opP
  repeat' split
  all_goals first | rfl | exact turn_bad h | exact oper_bad h
theorem lops_bad : ∀ (n : Nat) (A : List OpL) (s : Ls), s.2.isSome = true → (lopsP n A s).2 = s := by
  intro n A s h
  cases n with
  | zero => rfl
  | succ n => rw [lops_stop (x := []) (by rw [take_bad h]), take_bad h]
theorem opsP_bad {s : Ls} (h : s.2.isSome = true) : (opsP s).2 = s := by
  unfold opsP
  rw [next_bad h]
  simp only []
  have := op_bad (x := []) (A := []) h
  rw [this]
  exact lops_bad _ _ _ h

/-- A row's words. -/
def okPc (o : PcL) : Prop := badN o.1 (-1) = false ∧ okLi o.2
theorem rowL_ok : ∀ (n : Nat) (x r : List UInt8) (L : List (List UInt8)), Tk r L → L.length < n → (rowL n x (r, none)).2.2 = none → x ≠ [62, 61] → ∃ P L2 r', x :: L = pcsT P ++ [62, 61] :: L2 ∧ (∀ o ∈ P, okPc o) ∧ rowL n x (r, none) = (P, (r', none)) ∧ Tk r' L2 := by
  intro n
  induction n with
  | zero => intro x r L _ h; exact absurd h (Nat.not_lt_zero _)
  | succ n ih =>
    intro x r L hT hn h0 hx
    have hc : ¬ (x = [62, 61] ∨ ((r, none) : Ls).2.isSome = true) := by rintro (h | h); exact hx h; cases h
    have e := rowL_more (n := n) hc
    rw [e] at h0
    simp only [] at h0
    have hb : (nextP (pcB x (r, none))).2.2 = none := by
      cases hs : (nextP (pcB x (r, none))).2.2 with
      | none => rfl
      | some z => rw [row_bad (by rw [hs]; rfl)] at h0; simp only [] at h0; rw [hs] at h0; cases h0
    have hb1 : (pcB x (r, none)).2 = none := by
      cases hs : (pcB x (r, none)).2 with
      | none => rfl
      | some z => rw [next_bad (by rw [hs]; rfl)] at hb; simp only [] at hb; rw [hs] at hb; cases hb
    have hb2 := hb1
    unfold pcB at hb2
    obtain ⟨k1, k2, k3⟩ := literal_ok hb2
    have hA : (pcA x (r, none)).2 = none := by
      cases hs : (pcA x (r, none)).2 with
      | none => rfl
      | some z => rw [next_bad (by rw [hs]; rfl)] at k3; simp only [] at k3; rw [hs] at k3; cases k3
    have hA2 := hA
    unfold pcA at hA2
    obtain ⟨a1, a2, _⟩ := whole_ok hA2
    have ePA : pcA x (r, none) = (r, none) := a2
    rw [ePA] at k3 k2
    obtain ⟨y, M, r1, c1, c2, c3, _⟩ := next_ok (s := (r, none)) hT k3
    have ePY : pcY x (r, none) = y := by unfold pcY; rw [ePA, c2]
    have ePB : pcB x (r, none) = (r1, none) := by unfold pcB; rw [ePA, k2, c2]
    rw [ePY] at k1
    rw [ePB] at hb
    obtain ⟨z, M2, r2, d1, d2, d3, _⟩ := next_ok (s := (r1, none)) c3 hb
    rw [ePY, ePB, d2] at e
    rw [ePB, d2] at h0
    simp only [] at e h0
    have hyz : pcsT [(x, (litP y).1)] = [x, y] := by simp [pcsT, lit_back k1]
    have hpc : okPc (x, (litP y).1) := ⟨a1, lit_ok k1⟩
    by_cases hz : z = [62, 61]
    · have hn1 : 1 ≤ n := by rw [c1, d1] at hn; simp at hn; omega
      obtain ⟨m, rfl⟩ : ∃ m, n = m + 1 := ⟨n - 1, by omega⟩
      have es : rowL (m + 1) z (r2, none) = ([], (r2, none)) := rowL_stop (.inl hz)
      refine ⟨[(x, (litP y).1)], M2, r2, ?_, ?_, ?_, d3⟩
      · rw [hyz, c1, d1, hz]; rfl
      · intro o ho; simp at ho; rw [ho]; exact hpc
      · rw [e, es]
    · obtain ⟨P, L2, r', g1, g2, g3, g4⟩ := ih z r2 M2 d3 (by rw [c1, d1] at hn; simp at hn; omega) h0 hz
      refine ⟨(x, (litP y).1) :: P, L2, r', ?_, ?_, ?_, g4⟩
      · have : pcsT ((x, (litP y).1) :: P) = [x, y] ++ pcsT P := by rw [← hyz]; simp [pcsT]
        rw [this, c1, d1, g1]
        simp
      · intro o ho
        rcases List.mem_cons.1 ho with rfl | ho
        · exact hpc
        · exact g2 o ho
      · rw [e, g3]
theorem rowL_yes : ∀ (P : List PcL) (n : Nat) (x r : List UInt8) (L L2 : List (List UInt8)), Tk r L → P.length < n → x :: L = pcsT P ++ [62, 61] :: L2 → (∀ o ∈ P, okPc o) → ∃ r', rowL n x (r, none) = (P, (r', none)) ∧ Tk r' L2 := by
  intro P
  induction P with
  | nil =>
    intro n x r L L2 hT hn hx _
    obtain ⟨m, rfl⟩ : ∃ m, n = m + 1 := ⟨n - 1, by simp at hn; omega⟩
    simp [pcsT] at hx
    exact ⟨r, rowL_stop (.inl hx.1), by rw [← hx.2]; exact hT⟩
  | cons o P ih =>
    intro n x r L L2 hT hn hx ho
    obtain ⟨m, rfl⟩ : ∃ m, n = m + 1 := ⟨n - 1, by simp at hn; omega⟩
    have e1 : pcsT (o :: P) = [o.1, litT o.2] ++ pcsT P := by simp [pcsT]
    rw [e1] at hx
    simp at hx
    obtain ⟨hx1, hx2⟩ := hx
    obtain ⟨hb, hl⟩ := ho o List.mem_cons_self
    have hne : x ≠ [62, 61] := by rw [hx1]; exact bad_not hb 62 (by decide) [61]
    have e := rowL_more (n := m) (x := x) (s := (r, none)) (by rintro (h | h); exact hne h; cases h)
    have ePA : pcA x (r, none) = (r, none) := by unfold pcA; rw [hx1]; exact whole_yes hb
    rw [hx2] at hT
    obtain ⟨r1, c2, c3⟩ := tk_next hT
    have ePY : pcY x (r, none) = litT o.2 := by unfold pcY; rw [ePA, c2]
    have ePB : pcB x (r, none) = (r1, none) := by unfold pcB; rw [ePY, ePA, c2]; exact literal_yes hl.two.1
    obtain ⟨z, M2, hz⟩ : ∃ z M2, pcsT P ++ [62, 61] :: L2 = z :: M2 := by
      cases hq : pcsT P ++ [62, 61] :: L2 with
      | nil => simp at hq
      | cons z M2 => exact ⟨z, M2, rfl⟩
    rw [hz] at c3
    obtain ⟨r2, d2, d3⟩ := tk_next c3
    rw [ePY, ePB, d2, hl.two.2] at e
    simp only [] at e
    obtain ⟨r', g1, g2⟩ := ih m z r2 M2 L2 d3 (by simp at hn; omega) hz.symm fun o' h' => ho o' (List.mem_cons_of_mem _ h')
    exact ⟨r', by rw [e, g1, hx1], g2⟩
theorem row_ok {s : Ls} {L : List (List UInt8)} (h : Tk s.1 L) (hn : (rowP s).2.2 = none) : ∃ P deg L2 r', L = rowT P deg ++ L2 ∧ (∀ o ∈ P, okPc o) ∧ badN deg (-1) = false ∧ rowP s = ((P, deg), (r', none)) ∧ Tk r' L2 ∧ s.2 = none := by
  have hs : s.2 = none := by
    cases hs : s.2 with
    | none => rfl
    | some z => rw [rowP_bad (by rw [hs]; rfl), hs] at hn; cases hn
  obtain ⟨r, o⟩ := s
  simp only [] at hs
  subst hs
  have hn0 := hn
  unfold rowP at hn
  simp only [] at hn
  obtain ⟨R, hR⟩ : ∃ R, rowL (r.length + 3) (nextP (r, none)).1 (nextP (r, none)).2 = R := ⟨_, rfl⟩
  rw [hR] at hn
  have w1 : (wholeP (nextP R.2).1 (-1) (nextP R.2).2).2 = none := by
    cases hs : (wholeP (nextP R.2).1 (-1) (nextP R.2).2).2 with
    | none => rfl
    | some z => rw [must_bad (by rw [hs]; rfl), hs] at hn; cases hn
  obtain ⟨w2, w3, w4⟩ := whole_ok w1
  have hR2 : R.2.2 = none := by
    cases hs : R.2.2 with
    | none => rfl
    | some z => rw [next_bad (by rw [hs]; rfl)] at w4; simp only [] at w4; rw [hs] at w4; cases w4
  have hn1 : (nextP (r, none)).2.2 = none := by
    cases hs : (nextP (r, none)).2.2 with
    | none => rfl
    | some z => rw [row_bad (by rw [hs]; rfl)] at hR; rw [← hR] at hR2; simp only [] at hR2; rw [hs] at hR2; cases hR2
  obtain ⟨x, M, r1, c1, c2, c3, _⟩ := next_ok (s := (r, none)) h hn1
  rw [c2] at hR
  simp only [] at hR
  have key : ∃ P L2 r2, x :: M = pcsT P ++ [62, 61] :: L2 ∧ (∀ o ∈ P, okPc o) ∧ R = (P, (r2, none)) ∧ Tk r2 L2 := by
    by_cases hx : x = [62, 61]
    · rw [rowL_stop (n := r.length + 2) (.inl hx)] at hR
      exact ⟨[], M, r1, by rw [hx]; rfl, fun o ho => absurd ho List.not_mem_nil, hR.symm, c3⟩
    · obtain ⟨P, L2, r2, g1, g2, g3, g4⟩ := rowL_ok (r.length + 3) x r1 M c3 (by have := tk_count h; rw [c1] at this; simp at this; omega) (by rw [hR]; exact hR2) hx
      exact ⟨P, L2, r2, g1, g2, by rw [← hR, g3], g4⟩
  obtain ⟨P, L2, r2, g1, g2, g3, g4⟩ := key
  rw [g3] at w4 w3 w2 hn
  simp only [] at w4 w3 w2 hn
  obtain ⟨deg, M2, r3, d1, d2, d3, _⟩ := next_ok (s := (r2, none)) g4 w4
  rw [w3] at hn
  rw [d2] at hn w2 w3
  simp only [] at hn w2 w3
  obtain ⟨M3, r4, f1, f2, f3, _⟩ := must_ok (s := (r3, none)) d3 hn
  refine ⟨P, deg, M3, r4, ?_, g2, w2, ?_, f3, rfl⟩
  · rw [c1, g1, d1, f1]
    simp [rowT]
  · unfold rowP
    rw [c2]
    simp only []
    rw [hR, g3]
    simp only []
    rw [d2]
    simp only []
    rw [w3, f2]
theorem row_yes {r : List UInt8} {P : List PcL} {deg : List UInt8} {L2 : List (List UInt8)} (h : Tk r (rowT P deg ++ L2)) (hP : ∀ o ∈ P, okPc o) (hd : badN deg (-1) = false) : ∃ r', rowP (r, none) = ((P, deg), (r', none)) ∧ Tk r' L2 := by
  have e0 : rowT P deg ++ L2 = pcsT P ++ [62, 61] :: (deg :: [59] :: L2) := by simp [rowT]
  rw [e0] at h
  obtain ⟨x, M, hx⟩ : ∃ x M, pcsT P ++ [62, 61] :: (deg :: [59] :: L2) = x :: M := by
    cases hq : pcsT P ++ [62, 61] :: (deg :: [59] :: L2) with
    | nil => simp at hq
    | cons z M2 => exact ⟨z, M2, rfl⟩
  have hc := tk_count h
  have hpl : P.length ≤ (pcsT P).length := by
    clear h hP e0 hx hc
    induction P with
    | nil => simp
    | cons o P ih => simp [pcsT] at ih ⊢; omega
  rw [hx] at h
  obtain ⟨r1, c2, c3⟩ := tk_next h
  obtain ⟨r2, g1, g2⟩ := rowL_yes P (r.length + 3) x r1 M _ c3 (by simp at hc; omega) hx.symm hP
  obtain ⟨r3, d2, d3⟩ := tk_next g2
  obtain ⟨r4, f2, f3⟩ := must_yes d3
  refine ⟨r4, ?_, f3⟩
  unfold rowP
  simp only []
  rw [c2]
  simp only []
  rw [g1]
  simp only []
  rw [d2]
  simp only []
  rw [whole_yes hd, f2]
end Go.Proofs.YtibbnijicdijnaaGreatDoor

namespace Go.Proofs.YtibbnijicdijnaaGreatDoor
open Go.RowKit

/-- What a word does to a row of operations, where it is right. -/
def opW (x : List UInt8) (A : List OpL) : Option (List OpL) := if (opP x A ([], none)).2.2 = none then some (opP x A ([], none)).1 else none
theorem fail_at (e : Int) (r : List UInt8) : failP e (r, none) = (r, some e) := rfl
theorem whole_at (x : List UInt8) (g : Int) (r : List UInt8) (o : Option Int) : wholeP x g (r, o) = (r, (wholeP x g ([], o)).2) := by
  unfold wholeP failP
  split
  · cases o <;> rfl
  · rfl
theorem oper_at (x : List UInt8) (r : List UInt8) : operP x (r, none) = ((operP x ([], none)).1, (r, (operP x ([], none)).2.2)) := by
  unfold operP operS
  split
  · rfl
  · split
    · rw [fail_at, fail_at, whole_at]
    · rw [whole_at]
theorem turn_at (fr tk : Int) (A : List OpL) (r : List UInt8) : turnP fr tk A (r, none) = ((turnP fr tk A ([], none)).1, (r, (turnP fr tk A ([], none)).2.2)) := by
  unfold turnP
  split
  · rfl
  · split <;> rfl
theorem op_at (x : List UInt8) (A : List OpL) (r : List UInt8) : opP x A (r, none) = ((opP x A ([], none)).1, (r, (opP x A ([], none)).2.2)) := by
  unfold opP
  repeat' split
  all_goals first | rfl | rw [turn_at] | rw [oper_at]
theorem opW_some {x : List UInt8} {A F : List OpL} (h : opW x A = some F) (r : List UInt8) : opP x A (r, none) = (F, (r, none)) := by
  unfold opW at h
  split at h
  · rename_i h0
    rw [op_at, h0, Option.some.inj h]
  · cases h
theorem opW_of {x : List UInt8} {A : List OpL} {r : List UInt8} (h : (opP x A (r, none)).2.2 = none) : ∃ F, opW x A = some F := by
  rw [op_at] at h
  unfold opW
  simp only [] at h
  rw [if_pos h]
  exact ⟨_, rfl⟩
def runW : List (List UInt8) → List OpL → Option (List OpL)
  | [], A => some A
  | x :: L, A => match opW x A with
    | some B => runW L B
    | none => none
theorem lops_ok : ∀ (L : List (List UInt8)) (n : Nat) (A : List OpL) (r : List UInt8), Tk r L → L.length < n → (lopsP n A (r, none)).2.2 = none → ∃ F r', runW L A = some F ∧ lopsP n A (r, none) = (F, (r', none)) ∧ Tk r' [] := by
  intro L
  induction L with
  | nil =>
    intro n A r h hn _
    obtain ⟨n, rfl⟩ : ∃ m, n = m + 1 := ⟨n - 1, by simp at hn; omega⟩
    exact ⟨A, r, rfl, by rw [lops_stop (x := []) (by rw [tk_stop h]), tk_stop h], h⟩
  | cons x L ih =>
    intro n A r h hn h0
    obtain ⟨n, rfl⟩ : ∃ m, n = m + 1 := ⟨n - 1, by simp at hn; omega⟩
    obtain ⟨r', h1, h2⟩ := tk_take h
    have e : lopsP (n + 1) A (r, none) = lopsP n (opP x A (r', none)).1 (opP x A (r', none)).2 := by rw [lops_more (x := x) (by rw [h1]), h1]
    rw [e] at h0
    have hb : (opP x A (r', none)).2.2 = none := by
      cases hs : (opP x A (r', none)).2.2 with
      | none => rfl
      | some z => rw [lops_bad _ _ _ (by rw [hs]; rfl), hs] at h0; cases h0
    obtain ⟨B, hB⟩ := opW_of hb
    rw [opW_some hB] at e h0
    obtain ⟨F, r2, a1, a2, a3⟩ := ih n B r' h2 (by simp at hn; omega) h0
    exact ⟨F, r2, by unfold runW; rw [hB]; exact a1, by rw [e]; exact a2, a3⟩
theorem lops_yes : ∀ (L : List (List UInt8)) (n : Nat) (A F : List OpL) (r : List UInt8), Tk r L → L.length < n → runW L A = some F → ∃ r', lopsP n A (r, none) = (F, (r', none)) ∧ Tk r' [] := by
  intro L
  induction L with
  | nil =>
    intro n A F r h hn h0
    obtain ⟨n, rfl⟩ : ∃ m, n = m + 1 := ⟨n - 1, by simp at hn; omega⟩
    have : A = F := Option.some.inj h0
    subst this
    exact ⟨r, by rw [lops_stop (x := []) (by rw [tk_stop h]), tk_stop h], h⟩
  | cons x L ih =>
    intro n A F r h hn h0
    obtain ⟨n, rfl⟩ : ∃ m, n = m + 1 := ⟨n - 1, by simp at hn; omega⟩
    obtain ⟨r', h1, h2⟩ := tk_take h
    have e : lopsP (n + 1) A (r, none) = lopsP n (opP x A (r', none)).1 (opP x A (r', none)).2 := by rw [lops_more (x := x) (by rw [h1]), h1]
    unfold runW at h0
    cases hB : opW x A with
    | none => rw [hB] at h0; cases h0
    | some B =>
      rw [hB] at h0
      rw [opW_some hB] at e
      obtain ⟨r2, a2, a3⟩ := ih n B F r' h2 (by simp at hn; omega) h0
      exact ⟨r2, by rw [e]; exact a2, a3⟩
theorem ops_ok {s : Ls} {L : List (List UInt8)} (h : Tk s.1 L) (hn : (opsP s).2.2 = none) : ∃ F r', L ≠ [] ∧ runW L [] = some F ∧ opsP s = (F, (r', none)) ∧ Tk r' [] ∧ s.2 = none := by
  have hs : s.2 = none := by
    cases hs : s.2 with
    | none => rfl
    | some z => rw [opsP_bad (by rw [hs]; rfl), hs] at hn; cases hn
  obtain ⟨r, o⟩ := s
  simp only [] at hs
  subst hs
  have hn0 := hn
  unfold opsP at hn
  simp only [] at hn
  have w1 : (opP (nextP (r, none)).1 [] (nextP (r, none)).2).2.2 = none := by
    cases hs : (opP (nextP (r, none)).1 [] (nextP (r, none)).2).2.2 with
    | none => rfl
    | some z => rw [lops_bad _ _ _ (by rw [hs]; rfl), hs] at hn; cases hn
  have w2 : (nextP (r, none)).2.2 = none := by
    cases hs : (nextP (r, none)).2.2 with
    | none => rfl
    | some z => rw [op_bad (by rw [hs]; rfl), hs] at w1; cases w1
  obtain ⟨x, M, r1, c1, c2, c3, _⟩ := next_ok (s := (r, none)) h w2
  rw [c2] at w1 hn
  simp only [] at w1 hn
  obtain ⟨B, hB⟩ := opW_of w1
  rw [opW_some hB] at hn
  simp only [] at hn
  obtain ⟨F, r2, a1, a2, a3⟩ := lops_ok M _ B r1 c3 (by have := tk_count h; rw [c1] at this; simp at this; omega) hn
  refine ⟨F, r2, by rw [c1]; simp, ?_, ?_, a3, rfl⟩
  · rw [c1]; unfold runW; rw [hB]; exact a1
  · unfold opsP
    simp only []
    rw [c2]
    simp only []
    rw [opW_some hB]
    exact a2
theorem ops_yes {r : List UInt8} {L : List (List UInt8)} {F : List OpL} (h : Tk r L) (h0 : L ≠ []) (hr : runW L [] = some F) : ∃ r', opsP (r, none) = (F, (r', none)) ∧ Tk r' [] := by
  cases L with
  | nil => exact absurd rfl h0
  | cons x M =>
    have hc := tk_count h
    obtain ⟨r1, c2, c3⟩ := tk_next h
    unfold runW at hr
    cases hB : opW x [] with
    | none => rw [hB] at hr; cases hr
    | some B =>
      rw [hB] at hr
      obtain ⟨r2, a2, a3⟩ := lops_yes M (r.length + 1) B F r1 c3 (by simp at hc; omega) hr
      refine ⟨r2, ?_, a3⟩
      unfold opsP
      simp only []
      rw [c2]
      simp only []
      rw [opW_some hB]
      exact a2
theorem opsT_app (A B : List OpL) : opsT (A ++ B) = opsT A ++ opsT B := by simp [opsT]
theorem opsT_one (o : OpL) : opsT [o] = opT o := by simp [opsT]
/-- A number that stands for itself. -/
def okOp (o : OpL) : Prop := -1073741824 ≤ o.2.2 ∧ o.2.2 ≤ 1073741824
theorem turn_ok {fr tk : Int} {A : List OpL} {r : List UInt8} (h : (turnP fr tk A (r, none)).2.2 = none) : ∃ M o, A = M ++ [o] ∧ o.1 = fr ∧ (turnP fr tk A (r, none)).1 = M ++ [(tk, o.2)] := by
  rcases List.eq_nil_or_concat A with rfl | ⟨M, o, rfl⟩
  · rw [turn_nil] at h; cases h
  · rw [List.concat_eq_append] at h ⊢
    rw [turn_app] at h ⊢
    split at h
    · rename_i h1
      exact ⟨M, o, rfl, h1.1, by rw [if_pos h1]⟩
    · cases h
theorem opW_is {x : List UInt8} {A F : List OpL} (h : opW x A = some F) : opsT F = opsT A ++ [x] ∧ Gw x ∧ ((∀ o ∈ A, okOp o) → ∀ o ∈ F, okOp o) := by
  have h1 := opW_some h []
  have hn : (opP x A ([], none)).2.2 = none := by rw [h1]
  have hF : F = (opP x A ([], none)).1 := by rw [h1]
  have add : ∀ o : OpL, F = A ++ [o] → opT o = [x] → okOp o → Gw x → opsT F = opsT A ++ [x] ∧ Gw x ∧ ((∀ o ∈ A, okOp o) → ∀ o ∈ F, okOp o) := by
    intro o e1 e2 e3 e4
    refine ⟨by rw [e1, opsT_app, opsT_one, e2], e4, fun hA p hp => ?_⟩
    rw [e1] at hp
    rcases List.mem_append.1 hp with hp | hp
    · exact hA p hp
    · simp at hp; rw [hp]; exact e3
  have trn : ∀ (fr tk : Int), opP x A ([], none) = turnP fr tk A ([], none) → (∀ o : OpL, o.1 = fr → opT (tk, o.2) = opT o ++ [x]) → Gw x → opsT F = opsT A ++ [x] ∧ Gw x ∧ ((∀ o ∈ A, okOp o) → ∀ o ∈ F, okOp o) := by
    intro fr tk e1 e2 e3
    rw [e1] at hn hF
    obtain ⟨M, o, g1, g2, g3⟩ := turn_ok hn
    rw [g3] at hF
    refine ⟨by rw [hF, g1, opsT_app, opsT_app, opsT_one, opsT_one, e2 o g2, List.append_assoc], e3, fun hA p hp => ?_⟩
    rw [hF] at hp
    rcases List.mem_append.1 hp with hp | hp
    · exact hA p (by rw [g1]; exact List.mem_append_left _ hp)
    · simp at hp
      rw [hp]
      exact hA o (by rw [g1]; simp)
  by_cases c1 : x = [43]
  · subst c1
    exact add (3, [], 0) (by rw [hF]; rfl) rfl (by unfold okOp; decide) ⟨by decide, fun c hc => by simp at hc; subst hc; decide⟩
  by_cases c2 : x = [115]
  · subst c2
    exact add (6, [], 0) (by rw [hF]; rfl) rfl (by unfold okOp; decide) ⟨by decide, fun c hc => by simp at hc; subst hc; decide⟩
  by_cases c3 : x = [42]
  · subst c3
    exact trn 1 4 rfl (fun o ho => by obtain ⟨a, b, c⟩ := o; simp only [] at ho; subst ho; rfl) ⟨by decide, fun c hc => by simp at hc; subst hc; decide⟩
  by_cases c4 : x = [100]
  · subst c4
    exact trn 1 5 rfl (fun o ho => by obtain ⟨a, b, c⟩ := o; simp only [] at ho; subst ho; rfl) ⟨by decide, fun c hc => by simp at hc; subst hc; decide⟩
  by_cases c5 : x = [119]
  · subst c5
    exact trn 2 7 rfl (fun o ho => by obtain ⟨a, b, c⟩ := o; simp only [] at ho; subst ho; rfl) ⟨by decide, fun c hc => by simp at hc; subst hc; decide⟩
  have e : opP x A ([], none) = (A ++ [(operP x ([], none)).1], (operP x ([], none)).2) := by
    unfold opP
    rw [if_neg c1, if_neg c2, if_neg c3, if_neg c4, if_neg c5]
  rw [e] at hn hF
  simp only [] at hn hF
  by_cases hl : (litP x).2 = true
  · have e2 : operP x ([], none) = ((2, [], (litP x).1), ([], none)) := by unfold operP; rw [if_pos hl]
    rw [e2] at hF
    have hg := (lit_ok hl).good
    rw [lit_back hl] at hg
    refine add _ hF ?_ ⟨hg.2.1, hg.2.2.1⟩ hg.1
    show [litT (litP x).1] = [x]
    rw [lit_back hl]
  · have e2 : operP x ([], none) = ((1, x, 0), wholeP x 1 (operS x ([], none))) := by unfold operP; rw [if_neg hl]
    rw [e2] at hF hn
    simp only [] at hn hF
    obtain ⟨k1, _, _⟩ := whole_ok hn
    exact add _ hF rfl ⟨by show (-1073741824 : Int) ≤ 0; omega, by show (0 : Int) ≤ 1073741824; omega⟩ (bad_good k1)
theorem runW_is : ∀ (L : List (List UInt8)) (A F : List OpL), runW L A = some F → opsT F = opsT A ++ L ∧ (∀ x ∈ L, Gw x) ∧ ((∀ o ∈ A, okOp o) → ∀ o ∈ F, okOp o) := by
  intro L
  induction L with
  | nil =>
    intro A F h
    have : A = F := Option.some.inj h
    subst this
    exact ⟨by simp, fun x hx => absurd hx List.not_mem_nil, fun h => h⟩
  | cons x L ih =>
    intro A F h
    unfold runW at h
    cases hB : opW x A with
    | none => rw [hB] at h; cases h
    | some B =>
      rw [hB] at h
      obtain ⟨a1, a2, a3⟩ := opW_is hB
      obtain ⟨b1, b2, b3⟩ := ih B F h
      refine ⟨by rw [b1, a1]; simp, fun y hy => ?_, fun hA => b3 (a3 hA)⟩
      rcases List.mem_cons.1 hy with rfl | hy
      · exact a2
      · exact b2 y hy

/-- Words that must follow. -/
theorem musts_bad : ∀ (W : List (List UInt8)) (s : Ls), s.2.isSome = true → mustsP W s = s := by
  intro W
  induction W with
  | nil => intro s _; rfl
  | cons x W ih => intro s h; show mustsP W (mustP x s) = s; rw [must_bad h]; exact ih s h
theorem musts_ok : ∀ (W L : List (List UInt8)) (s : Ls), Tk s.1 L → (mustsP W s).2 = none → ∃ M r', L = W ++ M ∧ mustsP W s = (r', none) ∧ Tk r' M := by
  intro W
  induction W with
  | nil => intro L s h hn; exact ⟨L, s.1, rfl, Prod.ext rfl hn, h⟩
  | cons x W ih =>
    intro L s h hn
    have hn' : (mustsP W (mustP x s)).2 = none := hn
    have h1 : (mustP x s).2 = none := by
      cases hs : (mustP x s).2 with
      | none => rfl
      | some z => rw [musts_bad _ _ (by rw [hs]; rfl), hs] at hn'; cases hn'
    obtain ⟨M, r', c1, c2, c3, _⟩ := must_ok h h1
    rw [c2] at hn'
    obtain ⟨M2, r2, d1, d2, d3⟩ := ih M (r', none) c3 hn'
    exact ⟨M2, r2, by rw [c1, d1]; rfl, by show mustsP W (mustP x s) = _; rw [c2, d2], d3⟩
theorem musts_yes : ∀ (W M : List (List UInt8)) (r : List UInt8), Tk r (W ++ M) → ∃ r', mustsP W (r, none) = (r', none) ∧ Tk r' M := by
  intro W
  induction W with
  | nil => intro M r h; exact ⟨r, rfl, h⟩
  | cons x W ih =>
    intro M r h
    obtain ⟨r1, c1, c2⟩ := must_yes h
    obtain ⟨r2, d1, d2⟩ := ih M r1 c2
    exact ⟨r2, by show mustsP W (mustP x (r, none)) = _; rw [c1, d1], d2⟩
/-- The words that a form begins with. -/
def fmW (f : FmL) : List (List UInt8) := fstW f :: Lib.fields (rstT f)
theorem pick_bad {T : List FmL} {rd : FuncId → Ls → SL × Ls} {s : Ls} (hrd : ∀ f s, s.2.isSome = true → (rd f s).2.2.isSome = true) (h : s.2.isSome = true) : (pickP T rd s).2.2.2.isSome = true := by
  unfold pickP
  split
  · rw [next_bad h, musts_bad _ _ h]; exact hrd _ _ h
  · exact fail_some _ _
theorem pick_ok {T : List FmL} {rd : FuncId → Ls → SL × Ls} {s : Ls} {L : List (List UInt8)} (hrd : ∀ f s, s.2.isSome = true → (rd f s).2.2.isSome = true) (h : Tk s.1 L) (hn : (pickP T rd s).2.2.2 = none) : ∃ f ∈ T, ∃ M r', L = fmW f ++ M ∧ Tk r' M ∧ pickP T rd s = (f.1, rd f.2.2.1 (r', none)) ∧ s.2 = none := by
  unfold pickP at hn ⊢
  cases hf : T.find? fun f => decide ((nextP s).1 = fstW f) with
  | none =>
    rw [hf] at hn
    exact (none_some hn (fail_some _ _)).elim
  | some f =>
    rw [hf] at hn
    simp only [] at hn ⊢
    have h1 : (mustsP (Lib.fields (rstT f)) (nextP s).2).2 = none := by
      cases hs : (mustsP (Lib.fields (rstT f)) (nextP s).2).2 with
      | none => rfl
      | some z => exact (none_some hn (hrd _ _ (by rw [hs]; rfl))).elim
    have h2 : (nextP s).2.2 = none := by
      cases hs : (nextP s).2.2 with
      | none => rfl
      | some z => rw [musts_bad _ _ (by rw [hs]; rfl), hs] at h1; cases h1
    obtain ⟨x, M, r1, c1, c2, c3, c4⟩ := next_ok h h2
    rw [c2] at h1
    simp only [] at h1
    obtain ⟨M2, r2, d1, d2, d3⟩ := musts_ok _ M (r1, none) c3 h1
    have hx : x = fstW f := by
      have := List.find?_some hf
      have := of_decide_eq_true this
      rw [c2] at this
      exact this
    refine ⟨f, List.mem_of_find?_eq_some hf, M2, r2, ?_, d3, ?_, c4⟩
    · rw [c1, d1, hx]; rfl
    · rw [c2]; simp only []; rw [d2]
theorem pick_yes {T : List FmL} {rd : FuncId → Ls → SL × Ls} {r : List UInt8} (f : FmL) (hf : (T.find? fun g => decide (fstW f = fstW g)) = some f) {M : List (List UInt8)} (h : Tk r (fmW f ++ M)) : ∃ r', pickP T rd (r, none) = (f.1, rd f.2.2.1 (r', none)) ∧ Tk r' M := by
  obtain ⟨r1, c1, c2⟩ := tk_next (x := fstW f) (L := Lib.fields (rstT f) ++ M) h
  obtain ⟨r2, d1, d2⟩ := musts_yes _ M r1 c2
  refine ⟨r2, ?_, d2⟩
  unfold pickP
  rw [c1]
  simp only []
  rw [hf]
  simp only []
  rw [d1]
end Go.Proofs.YtibbnijicdijnaaGreatDoor
