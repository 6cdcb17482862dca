/-
  Put together: PfSame, AwKinds, PfWords, PfMa, PfMb, PfMc, PfMd, PfMe.
-/
import Derived.Test.YtgckmkdmlaocmaaGreatDoorJ36
import Derived.Test.YtgckmkdmlaocmaaGreatDoorPfEq
namespace Go.Proofs.YtgckmkdmlaocmaaGreatDoor
open Go.RowKit

/-- A row of values, as it is read. -/
def RdAt (w : World) (v : Value) (n : Nat) (xs : List Value) : Prop := ∃ a cap, v = .slice a n cap ∧ n ≤ 9223372036854775807 ∧ (0 < n → ∃ g off, a = some ⟨g, off, none⟩ ∧ g < w.heap.size ∧ ∀ j u, xs[j]? = some u → w.cell? ⟨g, off + j, none⟩ = some u)
theorem RdAt.below {w w' : World} {v : Value} {n : Nat} {xs : List Value} (h : RdAt w v n xs) (hb : Below w.heap.size w w') : RdAt w' v n xs := by
  obtain ⟨a, cap, h1, h2, h3⟩ := h
  refine ⟨a, cap, h1, h2, fun h0 => ?_⟩
  obtain ⟨g, off, e1, e2, e3⟩ := h3 h0
  exact ⟨g, off, e1, Nat.lt_of_lt_of_le e2 hb.size, fun j u hu => (hb.cell (p := ⟨g, off + j, none⟩) e2).trans (e3 j u hu)⟩
/-- A step's lists, as they are read. -/
structure SlR (w : World) (d : SL) (vo vp vl vi : Value) : Prop where
  o : RdAt w vo d.ops.length (opsC d.ops)
  p : RdAt w vp d.pcs.length (pcsC d.pcs)
  l : RdAt w vl d.lits.length (d.lits.map (.int .i64))
  i : RdAt w vi d.ids.length (d.ids.map fun x => .string (txtOf x))
theorem SlR.below {w w' : World} {d : SL} {vo vp vl vi : Value} (h : SlR w d vo vp vl vi) (hb : Below w.heap.size w w') : SlR w' d vo vp vl vi := ⟨h.o.below hb, h.p.below hb, h.l.below hb, h.i.below hb⟩

theorem pcs_get (L : List PcL) (j : Nat) (hj : j < L.length) : (pcsC L)[j * 2]? = some (.string (txtOf L[j].1)) ∧ (pcsC L)[j * 2 + 1]? = some (.int .i64 L[j].2) := by
  induction L generalizing j with
  | nil => exact absurd hj (Nat.not_lt_zero _)
  | cons o L ih =>
    have e : pcsC (o :: L) = pcC o ++ pcsC L := by simp [pcsC]
    cases j with
    | zero => exact ⟨rfl, rfl⟩
    | succ j =>
      obtain ⟨h1, h2⟩ := ih j (by simpa using hj)
      have k : ∀ i, (pcsC (o :: L))[(j + 1) * 2 + i]? = (pcsC L)[j * 2 + i]? := fun i => by
        rw [e, List.getElem?_append_right (by simp [pcC]; omega)]
        congr 1
        simp [pcC]
        omega
      have k0 := k 0
      simp only [Nat.add_zero] at k0
      exact ⟨k0.trans h1, (k 1).trans h2⟩
theorem ops_get (L : List OpL) (j : Nat) (hj : j < L.length) : (opsC L)[j * 3]? = some (.int .i64 L[j].1) ∧ (opsC L)[j * 3 + 1]? = some (.string (txtOf L[j].2.1)) ∧ (opsC L)[j * 3 + 2]? = some (.int .i64 L[j].2.2) := by
  induction L generalizing j with
  | nil => exact absurd hj (Nat.not_lt_zero _)
  | cons o L ih =>
    have e : opsC (o :: L) = opC o ++ opsC L := by simp [opsC]
    cases j with
    | zero => exact ⟨rfl, rfl, rfl⟩
    | succ j =>
      obtain ⟨h1, h2, h3⟩ := ih j (by simpa using hj)
      have k : ∀ i, (opsC (o :: L))[(j + 1) * 3 + i]? = (opsC L)[j * 3 + i]? := fun i => by
        rw [e, List.getElem?_append_right (by simp [opC]; omega)]
        congr 1
        simp [opC]
        omega
      have k0 := k 0
      simp only [Nat.add_zero] at k0
      exact ⟨k0.trans h1, (k 1).trans h2, (k 2).trans h3⟩


theorem rd_of_own {w : World} {B : Nat} {e : TypeId} {m : Nat} {v : Value} {n : Nat} {xs : List Value} (h : w.ownsRow B e m v n xs) (hn : n ≤ 9223372036854775807) : RdAt w v n xs := by
  have hc := fun g hg => h.cells (g := g) hg
  rcases h.2 with ⟨rfl, rfl⟩ | ⟨g, cap, cur, rfl, _, hg, _⟩
  · exact ⟨none, 0, rfl, hn, fun h0 => absurd h0 (Nat.lt_irrefl _)⟩
  · refine ⟨_, _, rfl, hn, fun _ => ⟨g, 0, rfl, (Array.getElem?_eq_some_iff.1 hg).1, fun j u hu => ?_⟩⟩
    have := hc g rfl j u hu
    by_cases hj : j = 0
    · subst hj; simpa [Addr.add] using this
    · simpa [Addr.add, hj] using this
theorem own_few {w : World} {B : Nat} {e : TypeId} {m : Nat} {v : Value} {n : Nat} {xs : List Value} (h : w.ownsRow B e m v n xs) : n ≤ 9223372036854775807 := by
  rcases h.2 with ⟨_, rfl⟩ | ⟨_, cap, _, _, _, _, h1, h2, _⟩
  · omega
  · unfold maxLen at h2; omega
theorem RdAt.at {w : World} {a : Option Addr} {n c : Nat} {xs : List Value} (h : RdAt w (.slice a n c) n xs) (i : Nat) (hi : i < n) : ∃ g off, a = some ⟨g, off, none⟩ ∧ ∀ j u, xs[j]? = some u → w.cell? ⟨g, off + j, none⟩ = some u := by
  obtain ⟨a', c', h1, _, h3⟩ := h
  injection h1 with q1 q2 q3
  subst q1
  obtain ⟨g, off, e1, _, e3⟩ := h3 (by omega)
  exact ⟨g, off, e1, e3⟩
theorem addr_plain (b j : Nat) : (⟨b, 0, none⟩ : Addr).add j = ⟨b, j, none⟩ := by
  unfold Addr.add
  by_cases h : j = 0
  · subst h; rfl
  · simp [h]

end Go.Proofs.YtgckmkdmlaocmaaGreatDoor

namespace Go.Proofs.YtgckmkdmlaocmaaGreatDoor
open Go.RowKit

theorem forms_kinds : ∀ f ∈ formsL, 0 ≤ f.1 ∧ f.1 < 13 := by
  intro f hf
  simp only [formsL, List.mem_cons, List.not_mem_nil, or_false] at hf
  rcases hf with rfl | rfl | rfl | rfl | rfl | rfl | rfl | rfl | rfl | rfl | rfl | rfl <;> exact ⟨by decide, by decide⟩
theorem pick_kinds (s : Ls) : 0 ≤ (pickP formsL rdF s).1 ∧ (pickP formsL rdF s).1 < 13 := by
  unfold pickP
  split
  case h_1 f h => exact forms_kinds f (List.mem_of_find?_eq_some h)
  case h_2 => exact ⟨Int.le_refl 0, (by decide : (0 : Int) < 13)⟩
theorem gd_kinds (x : List UInt8) : 0 ≤ (gd x).k ∧ (gd x).k < 13 := by
  have hk := pick_kinds (x, none)
  unfold gd parseP
  split
  · exact ⟨Int.le_refl 0, (by decide : (0 : Int) < 13)⟩
  · unfold readP
    split
    · exact ⟨(by decide : (0 : Int) ≤ 7), (by decide : (7 : Int) < 13)⟩
    · exact hk

end Go.Proofs.YtgckmkdmlaocmaaGreatDoor

namespace Go.Proofs.YtgckmkdmlaocmaaGreatDoor
open Go.RowKit

/-- A word more. -/
def wordP (l x : List UInt8) : List UInt8 := if 0 < l.length then l ++ 32 :: x else l ++ x
def wordsP (L : List (List UInt8)) (l : List UInt8) : List UInt8 := L.foldl wordP l
def tot (L : List (List UInt8)) : Nat := (L.map fun x => x.length + 1).sum
theorem word_len (l x : List UInt8) : (wordP l x).length ≤ l.length + x.length + 1 := by unfold wordP; split <;> simp <;> omega
theorem words_len (L : List (List UInt8)) (l : List UInt8) : (wordsP L l).length ≤ l.length + tot L := by
  induction L generalizing l with
  | nil => simp [wordsP, tot]
  | cons x L ih =>
    have h1 := ih (wordP l x)
    have h2 := word_len l x
    have e1 : wordsP (x :: L) l = wordsP L (wordP l x) := rfl
    have e2 : tot (x :: L) = x.length + 1 + tot L := by simp [tot]
    rw [e1, e2]
    omega
theorem tot_take (L : List (List UInt8)) (i : Nat) (hi : i < L.length) : tot (L.take i) + (L[i].length + 1) ≤ tot L := by
  have h : tot L = tot (L.take i) + tot (L.drop i) := by
    unfold tot
    rw [← List.sum_append, ← List.map_append, List.take_append_drop]
  have h2 : tot (L.drop i) = L[i].length + 1 + tot (L.drop (i + 1)) := by
    rw [List.drop_eq_getElem_cons hi]
    simp only [tot, List.map_cons, List.sum_cons]
  omega


end Go.Proofs.YtgckmkdmlaocmaaGreatDoor

namespace Go.Proofs.YtgckmkdmlaocmaaGreatDoor
open Go.RowKit


/-- A text's words. -/
def Tk : List UInt8 → List (List UInt8) → Prop
  | r, [] => r.dropWhile blk = []
  | r, x :: L => r.dropWhile blk ≠ [] ∧ (r.dropWhile blk).take (wlen (r.dropWhile blk)) = x ∧ Tk ((r.dropWhile blk).drop (wlen (r.dropWhile blk))) L
/-- A word. -/
def Pw (x : List UInt8) : Prop := x ≠ [] ∧ ∀ c ∈ x, blk c = false
theorem drop_le (r : List UInt8) : (r.dropWhile blk).length ≤ r.length := (List.dropWhile_sublist _).length_le
theorem takeW (q : List UInt8) : q.take (wlen q) = q.takeWhile fun c => !blk c := by
  unfold wlen
  conv => lhs; arg 2; rw [← List.takeWhile_append_dropWhile (p := fun c => !blk c) (l := q)]
  rw [List.take_left]
theorem dropW (q : List UInt8) : q.drop (wlen q) = q.dropWhile fun c => !blk c := by
  unfold wlen
  conv => lhs; arg 2; rw [← List.takeWhile_append_dropWhile (p := fun c => !blk c) (l := q)]
  rw [List.drop_left]
theorem tk_words : ∀ (L : List (List UInt8)) (r : List UInt8), Tk r L → ∀ x ∈ L, Pw x ∧ ∀ c ∈ x, c ∈ r := by
  intro L
  induction L with
  | nil => intro r _ x hx; exact absurd hx List.not_mem_nil
  | cons y L ih =>
    intro r h x hx
    obtain ⟨h1, h2, h3⟩ := h
    rw [takeW] at h2
    rw [dropW] at h3
    rcases List.mem_cons.1 hx with rfl | hx
    · refine ⟨⟨?_, ?_⟩, ?_⟩
      · intro e
        have := wlen_pos h1
        unfold wlen at this
        rw [h2, e] at this
        exact absurd this (Nat.lt_irrefl _)
      · intro c hc
        rw [← h2] at hc
        have := List.all_eq_true.1 (List.all_takeWhile (l := r.dropWhile blk) (p := fun c => !blk c)) c hc
        simpa using this
      · intro c hc
        rw [← h2] at hc
        exact (List.dropWhile_sublist _).subset ((List.takeWhile_sublist _).subset hc)
    · obtain ⟨h4, h5⟩ := ih _ h3 x hx
      exact ⟨h4, fun c hc => (List.dropWhile_sublist _).subset ((List.dropWhile_sublist _).subset (h5 c hc))⟩
theorem tk_len : ∀ (L : List (List UInt8)) (r : List UInt8), Tk r L → tot L ≤ (r.dropWhile blk).length + 1 ∧ (L = [] ∨ r.dropWhile blk ≠ []) := by
  intro L
  induction L with
  | nil => intro r _; exact ⟨by simp [tot], .inl rfl⟩
  | cons x L ih =>
    intro r h
    obtain ⟨h1, h2, h3⟩ := h
    obtain ⟨h4, h5⟩ := ih _ h3
    refine ⟨?_, .inr h1⟩
    have hx : x.length = wlen (r.dropWhile blk) := by rw [← h2, List.length_take]; have := wlen_le (r.dropWhile blk); omega
    have e : tot (x :: L) = x.length + 1 + tot L := by simp [tot]
    obtain ⟨q, hq⟩ : ∃ q, (r.dropWhile blk) = q := ⟨_, rfl⟩
    rw [hq] at h4 h5 hx ⊢
    have hl := wlen_le q
    rcases h5 with rfl | h5
    · rw [e]; simp [tot]; omega
    · have hd : (q.drop (wlen q)).length = q.length - wlen q := List.length_drop
      have hb : ((q.drop (wlen q)).dropWhile blk).length + 1 ≤ (q.drop (wlen q)).length := by
        rw [dropW] at h5 ⊢
        cases hc : q.dropWhile fun c => !blk c with
        | nil => rw [hc] at h5; exact absurd rfl h5
        | cons c t =>
          have hbc : blk c = true := by
            have := List.head_dropWhile_not (fun c => !blk c) (l := q) (by rw [hc]; simp)
            simp only [hc, List.head_cons] at this
            simpa using this
          rw [List.dropWhile_cons_of_pos hbc]
          have := drop_le t
          simp
          omega
      rw [e]
      omega
/-- A list of words, one blank ahead of each. -/
def spW (L : List (List UInt8)) : List UInt8 := L.flatMap fun x => 32 :: x
theorem words_sp : ∀ (L : List (List UInt8)) (l : List UInt8), l ≠ [] → wordsP L l = l ++ spW L := by
  intro L
  induction L with
  | nil => intro l _; simp [wordsP, spW]
  | cons x L ih =>
    intro l hl
    have h0 : 0 < l.length := List.length_pos_iff.2 hl
    have : wordsP (x :: L) l = wordsP L (l ++ 32 :: x) := by
      show wordsP L (wordP l x) = _
      unfold wordP
      rw [if_pos h0]
    rw [this, ih _ (by simp)]
    simp [spW]
theorem words_first (x : List UInt8) (L : List (List UInt8)) (hx : x ≠ []) : wordsP (x :: L) [] = x ++ spW L := by
  have : wordsP (x :: L) [] = wordsP L x := by
    show wordsP L (wordP [] x) = _
    simp [wordP]
  rw [this, words_sp L x hx]
/-- Words taken. -/
theorem tk_take {r x : List UInt8} {L : List (List UInt8)} (h : Tk r (x :: L)) : ∃ r', takeP (r, none) = ((x, true), (r', none)) ∧ Tk r' L := by
  refine ⟨(r.dropWhile blk).drop (wlen (r.dropWhile blk)), ?_, h.2.2⟩
  unfold takeP
  rw [if_neg (by simp [h.1])]
  simp only [h.2.1]
theorem tk_stop {r : List UInt8} (h : Tk r []) : takeP (r, none) = (([], false), (r, none)) := by
  unfold takeP
  rw [if_pos (.inr h)]
theorem take_bad {s : Ls} (h : s.2.isSome = true) : takeP s = (([], false), s) := by
  unfold takeP
  rw [if_pos (.inl h)]
theorem fail_bad {e : Int} {s : Ls} (h : s.2.isSome = true) : failP e s = s := by
  unfold failP
  split
  · rename_i h0; rw [h0] at h; cases h
  · rfl
theorem next_bad {s : Ls} (h : s.2.isSome = true) : nextP s = ([], s) := by
  unfold nextP
  rw [take_bad h]
  simp [fail_bad h]
theorem tk_next {r x : List UInt8} {L : List (List UInt8)} (h : Tk r (x :: L)) : ∃ r', nextP (r, none) = (x, (r', none)) ∧ Tk r' L := by
  obtain ⟨r', h1, h2⟩ := tk_take h
  refine ⟨r', ?_, h2⟩
  unfold nextP
  rw [h1]
  simp
theorem next_end {r : List UInt8} (h : Tk r []) : (nextP (r, none)).2.2.isSome = true := by
  unfold nextP
  rw [tk_stop h]
  simp [failP]
theorem none_some {α : Type} {o : Option α} (h : o = none) (h' : o.isSome = true) : False := by rw [h] at h'; cases h'
theorem whole_ok {x : List UInt8} {g : Int} {s : Ls} (h : (wholeP x g s).2 = none) : badN x g = false ∧ wholeP x g s = s ∧ s.2 = none := by
  unfold wholeP at h ⊢
  cases hb : badN x g with
  | true => rw [hb, if_pos rfl] at h; exact (none_some h (fail_some _ _)).elim
  | false => rw [hb] at h; exact ⟨rfl, by simp, by simpa using h⟩
theorem end_yes {r : List UInt8} (h : Tk r []) : endP (r, none) = (r, none) := by
  unfold endP
  rw [tk_stop h]
  simp

/-- Lists of words. -/
theorem lst_bad {rd : List UInt8 → Ls → Ls} {n : Nat} {s : Ls} (h : s.2.isSome = true) : lstP rd n s = ([], s) := by
  cases n with
  | zero => rfl
  | succ n => rw [lst_stop (x := []) (by rw [take_bad h]), take_bad h]
theorem tk_count {r : List UInt8} {L : List (List UInt8)} (h : Tk r L) : L.length ≤ r.length := by
  have h1 := tk_len L r h
  have h2 := tk_words L r h
  have h3 : ∀ M : List (List UInt8), (∀ x ∈ M, Pw x) → M.length * 2 ≤ tot M := by
    intro M
    induction M with
    | nil => intro _; simp
    | cons x M ih =>
      intro hM
      have h5 := List.length_pos_iff.2 (hM x List.mem_cons_self).1
      have h4 := ih fun y hy => hM y (List.mem_cons_of_mem _ hy)
      have e : tot (x :: M) = x.length + 1 + tot M := by simp [tot]
      rw [e, List.length_cons]
      omega
  have h4 := h3 L fun x hx => (h2 x hx).1
  have h5 := drop_le r
  rcases h1.2 with rfl | h6
  · simp
  · have := List.length_pos_iff.2 h6
    omega
end Go.Proofs.YtgckmkdmlaocmaaGreatDoor

namespace Go.Proofs.YtgckmkdmlaocmaaGreatDoor
open Go.RowKit

/-- Digits, there and back. -/
theorem dval_pos {l : List UInt8} (h : sizeB l = true) : 1 ≤ dval l := by
  have h1 : l ≠ [] ∧ l.head? ≠ some 48 ∧ l.all isDig = true := by
    unfold sizeB at h
    simp only [Bool.and_eq_true, Bool.not_eq_true', bne_iff_ne, ne_eq] at h
    exact ⟨fun e => by rw [e] at h; simp at h, h.1.2, h.2⟩
  cases l with
  | nil => exact absurd rfl h1.1
  | cons c l =>
    have hc : isDig c = true := by have := h1.2.2; simp at this; exact this.1
    have hc8 : c ≠ 48 := fun e => h1.2.1 (by rw [e]; rfl)
    have hn : 1 ≤ c.toNat - 48 := by
      unfold isDig at hc
      have := of_decide_eq_true hc
      have h8 : c.toNat ≠ 48 := fun e => hc8 (UInt8.toNat_inj.1 (by rw [e]; rfl))
      omega
    have key : ∀ (t : List UInt8) (a : Nat), 1 ≤ a → 1 ≤ t.foldl (fun n c => 10 * n + (c.toNat - 48)) a := by
      intro t
      induction t with
      | nil => intro a ha; exact ha
      | cons d t ih =>
        intro a ha
        have h0 : 1 ≤ 10 * a + (d.toNat - 48) := by omega
        exact ih _ h0
    unfold dval
    rw [List.foldl_cons]
    exact key l _ (by omega)
theorem dec_back : ∀ (n : Nat) (l : List UInt8), l.length ≤ n → sizeB l = true → Lib.decDigits (dval l) = l := by
  intro n
  induction n with
  | zero =>
    intro l hl h
    have : l = [] := List.length_eq_zero_iff.1 (by omega)
    subst this
    cases h
  | succ n ih =>
    intro l hl h
    rcases List.eq_nil_or_concat l with rfl | ⟨t, c, rfl⟩
    · cases h
    · have h0 := h
      unfold sizeB at h
      simp only [Bool.and_eq_true, Bool.not_eq_true', bne_iff_ne, ne_eq, List.concat_eq_append, List.all_append, List.all_cons, List.all_nil, Bool.and_true] at h
      have hc : isDig c = true := h.2.2
      unfold isDig at hc
      have hcn := of_decide_eq_true hc
      have hb : UInt8.ofNat (48 + (c.toNat - 48)) = c := by
        have : 48 + (c.toNat - 48) = c.toNat := by omega
        rw [this]
        simp
      rw [List.concat_eq_append, dval_snoc]
      by_cases ht : t = []
      · subst ht
        rw [Lib.decDigits, dif_pos (by show 10 * 0 + (c.toNat - 48) < 10; omega)]
        show [UInt8.ofNat (48 + (10 * 0 + (c.toNat - 48)))] = _
        rw [Nat.mul_zero, Nat.zero_add, hb]
        rfl
      · have hs : sizeB t = true := by
          unfold sizeB
          simp only [Bool.and_eq_true, Bool.not_eq_true', bne_iff_ne, ne_eq]
          refine ⟨⟨by simp [ht], fun e => h.1.2 ?_⟩, h.2.1⟩
          cases t with
          | nil => exact absurd rfl ht
          | cons d t => simpa using e
        have hp := dval_pos hs
        have e1 : (10 * dval t + (c.toNat - 48)) / 10 = dval t := by omega
        have e2 : (10 * dval t + (c.toNat - 48)) % 10 = c.toNat - 48 := by omega
        rw [Lib.decDigits, dif_neg (by omega), e1, e2, hb, ih t (by simp at hl; omega) hs]
/-- A word that may stand in a line. -/
def Gw (x : List UInt8) : Prop := x ≠ [] ∧ ∀ c ∈ x, blk c = false ∧ c ≠ 10
theorem dig_good {c : UInt8} (h : isDig c = true) : blk c = false ∧ c ≠ 10 := by
  unfold isDig at h
  have := of_decide_eq_true h
  have key : ∀ k : UInt8, k.toNat < 48 → c ≠ k := fun k hk e => by rw [e] at this; omega
  refine ⟨?_, key 10 (by decide)⟩
  unfold blk
  simp [key 32 (by decide), key 9 (by decide)]
theorem dig_not {c : UInt8} (h : isDig c = true) (k : UInt8) (hk : k.toNat < 48) : c ≠ k := fun e => by
  unfold isDig at h
  have := of_decide_eq_true h
  rw [e] at this
  omega
theorem parse_good {x : List UInt8} (h : (parseZ x).isSome = true) : Gw x ∧ ∀ c ∈ x, c = 45 ∨ isDig c = true := by
  have h1 : x = [48] ∨ sizeB (digitsOf x) = true := by
    unfold parseZ at h
    split at h
    · assumption
    · cases h
  have key : x ≠ [] ∧ ∀ c ∈ x, c = 45 ∨ isDig c = true := by
    rcases h1 with rfl | h1
    · exact ⟨by decide, fun c hc => by simp at hc; subst hc; exact .inr (by decide)⟩
    · have h2 : (digitsOf x) ≠ [] ∧ ∀ c ∈ digitsOf x, isDig c = true := by
        unfold sizeB at h1
        simp only [Bool.and_eq_true, Bool.not_eq_true', List.all_eq_true] at h1
        exact ⟨fun e => by rw [e] at h1; simp at h1, h1.2⟩
      cases x with
      | nil => exact absurd rfl h2.1
      | cons c x =>
        refine ⟨by simp, fun d hd => ?_⟩
        by_cases hc : c = 45
        · subst hc
          have e : digitsOf (45 :: x) = x := by simp [digitsOf, Lib.trimPrefix, Lib.hasPrefix, List.isPrefixOf]
          rw [e] at h2
          rcases List.mem_cons.1 hd with rfl | hd
          · exact .inl rfl
          · exact .inr (h2.2 d hd)
        · have e : digitsOf (c :: x) = c :: x := by
            unfold digitsOf Lib.trimPrefix Lib.hasPrefix
            rw [if_neg]
            simp [List.isPrefixOf]
            exact fun e => hc e.symm
          rw [e] at h2
          exact .inr (h2.2 d hd)
  refine ⟨⟨key.1, fun c hc => ?_⟩, key.2⟩
  rcases key.2 c hc with rfl | h3
  · decide
  · exact dig_good h3
theorem bad_parse {x : List UInt8} {g : Int} (h : badN x g = false) : (parseZ x).isSome = true := by
  unfold badN at h
  cases hp : parseZ x with
  | none => rw [hp] at h; simp at h
  | some z => rfl
theorem bad_good {x : List UInt8} {g : Int} (h : badN x g = false) : Gw x := (parse_good (bad_parse h)).1
/-- What a literal's word is. -/
theorem lit_word {y : List UInt8} (h : (litP y).2 = true) : ∃ ds, sizeB ds = true ∧ 1 ≤ dval ds ∧ dval ds ≤ 1073741824 ∧ ((y = 120 :: ds ∧ (litP y).1 = (dval ds : Int)) ∨ (y = 126 :: 120 :: ds ∧ (litP y).1 = -(dval ds : Int))) := by
  unfold litP at h ⊢
  obtain ⟨u, hu⟩ : ∃ u, Lib.trimPrefix y [126] = u := ⟨_, rfl⟩
  rw [hu] at h ⊢
  by_cases hx : Lib.hasPrefix u [120] = true
  · rw [if_pos hx] at h ⊢
    obtain ⟨ds, hds⟩ : ∃ ds, Lib.trimPrefix u [120] = ds := ⟨_, rfl⟩
    rw [hds] at h ⊢
    by_cases hv : 1 ≤ smallV ((parseZ ds).getD 0) ∧ smallV ((parseZ ds).getD 0) ≤ 1073741824
    · rw [if_pos hv] at h ⊢
      have hu2 : u = 120 :: ds := by
        cases u with
        | nil => cases hx
        | cons c u =>
          have : c = 120 := by unfold Lib.hasPrefix at hx; simp [List.isPrefixOf] at hx; exact hx.symm
          subst this
          rw [← hds]
          simp [Lib.trimPrefix, Lib.hasPrefix, List.isPrefixOf]
      obtain ⟨z, hz⟩ : ∃ z, parseZ ds = some z := by
        cases hp : parseZ ds with
        | none => rw [hp] at hv; exact absurd hv.1 (by decide)
        | some z => exact ⟨z, rfl⟩
      rw [hz] at hv ⊢
      simp only [Option.getD_some] at hv ⊢
      have hsz : smallV z = z := by
        unfold smallV at hv ⊢
        split
        · rfl
        · rename_i h0; rw [if_neg h0] at hv; exact absurd hv.1 (by decide)
      rw [hsz] at hv ⊢
      have hp := hz
      unfold parseZ at hp
      split at hp
      · rename_i hc
        have hp' := Option.some.inj hp
        cases hm : minus ds with
        | true =>
          rw [hm] at hp'
          unfold sg at hp'
          simp at hp'
          omega
        | false =>
          rw [hm] at hp'
          have hdd : digitsOf ds = ds := by
            unfold minus at hm
            unfold digitsOf Lib.trimPrefix
            rw [if_neg (by rw [hm]; decide)]
          rw [hdd] at hp' hc
          unfold sg at hp'
          simp at hp'
          have hs : sizeB ds = true := by
            rcases hc with rfl | hc
            · have : dval [48] = 0 := rfl
              rw [this] at hp'
              omega
            · exact hc
          refine ⟨ds, hs, by omega, by omega, ?_⟩
          by_cases hy : Lib.hasPrefix y [126] = true
          · right
            refine ⟨?_, by simp [hy]; omega⟩
            cases y with
            | nil => cases hy
            | cons c y =>
              have : c = 126 := by unfold Lib.hasPrefix at hy; simp [List.isPrefixOf] at hy; exact hy.symm
              subst this
              have : Lib.trimPrefix (126 :: y) [126] = y := by simp [Lib.trimPrefix, Lib.hasPrefix, List.isPrefixOf]
              rw [this] at hu
              rw [hu, hu2]
          · left
            refine ⟨?_, by simp [hy]; omega⟩
            have : Lib.trimPrefix y [126] = y := by unfold Lib.trimPrefix; rw [if_neg hy]
            rw [this] at hu
            rw [hu, hu2]
      · cases hp
    · rw [if_neg hv] at h; cases h
  · rw [if_neg hx] at h; cases h
theorem size_head {ds : List UInt8} (h : sizeB ds = true) : Lib.hasPrefix ds [45] = false := by
  cases ds with
  | nil => rfl
  | cons c ds =>
    have hc : isDig c = true := by unfold sizeB at h; simp at h; exact h.2.1
    have := dig_not hc 45 (by decide)
    unfold Lib.hasPrefix
    simp [List.isPrefixOf]
    exact fun e => this e.symm
/-- Nothing is read behind a fault. -/
theorem whole_bad {x : List UInt8} {g : Int} {s : Ls} (h : s.2.isSome = true) : wholeP x g s = s := by
  unfold wholeP
  split
  · exact fail_bad h
  · rfl
theorem literal_bad {x : List UInt8} {s : Ls} (h : s.2.isSome = true) : literalP x s = s := by
  unfold literalP
  split
  · rfl
  · exact fail_bad h
theorem must_bad {x : List UInt8} {s : Ls} (h : s.2.isSome = true) : mustP x s = s := by
  unfold mustP
  rw [next_bad h]
  simp [fail_bad h]
theorem row_bad {n : Nat} {x : List UInt8} {s : Ls} (h : s.2.isSome = true) : rowL n x s = ([], s) := by
  cases n with
  | zero => rfl
  | succ n => exact rowL_stop (.inr h)
theorem rowP_bad {s : Ls} (h : s.2.isSome = true) : (rowP s).2 = s := by
  unfold rowP
  rw [next_bad h]
  simp only []
  rw [row_bad h]
  simp only []
  rw [next_bad h]
  simp only []
  rw [whole_bad h, must_bad h]
theorem list_bad {rd : List UInt8 → Ls → Ls} {s : Ls} (h : s.2.isSome = true) : listP rd s = ([], s) := lst_bad h
theorem oper_bad {x : List UInt8} {s : Ls} (h : s.2.isSome = true) : (operP x s).2 = s := by
  unfold operP
  split
  · rfl
  · unfold operS
    split
    · simp only []; rw [fail_bad h, whole_bad h]
    · exact whole_bad h
theorem turn_bad {fr tk : Int} {A : List OpL} {s : Ls} (h : s.2.isSome = true) : (turnP fr tk A s).2 = s := by
  unfold turnP
  split
  · exact fail_bad h
  · split
    · rfl
    · exact fail_bad h
theorem op_bad {x : List UInt8} {A : List OpL} {s : Ls} (h : s.2.isSome = true) : (opP x A s).2 = s := by
  unfold opP
  repeat' split
  all_goals first | rfl | exact turn_bad h | exact oper_bad h
theorem lops_bad : ∀ (n : Nat) (A : List OpL) (s : Ls), s.2.isSome = true → (lopsP n A s).2 = s := by
  intro n A s h
  cases n with
  | zero => rfl
  | succ n => rw [lops_stop (x := []) (by rw [take_bad h]), take_bad h]
theorem opsP_bad {s : Ls} (h : s.2.isSome = true) : (opsP s).2 = s := by
  unfold opsP
  rw [next_bad h]
  simp only []
  have := op_bad (x := []) (A := []) h
  rw [this]
  exact lops_bad _ _ _ h

end Go.Proofs.YtgckmkdmlaocmaaGreatDoor

namespace Go.Proofs.YtgckmkdmlaocmaaGreatDoor
open Go.RowKit

/-- What a word does to a row of operations, where it is right. -/
def opW (x : List UInt8) (A : List OpL) : Option (List OpL) := if (opP x A ([], none)).2.2 = none then some (opP x A ([], none)).1 else none
theorem fail_at (e : Int) (r : List UInt8) : failP e (r, none) = (r, some e) := rfl
theorem whole_at (x : List UInt8) (g : Int) (r : List UInt8) (o : Option Int) : wholeP x g (r, o) = (r, (wholeP x g ([], o)).2) := by
  unfold wholeP failP
  split
  · cases o <;> rfl
  · rfl
theorem oper_at (x : List UInt8) (r : List UInt8) : operP x (r, none) = ((operP x ([], none)).1, (r, (operP x ([], none)).2.2)) := by
  unfold operP operS
  split
  · rfl
  · split
    · rw [fail_at, fail_at, whole_at]
    · rw [whole_at]
theorem turn_at (fr tk : Int) (A : List OpL) (r : List UInt8) : turnP fr tk A (r, none) = ((turnP fr tk A ([], none)).1, (r, (turnP fr tk A ([], none)).2.2)) := by
  unfold turnP
  split
  · rfl
  · split <;> rfl
theorem op_at (x : List UInt8) (A : List OpL) (r : List UInt8) : opP x A (r, none) = ((opP x A ([], none)).1, (r, (opP x A ([], none)).2.2)) := by
  unfold opP
  repeat' split
  all_goals first | rfl | rw [turn_at] | rw [oper_at]
theorem opW_some {x : List UInt8} {A F : List OpL} (h : opW x A = some F) (r : List UInt8) : opP x A (r, none) = (F, (r, none)) := by
  unfold opW at h
  split at h
  · rename_i h0
    rw [op_at, h0, Option.some.inj h]
  · cases h
def runW : List (List UInt8) → List OpL → Option (List OpL)
  | [], A => some A
  | x :: L, A => match opW x A with
    | some B => runW L B
    | none => none
/-- A number that stands for itself. -/
def okOp (o : OpL) : Prop := -1073741824 ≤ o.2.2 ∧ o.2.2 ≤ 1073741824
theorem turn_ok {fr tk : Int} {A : List OpL} {r : List UInt8} (h : (turnP fr tk A (r, none)).2.2 = none) : ∃ M o, A = M ++ [o] ∧ o.1 = fr ∧ (turnP fr tk A (r, none)).1 = M ++ [(tk, o.2)] := by
  rcases List.eq_nil_or_concat A with rfl | ⟨M, o, rfl⟩
  · rw [turn_nil] at h; cases h
  · rw [List.concat_eq_append] at h ⊢
    rw [turn_app] at h ⊢
    split at h
    · rename_i h1
      exact ⟨M, o, rfl, h1.1, by rw [if_pos h1]⟩
    · cases h
/-- Words that must follow. -/
theorem musts_bad : ∀ (W : List (List UInt8)) (s : Ls), s.2.isSome = true → mustsP W s = s := by
  intro W
  induction W with
  | nil => intro s _; rfl
  | cons x W ih => intro s h; show mustsP W (mustP x s) = s; rw [must_bad h]; exact ih s h
/-- The words that a form begins with. -/
def fmW (f : FmL) : List (List UInt8) := fstW f :: Lib.fields (rstT f)
end Go.Proofs.YtgckmkdmlaocmaaGreatDoor

namespace Go.Proofs.YtgckmkdmlaocmaaGreatDoor
open Go.RowKit

theorem lean_bad {x : List UInt8} {s : Ls} (h : s.2.isSome = true) : (leanP x s).2 = s := by
  have e : leanS x s = s := by
    unfold leanS
    split
    · rfl
    · exact fail_bad h
  unfold leanP
  rw [e, next_bad h]
  show wholeP [] 1 s = s
  exact whole_bad h
/-- Right words behind a conclusion's, by its reader. -/
def BdC (f : FuncId) (M : List (List UInt8)) (d : SL) : Prop :=
  if f = 133 then (M = [] ∧ d = SL.zero) ∨ ∃ i, M = [[58], i] ∧ badN i 1 = false ∧ d = { SL.zero with ids := [i] }
  else if f = 135 then (∃ a b, M = [a, b] ∧ badN a (-1) = false ∧ badN b (-1) = false ∧ d = { SL.zero with low := a, high := b }) ∨ ∃ a i b, M = [a, [58], i, b] ∧ badN a (-1) = false ∧ badN i 1 = false ∧ badN b (-1) = false ∧ d = { SL.zero with low := a, ids := [i], high := b }
  else if f = 137 then ∃ a i, M = [a, [58], i] ∧ badN a 0 = false ∧ badN i 1 = false ∧ d = { SL.zero with high := a, ids := [i] }
  else M = [] ∧ d = SL.zero
end Go.Proofs.YtgckmkdmlaocmaaGreatDoor

namespace Go.Proofs.YtgckmkdmlaocmaaGreatDoor
open Go.RowKit

theorem claims_find (g : FmL) (hg : g ∈ claimsL) : (claimsL.find? fun h => decide (fstW g = fstW h)) = some g := by
  simp only [claimsL, List.mem_cons, List.not_mem_nil, or_false] at hg
  rcases hg with rfl | rfl | rfl | rfl | rfl <;> kernel_rfl
theorem forms_find (g : FmL) (hg : g ∈ formsL) : (formsL.find? fun h => decide (fstW g = fstW h)) = some g := by
  simp only [formsL, List.mem_cons, List.not_mem_nil, or_false] at hg
  rcases hg with rfl | rfl | rfl | rfl | rfl | rfl | rfl | rfl | rfl | rfl | rfl | rfl <;> kernel_rfl
theorem trim_blank {y : List UInt8} (h : (trimR y).dropWhile blk = []) : y.dropWhile blk = [] := by
  have all : ∀ l : List UInt8, l.dropWhile blk = [] → ∀ c ∈ l, blk c = true := by
    intro l
    induction l with
    | nil => intro _ c hc; exact absurd hc List.not_mem_nil
    | cons d l ih =>
      intro hl c hc
      by_cases hd : blk d = true
      · rw [List.dropWhile_cons_of_pos hd] at hl
        rcases List.mem_cons.1 hc with rfl | hc
        · exact hd
        · exact ih hl c hc
      · rw [List.dropWhile_cons_of_neg hd] at hl; cases hl
  have back : ∀ l : List UInt8, (∀ c ∈ l, blk c = true) → l.dropWhile blk = [] := by
    intro l
    induction l with
    | nil => intro _; rfl
    | cons d l ih => intro hl; rw [List.dropWhile_cons_of_pos (hl d List.mem_cons_self)]; exact ih fun c hc => hl c (List.mem_cons_of_mem _ hc)
  refine back y fun c hc => ?_
  have h1 := all _ h
  have e : y = trimR y ++ (y.reverse.takeWhile blk).reverse := by
    unfold trimR
    rw [← List.reverse_append, List.takeWhile_append_dropWhile, List.reverse_reverse]
  rw [e] at hc
  rcases List.mem_append.1 hc with hc | hc
  · exact h1 c hc
  · exact List.all_eq_true.1 (List.all_takeWhile (l := y.reverse) (p := blk)) c (List.mem_reverse.1 hc)
theorem BdC.good {f : FuncId} {M : List (List UInt8)} {d : SL} (h : BdC f M d) : ∀ x ∈ M, Gw x := by
  have g58 : Gw [58] := ⟨by decide, fun c hc => by simp at hc; subst hc; decide⟩
  unfold BdC at h
  split at h
  · rcases h with ⟨rfl, _⟩ | ⟨i, rfl, hi, _⟩
    · intro x hx; exact absurd hx List.not_mem_nil
    · intro x hx; simp at hx; rcases hx with rfl | rfl
      · exact g58
      · exact bad_good hi
  split at h
  · rcases h with ⟨a, b, rfl, ha, hb, _⟩ | ⟨a, i, b, rfl, ha, hi, hb, _⟩
    · intro x hx; simp at hx; rcases hx with rfl | rfl
      · exact bad_good ha
      · exact bad_good hb
    · intro x hx; simp at hx; rcases hx with rfl | rfl | rfl | rfl
      · exact bad_good ha
      · exact g58
      · exact bad_good hi
      · exact bad_good hb
  split at h
  · obtain ⟨a, i, rfl, ha, hi, _⟩ := h
    intro x hx; simp at hx; rcases hx with rfl | rfl | rfl
    · exact bad_good ha
    · exact g58
    · exact bad_good hi
  · obtain ⟨rfl, _⟩ := h
    intro x hx; exact absurd hx List.not_mem_nil
/-- Words by a test that runs. -/
def gwB (x : List UInt8) : Bool := !x.isEmpty && x.all fun c => !blk c && c != 10
theorem gw_of {x : List UInt8} (h : gwB x = true) : Gw x := by
  unfold gwB at h
  simp only [Bool.and_eq_true, List.all_eq_true, Bool.not_eq_true', bne_iff_ne] at h
  exact ⟨fun e => by rw [e] at h; simp at h, h.2⟩
theorem forms_good (f : FmL) (hf : f ∈ formsL) : ∀ x ∈ fmW f, Gw x := by
  have : ∀ x ∈ fmW f, gwB x = true := by
    simp only [formsL, List.mem_cons, List.not_mem_nil, or_false] at hf
    rw [← List.all_eq_true]
    rcases hf with rfl | rfl | rfl | rfl | rfl | rfl | rfl | rfl | rfl | rfl | rfl | rfl <;> kernel_rfl
  exact fun x hx => gw_of (this x hx)
theorem claims_good (f : FmL) (hf : f ∈ claimsL) : ∀ x ∈ fmW f, Gw x := by
  have : ∀ x ∈ fmW f, gwB x = true := by
    simp only [claimsL, List.mem_cons, List.not_mem_nil, or_false] at hf
    rw [← List.all_eq_true]
    rcases hf with rfl | rfl | rfl | rfl | rfl <;> kernel_rfl
  exact fun x hx => gw_of (this x hx)
end Go.Proofs.YtgckmkdmlaocmaaGreatDoor
