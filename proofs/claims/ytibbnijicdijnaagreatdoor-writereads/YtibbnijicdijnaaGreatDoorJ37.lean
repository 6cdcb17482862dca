/-
  Put together: PfMa, PfMb.
-/
import Derived.Test.YtibbnijicdijnaaGreatDoorJ30
import Derived.Test.YtibbnijicdijnaaGreatDoorJ36
namespace Go.Proofs.YtibbnijicdijnaaGreatDoor
open Go.RowKit

/-- A text's words. -/
def Tk : List UInt8 → List (List UInt8) → Prop
  | r, [] => r.dropWhile blk = []
  | r, x :: L => r.dropWhile blk ≠ [] ∧ (r.dropWhile blk).take (wlen (r.dropWhile blk)) = x ∧ Tk ((r.dropWhile blk).drop (wlen (r.dropWhile blk))) L
/-- A word. -/
def Pw (x : List UInt8) : Prop := x ≠ [] ∧ ∀ c ∈ x, blk c = false
theorem drop_le (r : List UInt8) : (r.dropWhile blk).length ≤ r.length := (List.dropWhile_sublist _).length_le
theorem tk_all : ∀ (n : Nat) (r : List UInt8), r.length ≤ n → ∃ L, Tk r L := by
  intro n
  induction n with
  | zero =>
    intro r hr
    have : r = [] := List.length_eq_zero_iff.1 (by omega)
    subst this
    exact ⟨[], rfl⟩
  | succ n ih =>
    intro r hr
    by_cases h : r.dropWhile blk = []
    · exact ⟨[], h⟩
    · have hp := wlen_pos h
      have hl := wlen_le (r.dropWhile blk)
      have hd := drop_le r
      obtain ⟨L, hL⟩ := ih ((r.dropWhile blk).drop (wlen (r.dropWhile blk))) (by rw [List.length_drop]; omega)
      exact ⟨_ :: L, h, rfl, hL⟩
theorem tk_of (r : List UInt8) : ∃ L, Tk r L := tk_all r.length r (Nat.le_refl _)
theorem takeW (q : List UInt8) : q.take (wlen q) = q.takeWhile fun c => !blk c := by
  unfold wlen
  conv => lhs; arg 2; rw [← List.takeWhile_append_dropWhile (p := fun c => !blk c) (l := q)]
  rw [List.take_left]
theorem dropW (q : List UInt8) : q.drop (wlen q) = q.dropWhile fun c => !blk c := by
  unfold wlen
  conv => lhs; arg 2; rw [← List.takeWhile_append_dropWhile (p := fun c => !blk c) (l := q)]
  rw [List.drop_left]
theorem tk_words : ∀ (L : List (List UInt8)) (r : List UInt8), Tk r L → ∀ x ∈ L, Pw x ∧ ∀ c ∈ x, c ∈ r := by
  intro L
  induction L with
  | nil => intro r _ x hx; exact absurd hx List.not_mem_nil
  | cons y L ih =>
    intro r h x hx
    obtain ⟨h1, h2, h3⟩ := h
    rw [takeW] at h2
    rw [dropW] at h3
    rcases List.mem_cons.1 hx with rfl | hx
    · refine ⟨⟨?_, ?_⟩, ?_⟩
      · intro e
        have := wlen_pos h1
        unfold wlen at this
        rw [h2, e] at this
        exact absurd this (Nat.lt_irrefl _)
      · intro c hc
        rw [← h2] at hc
        have := List.all_eq_true.1 (List.all_takeWhile (l := r.dropWhile blk) (p := fun c => !blk c)) c hc
        simpa using this
      · intro c hc
        rw [← h2] at hc
        exact (List.dropWhile_sublist _).subset ((List.takeWhile_sublist _).subset hc)
    · obtain ⟨h4, h5⟩ := ih _ h3 x hx
      exact ⟨h4, fun c hc => (List.dropWhile_sublist _).subset ((List.dropWhile_sublist _).subset (h5 c hc))⟩
theorem tk_len : ∀ (L : List (List UInt8)) (r : List UInt8), Tk r L → tot L ≤ (r.dropWhile blk).length + 1 ∧ (L = [] ∨ r.dropWhile blk ≠ []) := by
  intro L
  induction L with
  | nil => intro r _; exact ⟨by simp [tot], .inl rfl⟩
  | cons x L ih =>
    intro r h
    obtain ⟨h1, h2, h3⟩ := h
    obtain ⟨h4, h5⟩ := ih _ h3
    refine ⟨?_, .inr h1⟩
    have hx : x.length = wlen (r.dropWhile blk) := by rw [← h2, List.length_take]; have := wlen_le (r.dropWhile blk); omega
    have e : tot (x :: L) = x.length + 1 + tot L := by simp [tot]
    obtain ⟨q, hq⟩ : ∃ q, (r.dropWhile blk) = q := ⟨_, rfl⟩
    rw [hq] at h4 h5 hx ⊢
    have hl := wlen_le q
    rcases h5 with rfl | h5
    · rw [e]; simp [tot]; omega
    · have hd : (q.drop (wlen q)).length = q.length - wlen q := List.length_drop
      have hb : ((q.drop (wlen q)).dropWhile blk).length + 1 ≤ (q.drop (wlen q)).length := by
        rw [dropW] at h5 ⊢
        cases hc : q.dropWhile fun c => !blk c with
        | nil => rw [hc] at h5; exact absurd rfl h5
        | cons c t =>
          have hbc : blk c = true := by
            have := List.head_dropWhile_not (fun c => !blk c) (l := q) (by rw [hc]; simp)
            simp only [hc, List.head_cons] at this
            simpa using this
          rw [List.dropWhile_cons_of_pos hbc]
          have := drop_le t
          simp
          omega
      rw [e]
      omega
/-- A list of words, one blank ahead of each. -/
def spW (L : List (List UInt8)) : List UInt8 := L.flatMap fun x => 32 :: x
theorem words_sp : ∀ (L : List (List UInt8)) (l : List UInt8), l ≠ [] → wordsP L l = l ++ spW L := by
  intro L
  induction L with
  | nil => intro l _; simp [wordsP, spW]
  | cons x L ih =>
    intro l hl
    have h0 : 0 < l.length := List.length_pos_iff.2 hl
    have : wordsP (x :: L) l = wordsP L (l ++ 32 :: x) := by
      show wordsP L (wordP l x) = _
      unfold wordP
      rw [if_pos h0]
    rw [this, ih _ (by simp)]
    simp [spW]
theorem words_first (x : List UInt8) (L : List (List UInt8)) (hx : x ≠ []) : wordsP (x :: L) [] = x ++ spW L := by
  have : wordsP (x :: L) [] = wordsP L x := by
    show wordsP L (wordP [] x) = _
    simp [wordP]
  rw [this, words_sp L x hx]
theorem sp_head (L : List (List UInt8)) : spW L = [] ∨ ∃ t, spW L = 32 :: t := by
  cases L with
  | nil => exact .inl rfl
  | cons x L => exact .inr ⟨x ++ spW L, by simp [spW]⟩
theorem tk_app (x : List UInt8) (L : List (List UInt8)) (hx : Pw x) (t : List UInt8) (ht : t = [] ∨ ∃ u, t = 32 :: u) (h : Tk t L) : Tk (x ++ t) (x :: L) := by
  have hd : (x ++ t).dropWhile blk = x ++ t := by
    cases x with
    | nil => exact absurd rfl hx.1
    | cons c x => rw [List.cons_append, List.dropWhile_cons_of_neg]; rw [hx.2 c List.mem_cons_self]; decide
  have hw : wlen (x ++ t) = x.length := by
    unfold wlen
    rw [List.takeWhile_append_of_pos (fun c hc => by rw [hx.2 c hc]; rfl)]
    rcases ht with rfl | ⟨u, rfl⟩
    · simp
    · rw [List.takeWhile_cons_of_neg (by decide)]
      simp
  refine ⟨?_, ?_, ?_⟩
  · rw [hd]; simp [hx.1]
  · rw [hd, hw, List.take_left]
  · rw [hd, hw, List.drop_left]; exact h
theorem tk_blank (t : List UInt8) (L : List (List UInt8)) (h : Tk t L) : Tk (32 :: t) L := by
  have hd : (32 :: t).dropWhile blk = t.dropWhile blk := List.dropWhile_cons_of_pos (by decide)
  cases L with
  | nil => show _ = _; rw [hd]; exact h
  | cons x L => exact ⟨by rw [hd]; exact h.1, by rw [hd]; exact h.2.1, by rw [hd]; exact h.2.2⟩
theorem tk_sp : ∀ L : List (List UInt8), (∀ x ∈ L, Pw x) → Tk (spW L) L := by
  intro L
  induction L with
  | nil => intro _; rfl
  | cons x L ih =>
    intro h
    have e : spW (x :: L) = 32 :: (x ++ spW L) := by simp [spW]
    rw [e]
    exact tk_blank _ _ (tk_app x L (h x List.mem_cons_self) _ (sp_head L) (ih fun y hy => h y (List.mem_cons_of_mem _ hy)))
theorem tk_line (x : List UInt8) (L : List (List UInt8)) (h : ∀ y ∈ x :: L, Pw y) : Tk (wordsP (x :: L) []) (x :: L) := by
  rw [words_first x L (h x List.mem_cons_self).1]
  exact tk_app x L (h x List.mem_cons_self) _ (sp_head L) (tk_sp L fun y hy => h y (List.mem_cons_of_mem _ hy))

/-- Words taken. -/
theorem tk_take {r x : List UInt8} {L : List (List UInt8)} (h : Tk r (x :: L)) : ∃ r', takeP (r, none) = ((x, true), (r', none)) ∧ Tk r' L := by
  refine ⟨(r.dropWhile blk).drop (wlen (r.dropWhile blk)), ?_, h.2.2⟩
  unfold takeP
  rw [if_neg (by simp [h.1])]
  simp only [h.2.1]
theorem tk_stop {r : List UInt8} (h : Tk r []) : takeP (r, none) = (([], false), (r, none)) := by
  unfold takeP
  rw [if_pos (.inr h)]
theorem take_bad {s : Ls} (h : s.2.isSome = true) : takeP s = (([], false), s) := by
  unfold takeP
  rw [if_pos (.inl h)]
theorem fail_bad {e : Int} {s : Ls} (h : s.2.isSome = true) : failP e s = s := by
  unfold failP
  split
  · rename_i h0; rw [h0] at h; cases h
  · rfl
theorem next_bad {s : Ls} (h : s.2.isSome = true) : nextP s = ([], s) := by
  unfold nextP
  rw [take_bad h]
  simp [fail_bad h]
theorem tk_next {r x : List UInt8} {L : List (List UInt8)} (h : Tk r (x :: L)) : ∃ r', nextP (r, none) = (x, (r', none)) ∧ Tk r' L := by
  obtain ⟨r', h1, h2⟩ := tk_take h
  refine ⟨r', ?_, h2⟩
  unfold nextP
  rw [h1]
  simp
theorem next_end {r : List UInt8} (h : Tk r []) : (nextP (r, none)).2.2.isSome = true := by
  unfold nextP
  rw [tk_stop h]
  simp [failP]
theorem none_some {α : Type} {o : Option α} (h : o = none) (h' : o.isSome = true) : False := by rw [h] at h'; cases h'
theorem next_ok {s : Ls} {L : List (List UInt8)} (h : Tk s.1 L) (hn : (nextP s).2.2 = none) : ∃ x M r', L = x :: M ∧ nextP s = (x, (r', none)) ∧ Tk r' M ∧ s.2 = none := by
  obtain ⟨r, o⟩ := s
  cases o with
  | some e => rw [next_bad rfl] at hn; cases hn
  | none =>
    cases L with
    | nil => exact (none_some hn (next_end h)).elim
    | cons x M =>
      obtain ⟨r', h1, h2⟩ := tk_next h
      exact ⟨x, M, r', rfl, h1, h2, rfl⟩
theorem whole_ok {x : List UInt8} {g : Int} {s : Ls} (h : (wholeP x g s).2 = none) : badN x g = false ∧ wholeP x g s = s ∧ s.2 = none := by
  unfold wholeP at h ⊢
  cases hb : badN x g with
  | true => rw [hb, if_pos rfl] at h; exact (none_some h (fail_some _ _)).elim
  | false => rw [hb] at h; exact ⟨rfl, by simp, by simpa using h⟩
theorem whole_yes {x : List UInt8} {g : Int} {s : Ls} (h : badN x g = false) : wholeP x g s = s := by
  unfold wholeP
  rw [h]
  simp
theorem literal_ok {x : List UInt8} {s : Ls} (h : (literalP x s).2 = none) : (litP x).2 = true ∧ literalP x s = s ∧ s.2 = none := by
  unfold literalP at h ⊢
  cases hb : (litP x).2 with
  | false => rw [hb] at h; exact (none_some (by simpa using h) (fail_some 81 s)).elim
  | true => rw [hb] at h; exact ⟨rfl, by simp, by simpa using h⟩
theorem literal_yes {x : List UInt8} {s : Ls} (h : (litP x).2 = true) : literalP x s = s := by
  unfold literalP
  rw [h]
  simp
theorem must_ok {x : List UInt8} {s : Ls} {L : List (List UInt8)} (h : Tk s.1 L) (hn : (mustP x s).2 = none) : ∃ M r', L = x :: M ∧ mustP x s = (r', none) ∧ Tk r' M ∧ s.2 = none := by
  have hn0 := hn
  unfold mustP at hn
  split at hn
  · rename_i he
    obtain ⟨y, M, r', h1, h2, h3, h4⟩ := next_ok h hn
    refine ⟨M, r', ?_, ?_, h3, h4⟩
    · rw [h1]; rw [h2] at he; simp at he; rw [he]
    · unfold mustP; rw [if_pos he, h2]
  · exact (none_some hn (fail_some _ _)).elim
theorem must_yes {x r : List UInt8} {L : List (List UInt8)} (h : Tk r (x :: L)) : ∃ r', mustP x (r, none) = (r', none) ∧ Tk r' L := by
  obtain ⟨r', h1, h2⟩ := tk_next h
  exact ⟨r', by unfold mustP; rw [h1]; simp, h2⟩
theorem end_ok {s : Ls} {L : List (List UInt8)} (h : Tk s.1 L) (hn : (endP s).2 = none) : L = [] ∧ s.2 = none := by
  obtain ⟨r, o⟩ := s
  cases o with
  | some e => unfold endP at hn; rw [take_bad rfl] at hn; cases hn
  | none =>
    cases L with
    | nil => exact ⟨rfl, rfl⟩
    | cons x M =>
      obtain ⟨r', h1, _⟩ := tk_take h
      unfold endP at hn
      rw [h1] at hn
      simp [failP] at hn
theorem end_yes {r : List UInt8} (h : Tk r []) : endP (r, none) = (r, none) := by
  unfold endP
  rw [tk_stop h]
  simp

/-- Lists of words. -/
theorem lst_bad {rd : List UInt8 → Ls → Ls} {n : Nat} {s : Ls} (h : s.2.isSome = true) : lstP rd n s = ([], s) := by
  cases n with
  | zero => rfl
  | succ n => rw [lst_stop (x := []) (by rw [take_bad h]), take_bad h]
theorem lst_ok {rd : List UInt8 → Ls → Ls} {ok : List UInt8 → Prop} (hrd : ∀ x s, (rd x s).2 = none → ok x ∧ rd x s = s) : ∀ (L : List (List UInt8)) (n : Nat) (r : List UInt8), Tk r L → L.length < n → (lstP rd n (r, none)).2.2 = none → (∀ x ∈ L, ok x) ∧ ∃ r', lstP rd n (r, none) = (L, (r', none)) ∧ Tk r' [] := by
  intro L
  induction L with
  | nil =>
    intro n r h hn h0
    obtain ⟨n, rfl⟩ : ∃ m, n = m + 1 := ⟨n - 1, by simp at hn; omega⟩
    refine ⟨fun x hx => absurd hx List.not_mem_nil, r, ?_, h⟩
    rw [lst_stop (x := []) (by rw [tk_stop h]), tk_stop h]
  | cons x L ih =>
    intro n r h hn h0
    obtain ⟨n, rfl⟩ : ∃ m, n = m + 1 := ⟨n - 1, by simp at hn; omega⟩
    obtain ⟨r', h1, h2⟩ := tk_take h
    have e : lstP rd (n + 1) (r, none) = (x :: (lstP rd n (rd x (r', none))).1, (lstP rd n (rd x (r', none))).2) := by rw [lst_more (x := x) (by rw [h1]), h1]
    rw [e] at h0
    have hb : (rd x (r', none)).2 = none := by
      cases hs : (rd x (r', none)).2 with
      | none => rfl
      | some z => rw [lst_bad (by rw [hs]; rfl)] at h0; simp only [] at h0; rw [hs] at h0; cases h0
    obtain ⟨k1, k2⟩ := hrd x _ hb
    rw [k2] at h0 e
    obtain ⟨a1, r2, a2, a3⟩ := ih n r' h2 (by simp at hn; omega) h0
    refine ⟨fun y hy => ?_, r2, by rw [e, a2], a3⟩
    rcases List.mem_cons.1 hy with rfl | hy
    · exact k1
    · exact a1 y hy
theorem lst_yes {rd : List UInt8 → Ls → Ls} {ok : List UInt8 → Prop} (hrd : ∀ x s, ok x → rd x s = s) : ∀ (L : List (List UInt8)) (n : Nat) (r : List UInt8), Tk r L → L.length < n → (∀ x ∈ L, ok x) → ∃ r', lstP rd n (r, none) = (L, (r', none)) ∧ Tk r' [] := by
  intro L
  induction L with
  | nil =>
    intro n r h hn h0
    obtain ⟨n, rfl⟩ : ∃ m, n = m + 1 := ⟨n - 1, by simp at hn; omega⟩
    refine ⟨r, ?_, h⟩
    rw [lst_stop (x := []) (by rw [tk_stop h]), tk_stop h]
  | cons x L ih =>
    intro n r h hn h0
    obtain ⟨n, rfl⟩ : ∃ m, n = m + 1 := ⟨n - 1, by simp at hn; omega⟩
    obtain ⟨r', h1, h2⟩ := tk_take h
    have e : lstP rd (n + 1) (r, none) = (x :: (lstP rd n (rd x (r', none))).1, (lstP rd n (rd x (r', none))).2) := by rw [lst_more (x := x) (by rw [h1]), h1]
    rw [hrd x _ (h0 x List.mem_cons_self)] at e
    obtain ⟨r2, a2, a3⟩ := ih n r' h2 (by simp at hn; omega) fun y hy => h0 y (List.mem_cons_of_mem _ hy)
    exact ⟨r2, by rw [e, a2], a3⟩
theorem tk_count {r : List UInt8} {L : List (List UInt8)} (h : Tk r L) : L.length ≤ r.length := by
  have h1 := tk_len L r h
  have h2 := tk_words L r h
  have h3 : ∀ M : List (List UInt8), (∀ x ∈ M, Pw x) → M.length * 2 ≤ tot M := by
    intro M
    induction M with
    | nil => intro _; simp
    | cons x M ih =>
      intro hM
      have h5 := List.length_pos_iff.2 (hM x List.mem_cons_self).1
      have h4 := ih fun y hy => hM y (List.mem_cons_of_mem _ hy)
      have e : tot (x :: M) = x.length + 1 + tot M := by simp [tot]
      rw [e, List.length_cons]
      omega
  have h4 := h3 L fun x hx => (h2 x hx).1
  have h5 := drop_le r
  rcases h1.2 with rfl | h6
  · simp
  · have := List.length_pos_iff.2 h6
    omega
theorem list_ok {rd : List UInt8 → Ls → Ls} {ok : List UInt8 → Prop} (hrd : ∀ x s, (rd x s).2 = none → ok x ∧ rd x s = s) {s : Ls} {L : List (List UInt8)} (h : Tk s.1 L) (hn : (listP rd s).2.2 = none) : (∀ x ∈ L, ok x) ∧ (∃ r', listP rd s = (L, (r', none)) ∧ Tk r' []) ∧ s.2 = none := by
  obtain ⟨r, o⟩ := s
  unfold listP at hn ⊢
  cases o with
  | some e => rw [lst_bad rfl] at hn; cases hn
  | none =>
    have := lst_ok hrd L _ r h (by have := tk_count h; simp at this ⊢; omega) hn
    exact ⟨this.1, this.2, rfl⟩
theorem list_yes {rd : List UInt8 → Ls → Ls} {ok : List UInt8 → Prop} (hrd : ∀ x s, ok x → rd x s = s) {r : List UInt8} {L : List (List UInt8)} (h : Tk r L) (ho : ∀ x ∈ L, ok x) : ∃ r', listP rd (r, none) = (L, (r', none)) ∧ Tk r' [] := by
  unfold listP
  exact lst_yes hrd L _ r h (by have := tk_count h; simp at this ⊢; omega) ho
end Go.Proofs.YtibbnijicdijnaaGreatDoor

namespace Go.Proofs.YtibbnijicdijnaaGreatDoor
open Go.RowKit

/-- Digits, there and back. -/
theorem dval_pos {l : List UInt8} (h : sizeB l = true) : 1 ≤ dval l := by
  have h1 : l ≠ [] ∧ l.head? ≠ some 48 ∧ l.all isDig = true := by
    unfold sizeB at h
    simp only [Bool.and_eq_true, Bool.not_eq_true', bne_iff_ne, ne_eq] at h
    exact ⟨fun e => by rw [e] at h; simp at h, h.1.2, h.2⟩
  cases l with
  | nil => exact absurd rfl h1.1
  | cons c l =>
    have hc : isDig c = true := by have := h1.2.2; simp at this; exact this.1
    have hc8 : c ≠ 48 := fun e => h1.2.1 (by rw [e]; rfl)
    have hn : 1 ≤ c.toNat - 48 := by
      unfold isDig at hc
      have := of_decide_eq_true hc
      have h8 : c.toNat ≠ 48 := fun e => hc8 (UInt8.toNat_inj.1 (by rw [e]; rfl))
      omega
    have key : ∀ (t : List UInt8) (a : Nat), 1 ≤ a → 1 ≤ t.foldl (fun n c => 10 * n + (c.toNat - 48)) a := by
      intro t
      induction t with
      | nil => intro a ha; exact ha
      | cons d t ih =>
        intro a ha
        have h0 : 1 ≤ 10 * a + (d.toNat - 48) := by omega
        exact ih _ h0
    unfold dval
    rw [List.foldl_cons]
    exact key l _ (by omega)
theorem dec_back : ∀ (n : Nat) (l : List UInt8), l.length ≤ n → sizeB l = true → Lib.decDigits (dval l) = l := by
  intro n
  induction n with
  | zero =>
    intro l hl h
    have : l = [] := List.length_eq_zero_iff.1 (by omega)
    subst this
    cases h
  | succ n ih =>
    intro l hl h
    rcases List.eq_nil_or_concat l with rfl | ⟨t, c, rfl⟩
    · cases h
    · have h0 := h
      unfold sizeB at h
      simp only [Bool.and_eq_true, Bool.not_eq_true', bne_iff_ne, ne_eq, List.concat_eq_append, List.all_append, List.all_cons, List.all_nil, Bool.and_true] at h
      have hc : isDig c = true := h.2.2
      unfold isDig at hc
      have hcn := of_decide_eq_true hc
      have hb : UInt8.ofNat (48 + (c.toNat - 48)) = c := by
        have : 48 + (c.toNat - 48) = c.toNat := by omega
        rw [this]
        simp
      rw [List.concat_eq_append, dval_snoc]
      by_cases ht : t = []
      · subst ht
        rw [Lib.decDigits, dif_pos (by show 10 * 0 + (c.toNat - 48) < 10; omega)]
        show [UInt8.ofNat (48 + (10 * 0 + (c.toNat - 48)))] = _
        rw [Nat.mul_zero, Nat.zero_add, hb]
        rfl
      · have hs : sizeB t = true := by
          unfold sizeB
          simp only [Bool.and_eq_true, Bool.not_eq_true', bne_iff_ne, ne_eq]
          refine ⟨⟨by simp [ht], fun e => h.1.2 ?_⟩, h.2.1⟩
          cases t with
          | nil => exact absurd rfl ht
          | cons d t => simpa using e
        have hp := dval_pos hs
        have e1 : (10 * dval t + (c.toNat - 48)) / 10 = dval t := by omega
        have e2 : (10 * dval t + (c.toNat - 48)) % 10 = c.toNat - 48 := by omega
        rw [Lib.decDigits, dif_neg (by omega), e1, e2, hb, ih t (by simp at hl; omega) hs]
/-- A word that may stand in a line. -/
def Gw (x : List UInt8) : Prop := x ≠ [] ∧ ∀ c ∈ x, blk c = false ∧ c ≠ 10
theorem Gw.pw {x : List UInt8} (h : Gw x) : Pw x := ⟨h.1, fun c hc => (h.2 c hc).1⟩
theorem dig_good {c : UInt8} (h : isDig c = true) : blk c = false ∧ c ≠ 10 := by
  unfold isDig at h
  have := of_decide_eq_true h
  have key : ∀ k : UInt8, k.toNat < 48 → c ≠ k := fun k hk e => by rw [e] at this; omega
  refine ⟨?_, key 10 (by decide)⟩
  unfold blk
  simp [key 32 (by decide), key 9 (by decide)]
theorem dig_not {c : UInt8} (h : isDig c = true) (k : UInt8) (hk : k.toNat < 48) : c ≠ k := fun e => by
  unfold isDig at h
  have := of_decide_eq_true h
  rw [e] at this
  omega
theorem parse_good {x : List UInt8} (h : (parseZ x).isSome = true) : Gw x ∧ ∀ c ∈ x, c = 45 ∨ isDig c = true := by
  have h1 : x = [48] ∨ sizeB (digitsOf x) = true := by
    unfold parseZ at h
    split at h
    · assumption
    · cases h
  have key : x ≠ [] ∧ ∀ c ∈ x, c = 45 ∨ isDig c = true := by
    rcases h1 with rfl | h1
    · exact ⟨by decide, fun c hc => by simp at hc; subst hc; exact .inr (by decide)⟩
    · have h2 : (digitsOf x) ≠ [] ∧ ∀ c ∈ digitsOf x, isDig c = true := by
        unfold sizeB at h1
        simp only [Bool.and_eq_true, Bool.not_eq_true', List.all_eq_true] at h1
        exact ⟨fun e => by rw [e] at h1; simp at h1, h1.2⟩
      cases x with
      | nil => exact absurd rfl h2.1
      | cons c x =>
        refine ⟨by simp, fun d hd => ?_⟩
        by_cases hc : c = 45
        · subst hc
          have e : digitsOf (45 :: x) = x := by simp [digitsOf, Lib.trimPrefix, Lib.hasPrefix, List.isPrefixOf]
          rw [e] at h2
          rcases List.mem_cons.1 hd with rfl | hd
          · exact .inl rfl
          · exact .inr (h2.2 d hd)
        · have e : digitsOf (c :: x) = c :: x := by
            unfold digitsOf Lib.trimPrefix Lib.hasPrefix
            rw [if_neg]
            simp [List.isPrefixOf]
            exact fun e => hc e.symm
          rw [e] at h2
          exact .inr (h2.2 d hd)
  refine ⟨⟨key.1, fun c hc => ?_⟩, key.2⟩
  rcases key.2 c hc with rfl | h3
  · decide
  · exact dig_good h3
theorem bad_parse {x : List UInt8} {g : Int} (h : badN x g = false) : (parseZ x).isSome = true := by
  unfold badN at h
  cases hp : parseZ x with
  | none => rw [hp] at h; simp at h
  | some z => rfl
theorem bad_good {x : List UInt8} {g : Int} (h : badN x g = false) : Gw x := (parse_good (bad_parse h)).1
theorem bad_not {x : List UInt8} {g : Int} (h : badN x g = false) (k : UInt8) (hk : k ≠ 45 ∧ isDig k = false) (t : List UInt8) : x ≠ k :: t := fun e => by
  have := (parse_good (bad_parse h)).2 k (by rw [e]; exact List.mem_cons_self)
  rcases this with h1 | h1
  · exact hk.1 h1
  · rw [hk.2] at h1; cases h1

/-- What a literal's word is. -/
theorem lit_word {y : List UInt8} (h : (litP y).2 = true) : ∃ ds, sizeB ds = true ∧ 1 ≤ dval ds ∧ dval ds ≤ 1073741824 ∧ ((y = 120 :: ds ∧ (litP y).1 = (dval ds : Int)) ∨ (y = 126 :: 120 :: ds ∧ (litP y).1 = -(dval ds : Int))) := by
  unfold litP at h ⊢
  obtain ⟨u, hu⟩ : ∃ u, Lib.trimPrefix y [126] = u := ⟨_, rfl⟩
  rw [hu] at h ⊢
  by_cases hx : Lib.hasPrefix u [120] = true
  · rw [if_pos hx] at h ⊢
    obtain ⟨ds, hds⟩ : ∃ ds, Lib.trimPrefix u [120] = ds := ⟨_, rfl⟩
    rw [hds] at h ⊢
    by_cases hv : 1 ≤ smallV ((parseZ ds).getD 0) ∧ smallV ((parseZ ds).getD 0) ≤ 1073741824
    · rw [if_pos hv] at h ⊢
      have hu2 : u = 120 :: ds := by
        cases u with
        | nil => cases hx
        | cons c u =>
          have : c = 120 := by unfold Lib.hasPrefix at hx; simp [List.isPrefixOf] at hx; exact hx.symm
          subst this
          rw [← hds]
          simp [Lib.trimPrefix, Lib.hasPrefix, List.isPrefixOf]
      obtain ⟨z, hz⟩ : ∃ z, parseZ ds = some z := by
        cases hp : parseZ ds with
        | none => rw [hp] at hv; exact absurd hv.1 (by decide)
        | some z => exact ⟨z, rfl⟩
      rw [hz] at hv ⊢
      simp only [Option.getD_some] at hv ⊢
      have hsz : smallV z = z := by
        unfold smallV at hv ⊢
        split
        · rfl
        · rename_i h0; rw [if_neg h0] at hv; exact absurd hv.1 (by decide)
      rw [hsz] at hv ⊢
      have hp := hz
      unfold parseZ at hp
      split at hp
      · rename_i hc
        have hp' := Option.some.inj hp
        cases hm : minus ds with
        | true =>
          rw [hm] at hp'
          unfold sg at hp'
          simp at hp'
          omega
        | false =>
          rw [hm] at hp'
          have hdd : digitsOf ds = ds := by
            unfold minus at hm
            unfold digitsOf Lib.trimPrefix
            rw [if_neg (by rw [hm]; decide)]
          rw [hdd] at hp' hc
          unfold sg at hp'
          simp at hp'
          have hs : sizeB ds = true := by
            rcases hc with rfl | hc
            · have : dval [48] = 0 := rfl
              rw [this] at hp'
              omega
            · exact hc
          refine ⟨ds, hs, by omega, by omega, ?_⟩
          by_cases hy : Lib.hasPrefix y [126] = true
          · right
            refine ⟨?_, by simp [hy]; omega⟩
            cases y with
            | nil => cases hy
            | cons c y =>
              have : c = 126 := by unfold Lib.hasPrefix at hy; simp [List.isPrefixOf] at hy; exact hy.symm
              subst this
              have : Lib.trimPrefix (126 :: y) [126] = y := by simp [Lib.trimPrefix, Lib.hasPrefix, List.isPrefixOf]
              rw [this] at hu
              rw [hu, hu2]
          · left
            refine ⟨?_, by simp [hy]; omega⟩
            have : Lib.trimPrefix y [126] = y := by unfold Lib.trimPrefix; rw [if_neg hy]
            rw [this] at hu
            rw [hu, hu2]
      · cases hp
    · rw [if_neg hv] at h; cases h
  · rw [if_neg hx] at h; cases h
theorem size_head {ds : List UInt8} (h : sizeB ds = true) : Lib.hasPrefix ds [45] = false := by
  cases ds with
  | nil => rfl
  | cons c ds =>
    have hc : isDig c = true := by unfold sizeB at h; simp at h; exact h.2.1
    have := dig_not hc 45 (by decide)
    unfold Lib.hasPrefix
    simp [List.isPrefixOf]
    exact fun e => this e.symm
theorem lit_back {y : List UInt8} (h : (litP y).2 = true) : litT (litP y).1 = y := by
  obtain ⟨ds, h1, h2, h3, h4⟩ := lit_word h
  have hd := dec_back ds.length ds (Nat.le_refl _) h1
  have hh := size_head h1
  rcases h4 with ⟨rfl, h5⟩ | ⟨rfl, h5⟩
  · rw [h5]
    have e : Lib.itoa (dval ds : Int) = ds := by unfold Lib.itoa; rw [if_neg (by omega), Int.toNat_natCast, hd]
    unfold litT
    rw [e, hh]
    simp [Lib.trimPrefix, hh]
  · rw [h5]
    have e : Lib.itoa (-(dval ds : Int)) = 45 :: ds := by
      unfold Lib.itoa
      rw [if_pos (by omega)]
      have : (-(dval ds : Int)).natAbs = dval ds := by omega
      rw [this, hd]
    unfold litT
    rw [e]
    simp [Lib.trimPrefix, Lib.hasPrefix, List.isPrefixOf]
/-- A literal. -/
def okLi (n : Int) : Prop := litP (litT n) = (n, true)
theorem lit_ok {y : List UInt8} (h : (litP y).2 = true) : okLi (litP y).1 := by
  unfold okLi
  rw [lit_back h, ← h]
theorem okLi.good {n : Int} (h : okLi n) : Gw (litT n) ∧ -1073741824 ≤ n ∧ n ≤ 1073741824 ∧ ∃ t, litT n = 120 :: t ∨ litT n = 126 :: t := by
  unfold okLi at h
  have h2 : (litP (litT n)).2 = true := by rw [h]
  obtain ⟨ds, h1, h3, h4, h5⟩ := lit_word h2
  have h6 : ∀ c ∈ ds, blk c = false ∧ c ≠ 10 := by
    unfold sizeB at h1
    simp only [Bool.and_eq_true, List.all_eq_true] at h1
    exact fun c hc => dig_good (h1.2 c hc)
  rcases h5 with ⟨e, h7⟩ | ⟨e, h7⟩
  · rw [h] at h7
    simp only [] at h7
    refine ⟨?_, by omega, by omega, ⟨_, .inl e⟩⟩
    rw [e]
    refine ⟨by simp, fun c hc => ?_⟩
    rcases List.mem_cons.1 hc with rfl | hc
    · decide
    · exact h6 c hc
  · rw [h] at h7
    simp only [] at h7
    refine ⟨?_, by omega, by omega, ⟨_, .inr e⟩⟩
    rw [e]
    refine ⟨by simp, fun c hc => ?_⟩
    rcases List.mem_cons.1 hc with rfl | hc
    · decide
    · rcases List.mem_cons.1 hc with rfl | hc
      · decide
      · exact h6 c hc
theorem okLi.two {n : Int} (h : okLi n) : (litP (litT n)).2 = true ∧ (litP (litT n)).1 = n := by
  unfold okLi at h
  rw [h]
  exact ⟨rfl, rfl⟩

/-- Nothing is read behind a fault. -/
theorem whole_bad {x : List UInt8} {g : Int} {s : Ls} (h : s.2.isSome = true) : wholeP x g s = s := by
  unfold wholeP
  split
  · exact fail_bad h
  · rfl
theorem literal_bad {x : List UInt8} {s : Ls} (h : s.2.isSome = true) : literalP x s = s := by
  unfold literalP
  split
  · rfl
  · exact fail_bad h
theorem must_bad {x : List UInt8} {s : Ls} (h : s.2.isSome = true) : mustP x s = s := by
  unfold mustP
  rw [next_bad h]
  simp [fail_bad h]
theorem row_bad {n : Nat} {x : List UInt8} {s : Ls} (h : s.2.isSome = true) : rowL n x s = ([], s) := by
  cases n with
  | zero => rfl
  | succ n => exact rowL_stop (.inr h)
theorem rowP_bad {s : Ls} (h : s.2.isSome = true) : (rowP s).2 = s := by
  unfold rowP
  rw [next_bad h]
  simp only []
  rw [row_bad h]
  simp only []
  rw [next_bad h]
  simp only []
  rw [whole_bad h, must_bad h]
theorem list_bad {rd : List UInt8 → Ls → Ls} {s : Ls} (h : s.2.isSome = true) : listP rd s = ([], s) := lst_bad h
theorem oper_bad {x : List UInt8} {s : Ls} (h : s.2.isSome = true) : (operP x s).2 = s := by
  unfold operP
  split
  · rfl
  · unfold operS
    split
    · simp only []; rw [fail_bad h, whole_bad h]
    · exact whole_bad h
theorem turn_bad {fr tk : Int} {A : List OpL} {s : Ls} (h : s.2.isSome = true) : (turnP fr tk A s).2 = s := by
  unfold turnP
  split
  · exact fail_bad h
  · split
    · rfl
    · exact fail_bad h
theorem op_bad {x : List UInt8} {A : List OpL} {s : Ls} (h : s.2.isSome = true) : (opP x A s).2 = s := by
  unfold opP
  repeat' split
  all_goals first | rfl | exact turn_bad h | exact oper_bad h
theorem lops_bad : ∀ (n : Nat) (A : List OpL) (s : Ls), s.2.isSome = true → (lopsP n A s).2 = s := by
  intro n A s h
  cases n with
  | zero => rfl
  | succ n => rw [lops_stop (x := []) (by rw [take_bad h]), take_bad h]
theorem opsP_bad {s : Ls} (h : s.2.isSome = true) : (opsP s).2 = s := by
  unfold opsP
  rw [next_bad h]
  simp only []
  have := op_bad (x := []) (A := []) h
  rw [this]
  exact lops_bad _ _ _ h

/-- A row's words. -/
def okPc (o : PcL) : Prop := badN o.1 (-1) = false ∧ okLi o.2
theorem rowL_ok : ∀ (n : Nat) (x r : List UInt8) (L : List (List UInt8)), Tk r L → L.length < n → (rowL n x (r, none)).2.2 = none → x ≠ [62, 61] → ∃ P L2 r', x :: L = pcsT P ++ [62, 61] :: L2 ∧ (∀ o ∈ P, okPc o) ∧ rowL n x (r, none) = (P, (r', none)) ∧ Tk r' L2 := by
  intro n
  induction n with
  | zero => intro x r L _ h; exact absurd h (Nat.not_lt_zero _)
  | succ n ih =>
    intro x r L hT hn h0 hx
    have hc : ¬ (x = [62, 61] ∨ ((r, none) : Ls).2.isSome = true) := by rintro (h | h); exact hx h; cases h
    have e := rowL_more (n := n) hc
    rw [e] at h0
    simp only [] at h0
    have hb : (nextP (pcB x (r, none))).2.2 = none := by
      cases hs : (nextP (pcB x (r, none))).2.2 with
      | none => rfl
      | some z => rw [row_bad (by rw [hs]; rfl)] at h0; simp only [] at h0; rw [hs] at h0; cases h0
    have hb1 : (pcB x (r, none)).2 = none := by
      cases hs : (pcB x (r, none)).2 with
      | none => rfl
      | some z => rw [next_bad (by rw [hs]; rfl)] at hb; simp only [] at hb; rw [hs] at hb; cases hb
    have hb2 := hb1
    unfold pcB at hb2
    obtain ⟨k1, k2, k3⟩ := literal_ok hb2
    have hA : (pcA x (r, none)).2 = none := by
      cases hs : (pcA x (r, none)).2 with
      | none => rfl
      | some z => rw [next_bad (by rw [hs]; rfl)] at k3; simp only [] at k3; rw [hs] at k3; cases k3
    have hA2 := hA
    unfold pcA at hA2
    obtain ⟨a1, a2, _⟩ := whole_ok hA2
    have ePA : pcA x (r, none) = (r, none) := a2
    rw [ePA] at k3 k2
    obtain ⟨y, M, r1, c1, c2, c3, _⟩ := next_ok (s := (r, none)) hT k3
    have ePY : pcY x (r, none) = y := by unfold pcY; rw [ePA, c2]
    have ePB : pcB x (r, none) = (r1, none) := by unfold pcB; rw [ePA, k2, c2]
    rw [ePY] at k1
    rw [ePB] at hb
    obtain ⟨z, M2, r2, d1, d2, d3, _⟩ := next_ok (s := (r1, none)) c3 hb
    rw [ePY, ePB, d2] at e
    rw [ePB, d2] at h0
    simp only [] at e h0
    have hyz : pcsT [(x, (litP y).1)] = [x, y] := by simp [pcsT, lit_back k1]
    have hpc : okPc (x, (litP y).1) := ⟨a1, lit_ok k1⟩
    by_cases hz : z = [62, 61]
    · have hn1 : 1 ≤ n := by rw [c1, d1] at hn; simp at hn; omega
      obtain ⟨m, rfl⟩ : ∃ m, n = m + 1 := ⟨n - 1, by omega⟩
      have es : rowL (m + 1) z (r2, none) = ([], (r2, none)) := rowL_stop (.inl hz)
      refine ⟨[(x, (litP y).1)], M2, r2, ?_, ?_, ?_, d3⟩
      · rw [hyz, c1, d1, hz]; rfl
      · intro o ho; simp at ho; rw [ho]; exact hpc
      · rw [e, es]
    · obtain ⟨P, L2, r', g1, g2, g3, g4⟩ := ih z r2 M2 d3 (by rw [c1, d1] at hn; simp at hn; omega) h0 hz
      refine ⟨(x, (litP y).1) :: P, L2, r', ?_, ?_, ?_, g4⟩
      · have : pcsT ((x, (litP y).1) :: P) = [x, y] ++ pcsT P := by rw [← hyz]; simp [pcsT]
        rw [this, c1, d1, g1]
        simp
      · intro o ho
        rcases List.mem_cons.1 ho with rfl | ho
        · exact hpc
        · exact g2 o ho
      · rw [e, g3]
theorem rowL_yes : ∀ (P : List PcL) (n : Nat) (x r : List UInt8) (L L2 : List (List UInt8)), Tk r L → P.length < n → x :: L = pcsT P ++ [62, 61] :: L2 → (∀ o ∈ P, okPc o) → ∃ r', rowL n x (r, none) = (P, (r', none)) ∧ Tk r' L2 := by
  intro P
  induction P with
  | nil =>
    intro n x r L L2 hT hn hx _
    obtain ⟨m, rfl⟩ : ∃ m, n = m + 1 := ⟨n - 1, by simp at hn; omega⟩
    simp [pcsT] at hx
    exact ⟨r, rowL_stop (.inl hx.1), by rw [← hx.2]; exact hT⟩
  | cons o P ih =>
    intro n x r L L2 hT hn hx ho
    obtain ⟨m, rfl⟩ : ∃ m, n = m + 1 := ⟨n - 1, by simp at hn; omega⟩
    have e1 : pcsT (o :: P) = [o.1, litT o.2] ++ pcsT P := by simp [pcsT]
    rw [e1] at hx
    simp at hx
    obtain ⟨hx1, hx2⟩ := hx
    obtain ⟨hb, hl⟩ := ho o List.mem_cons_self
    have hne : x ≠ [62, 61] := by rw [hx1]; exact bad_not hb 62 (by decide) [61]
    have e := rowL_more (n := m) (x := x) (s := (r, none)) (by rintro (h | h); exact hne h; cases h)
    have ePA : pcA x (r, none) = (r, none) := by unfold pcA; rw [hx1]; exact whole_yes hb
    rw [hx2] at hT
    obtain ⟨r1, c2, c3⟩ := tk_next hT
    have ePY : pcY x (r, none) = litT o.2 := by unfold pcY; rw [ePA, c2]
    have ePB : pcB x (r, none) = (r1, none) := by unfold pcB; rw [ePY, ePA, c2]; exact literal_yes hl.two.1
    obtain ⟨z, M2, hz⟩ : ∃ z M2, pcsT P ++ [62, 61] :: L2 = z :: M2 := by
      cases hq : pcsT P ++ [62, 61] :: L2 with
      | nil => simp at hq
      | cons z M2 => exact ⟨z, M2, rfl⟩
    rw [hz] at c3
    obtain ⟨r2, d2, d3⟩ := tk_next c3
    rw [ePY, ePB, d2, hl.two.2] at e
    simp only [] at e
    obtain ⟨r', g1, g2⟩ := ih m z r2 M2 L2 d3 (by simp at hn; omega) hz.symm fun o' h' => ho o' (List.mem_cons_of_mem _ h')
    exact ⟨r', by rw [e, g1, hx1], g2⟩
theorem row_ok {s : Ls} {L : List (List UInt8)} (h : Tk s.1 L) (hn : (rowP s).2.2 = none) : ∃ P deg L2 r', L = rowT P deg ++ L2 ∧ (∀ o ∈ P, okPc o) ∧ badN deg (-1) = false ∧ rowP s = ((P, deg), (r', none)) ∧ Tk r' L2 ∧ s.2 = none := by
  have hs : s.2 = none := by
    cases hs : s.2 with
    | none => rfl
    | some z => rw [rowP_bad (by rw [hs]; rfl), hs] at hn; cases hn
  obtain ⟨r, o⟩ := s
  simp only [] at hs
  subst hs
  have hn0 := hn
  unfold rowP at hn
  simp only [] at hn
  obtain ⟨R, hR⟩ : ∃ R, rowL (r.length + 3) (nextP (r, none)).1 (nextP (r, none)).2 = R := ⟨_, rfl⟩
  rw [hR] at hn
  have w1 : (wholeP (nextP R.2).1 (-1) (nextP R.2).2).2 = none := by
    cases hs : (wholeP (nextP R.2).1 (-1) (nextP R.2).2).2 with
    | none => rfl
    | some z => rw [must_bad (by rw [hs]; rfl), hs] at hn; cases hn
  obtain ⟨w2, w3, w4⟩ := whole_ok w1
  have hR2 : R.2.2 = none := by
    cases hs : R.2.2 with
    | none => rfl
    | some z => rw [next_bad (by rw [hs]; rfl)] at w4; simp only [] at w4; rw [hs] at w4; cases w4
  have hn1 : (nextP (r, none)).2.2 = none := by
    cases hs : (nextP (r, none)).2.2 with
    | none => rfl
    | some z => rw [row_bad (by rw [hs]; rfl)] at hR; rw [← hR] at hR2; simp only [] at hR2; rw [hs] at hR2; cases hR2
  obtain ⟨x, M, r1, c1, c2, c3, _⟩ := next_ok (s := (r, none)) h hn1
  rw [c2] at hR
  simp only [] at hR
  have key : ∃ P L2 r2, x :: M = pcsT P ++ [62, 61] :: L2 ∧ (∀ o ∈ P, okPc o) ∧ R = (P, (r2, none)) ∧ Tk r2 L2 := by
    by_cases hx : x = [62, 61]
    · rw [rowL_stop (n := r.length + 2) (.inl hx)] at hR
      exact ⟨[], M, r1, by rw [hx]; rfl, fun o ho => absurd ho List.not_mem_nil, hR.symm, c3⟩
    · obtain ⟨P, L2, r2, g1, g2, g3, g4⟩ := rowL_ok (r.length + 3) x r1 M c3 (by have := tk_count h; rw [c1] at this; simp at this; omega) (by rw [hR]; exact hR2) hx
      exact ⟨P, L2, r2, g1, g2, by rw [← hR, g3], g4⟩
  obtain ⟨P, L2, r2, g1, g2, g3, g4⟩ := key
  rw [g3] at w4 w3 w2 hn
  simp only [] at w4 w3 w2 hn
  obtain ⟨deg, M2, r3, d1, d2, d3, _⟩ := next_ok (s := (r2, none)) g4 w4
  rw [w3] at hn
  rw [d2] at hn w2 w3
  simp only [] at hn w2 w3
  obtain ⟨M3, r4, f1, f2, f3, _⟩ := must_ok (s := (r3, none)) d3 hn
  refine ⟨P, deg, M3, r4, ?_, g2, w2, ?_, f3, rfl⟩
  · rw [c1, g1, d1, f1]
    simp [rowT]
  · unfold rowP
    rw [c2]
    simp only []
    rw [hR, g3]
    simp only []
    rw [d2]
    simp only []
    rw [w3, f2]
theorem row_yes {r : List UInt8} {P : List PcL} {deg : List UInt8} {L2 : List (List UInt8)} (h : Tk r (rowT P deg ++ L2)) (hP : ∀ o ∈ P, okPc o) (hd : badN deg (-1) = false) : ∃ r', rowP (r, none) = ((P, deg), (r', none)) ∧ Tk r' L2 := by
  have e0 : rowT P deg ++ L2 = pcsT P ++ [62, 61] :: (deg :: [59] :: L2) := by simp [rowT]
  rw [e0] at h
  obtain ⟨x, M, hx⟩ : ∃ x M, pcsT P ++ [62, 61] :: (deg :: [59] :: L2) = x :: M := by
    cases hq : pcsT P ++ [62, 61] :: (deg :: [59] :: L2) with
    | nil => simp at hq
    | cons z M2 => exact ⟨z, M2, rfl⟩
  have hc := tk_count h
  have hpl : P.length ≤ (pcsT P).length := by
    clear h hP e0 hx hc
    induction P with
    | nil => simp
    | cons o P ih => simp [pcsT] at ih ⊢; omega
  rw [hx] at h
  obtain ⟨r1, c2, c3⟩ := tk_next h
  obtain ⟨r2, g1, g2⟩ := rowL_yes P (r.length + 3) x r1 M _ c3 (by simp at hc; omega) hx.symm hP
  obtain ⟨r3, d2, d3⟩ := tk_next g2
  obtain ⟨r4, f2, f3⟩ := must_yes d3
  refine ⟨r4, ?_, f3⟩
  unfold rowP
  simp only []
  rw [c2]
  simp only []
  rw [g1]
  simp only []
  rw [d2]
  simp only []
  rw [whole_yes hd, f2]
end Go.Proofs.YtibbnijicdijnaaGreatDoor
