/-
  Package proof: a text's words, taken and laid.
-/
import Derived.Test.YtibbnijicdijnaaGreatDoorPfParse2
import Derived.Test.YtibbnijicdijnaaGreatDoorJ40
namespace Go.Proofs.YtibbnijicdijnaaGreatDoor
open Go.RowKit

/-- A text's words. -/
def Tk : List UInt8 → List (List UInt8) → Prop
  | r, [] => r.dropWhile blk = []
  | r, x :: L => r.dropWhile blk ≠ [] ∧ (r.dropWhile blk).take (wlen (r.dropWhile blk)) = x ∧ Tk ((r.dropWhile blk).drop (wlen (r.dropWhile blk))) L
/-- A word. -/
def Pw (x : List UInt8) : Prop := x ≠ [] ∧ ∀ c ∈ x, blk c = false
theorem drop_le (r : List UInt8) : (r.dropWhile blk).length ≤ r.length := (List.dropWhile_sublist _).length_le
theorem tk_all : ∀ (n : Nat) (r : List UInt8), r.length ≤ n → ∃ L, Tk r L := by
  intro n
  induction n with
  | zero =>
    intro r hr
    have : r = [] := List.length_eq_zero_iff.1 (by omega)
    subst this
    exact ⟨[], rfl⟩
  | succ n ih =>
    intro r hr
    by_cases h : r.dropWhile blk = []
    · exact ⟨[], h⟩
    · have hp := wlen_pos h
      have hl := wlen_le (r.dropWhile blk)
      have hd := drop_le r
      obtain ⟨L, hL⟩ := ih ((r.dropWhile blk).drop (wlen (r.dropWhile blk))) (by rw [List.length_drop]; omega)
      exact ⟨_ :: L, h, rfl, hL⟩
theorem tk_of (r : List UInt8) : ∃ L, Tk r L := tk_all r.length r (Nat.le_refl _)
theorem takeW (q : List UInt8) : q.take (wlen q) = q.takeWhile fun c => !blk c := by
  unfold wlen
  conv => lhs; arg 2; rw [← List.takeWhile_append_dropWhile (p := fun c => !blk c) (l := q)]
  rw [List.take_left]
theorem dropW (q : List UInt8) : q.drop (wlen q) = q.dropWhile fun c => !blk c := by
  unfold wlen
  conv => lhs; arg 2; rw [← List.takeWhile_append_dropWhile (p := fun c => !blk c) (l := q)]
  rw [List.drop_left]
theorem tk_words : ∀ (L : List (List UInt8)) (r : List UInt8), Tk r L → ∀ x ∈ L, Pw x ∧ ∀ c ∈ x, c ∈ r := by
  intro L
  induction L with
  | nil => intro r _ x hx; exact absurd hx List.not_mem_nil
  | cons y L ih =>
    intro r h x hx
    obtain ⟨h1, h2, h3⟩ := h
    rw [takeW] at h2
    rw [dropW] at h3
    rcases List.mem_cons.1 hx with rfl | hx
    · refine ⟨⟨?_, ?_⟩, ?_⟩
      · intro e
        have := wlen_pos h1
        unfold wlen at this
        rw [h2, e] at this
        exact absurd this (Nat.lt_irrefl _)
      · intro c hc
        rw [← h2] at hc
        have := List.all_eq_true.1 (List.all_takeWhile (l := r.dropWhile blk) (p := fun c => !blk c)) c hc
        simpa using this
      · intro c hc
        rw [← h2] at hc
        exact (List.dropWhile_sublist _).subset ((List.takeWhile_sublist _).subset hc)
    · obtain ⟨h4, h5⟩ := ih _ h3 x hx
      exact ⟨h4, fun c hc => (List.dropWhile_sublist _).subset ((List.dropWhile_sublist _).subset (h5 c hc))⟩
theorem tk_len : ∀ (L : List (List UInt8)) (r : List UInt8), Tk r L → tot L ≤ (r.dropWhile blk).length + 1 ∧ (L = [] ∨ r.dropWhile blk ≠ []) := by
  intro L
  induction L with
  | nil => intro r _; exact ⟨by simp [tot], .inl rfl⟩
  | cons x L ih =>
    intro r h
    obtain ⟨h1, h2, h3⟩ := h
    obtain ⟨h4, h5⟩ := ih _ h3
    refine ⟨?_, .inr h1⟩
    have hx : x.length = wlen (r.dropWhile blk) := by rw [← h2, List.length_take]; have := wlen_le (r.dropWhile blk); omega
    have e : tot (x :: L) = x.length + 1 + tot L := by simp [tot]
    obtain ⟨q, hq⟩ : ∃ q, (r.dropWhile blk) = q := ⟨_, rfl⟩
    rw [hq] at h4 h5 hx ⊢
    have hl := wlen_le q
    rcases h5 with rfl | h5
    · rw [e]; simp [tot]; omega
    · have hd : (q.drop (wlen q)).length = q.length - wlen q := List.length_drop
      have hb : ((q.drop (wlen q)).dropWhile blk).length + 1 ≤ (q.drop (wlen q)).length := by
        rw [dropW] at h5 ⊢
        cases hc : q.dropWhile fun c => !blk c with
        | nil => rw [hc] at h5; exact absurd rfl h5
        | cons c t =>
          have hbc : blk c = true := by
            have := List.head_dropWhile_not (fun c => !blk c) (l := q) (by rw [hc]; simp)
            simp only [hc, List.head_cons] at this
            simpa using this
          rw [List.dropWhile_cons_of_pos hbc]
          have := drop_le t
          simp
          omega
      rw [e]
      omega
/-- A list of words, one blank ahead of each. -/
def spW (L : List (List UInt8)) : List UInt8 := L.flatMap fun x => 32 :: x
theorem words_sp : ∀ (L : List (List UInt8)) (l : List UInt8), l ≠ [] → wordsP L l = l ++ spW L := by
  intro L
  induction L with
  | nil => intro l _; simp [wordsP, spW]
  | cons x L ih =>
    intro l hl
    have h0 : 0 < l.length := List.length_pos_iff.2 hl
    have : wordsP (x :: L) l = wordsP L (l ++ 32 :: x) := by
      show wordsP L (wordP l x) = _
      unfold wordP
      rw [if_pos h0]
    rw [this, ih _ (by simp)]
    simp [spW]
theorem words_first (x : List UInt8) (L : List (List UInt8)) (hx : x ≠ []) : wordsP (x :: L) [] = x ++ spW L := by
  have : wordsP (x :: L) [] = wordsP L x := by
    show wordsP L (wordP [] x) = _
    simp [wordP]
  rw [this, words_sp L x hx]
theorem sp_head (L : List (List UInt8)) : spW L = [] ∨ ∃ t, spW L = 32 :: t := by
  cases L with
  | nil => exact .inl rfl
  | cons x L => exact .inr ⟨x ++ spW L, by simp [spW]⟩
theorem tk_app (x : List UInt8) (L : List (List UInt8)) (hx : Pw x) (t : List UInt8) (ht : t = [] ∨ ∃ u, t = 32 :: u) (h : Tk t L) : Tk (x ++ t) (x :: L) := by
  have hd : (x ++ t).dropWhile blk = x ++ t := by
    cases x with
    | nil => exact absurd rfl hx.1
    | cons c x => rw [List.cons_append, List.dropWhile_cons_of_neg]; rw [hx.2 c List.mem_cons_self]; decide
  have hw : wlen (x ++ t) = x.length := by
    unfold wlen
    rw [List.takeWhile_append_of_pos (fun c hc => by rw [hx.2 c hc]; rfl)]
    rcases ht with rfl | ⟨u, rfl⟩
    · simp
    · rw [List.takeWhile_cons_of_neg (by decide)]
      simp
  refine ⟨?_, ?_, ?_⟩
  · rw [hd]; simp [hx.1]
  · rw [hd, hw, List.take_left]
  · rw [hd, hw, List.drop_left]; exact h
theorem tk_blank (t : List UInt8) (L : List (List UInt8)) (h : Tk t L) : Tk (32 :: t) L := by
  have hd : (32 :: t).dropWhile blk = t.dropWhile blk := List.dropWhile_cons_of_pos (by decide)
  cases L with
  | nil => show _ = _; rw [hd]; exact h
  | cons x L => exact ⟨by rw [hd]; exact h.1, by rw [hd]; exact h.2.1, by rw [hd]; exact h.2.2⟩
theorem tk_sp : ∀ L : List (List UInt8), (∀ x ∈ L, Pw x) → Tk (spW L) L := by
  intro L
  induction L with
  | nil => intro _; rfl
  | cons x L ih =>
    intro h
    have e : spW (x :: L) = 32 :: (x ++ spW L) := by simp [spW]
    rw [e]
    exact tk_blank _ _ (tk_app x L (h x List.mem_cons_self) _ (sp_head L) (ih fun y hy => h y (List.mem_cons_of_mem _ hy)))
theorem tk_line (x : List UInt8) (L : List (List UInt8)) (h : ∀ y ∈ x :: L, Pw y) : Tk (wordsP (x :: L) []) (x :: L) := by
  rw [words_first x L (h x List.mem_cons_self).1]
  exact tk_app x L (h x List.mem_cons_self) _ (sp_head L) (tk_sp L fun y hy => h y (List.mem_cons_of_mem _ hy))

/-- Words taken. -/
theorem tk_take {r x : List UInt8} {L : List (List UInt8)} (h : Tk r (x :: L)) : ∃ r', takeP (r, none) = ((x, true), (r', none)) ∧ Tk r' L := by
  refine ⟨(r.dropWhile blk).drop (wlen (r.dropWhile blk)), ?_, h.2.2⟩
  unfold takeP
  rw [if_neg (by simp [h.1])]
  simp only [h.2.1]
theorem tk_stop {r : List UInt8} (h : Tk r []) : takeP (r, none) = (([], false), (r, none)) := by
  unfold takeP
  rw [if_pos (.inr h)]
theorem take_bad {s : Ls} (h : s.2.isSome = true) : takeP s = (([], false), s) := by
  unfold takeP
  rw [if_pos (.inl h)]
theorem fail_bad {e : Int} {s : Ls} (h : s.2.isSome = true) : failP e s = s := by
  unfold failP
  split
  · rename_i h0; rw [h0] at h; cases h
  · rfl
theorem next_bad {s : Ls} (h : s.2.isSome = true) : nextP s = ([], s) := by
  unfold nextP
  rw [take_bad h]
  simp [fail_bad h]
theorem tk_next {r x : List UInt8} {L : List (List UInt8)} (h : Tk r (x :: L)) : ∃ r', nextP (r, none) = (x, (r', none)) ∧ Tk r' L := by
  obtain ⟨r', h1, h2⟩ := tk_take h
  refine ⟨r', ?_, h2⟩
  unfold nextP
  rw [h1]
  simp
theorem next_end {r : List UInt8} (h : Tk r []) : (nextP (r, none)).2.2.isSome = true := by
  unfold nextP
  rw [tk_stop h]
  simp [failP]
theorem none_some {α : Type} {o : Option α} (h : o = none) (h' : o.isSome = true) : False := by rw [h] at h'; cases h'
theorem next_ok {s : Ls} {L : List (List UInt8)} (h : Tk s.1 L) (hn : (nextP s).2.2 = none) : ∃ x M r', L = x :: M ∧ nextP s = (x, (r', none)) ∧ Tk r' M ∧ s.2 = none := by
  obtain ⟨r, o⟩ := s
  cases o with
  | some e => rw [next_bad rfl] at hn; cases hn
  | none =>
    cases L with
    | nil => exact (none_some hn (next_end h)).elim
    | cons x M =>
      obtain ⟨r', h1, h2⟩ := tk_next h
      exact ⟨x, M, r', rfl, h1, h2, rfl⟩
theorem whole_ok {x : List UInt8} {g : Int} {s : Ls} (h : (wholeP x g s).2 = none) : badN x g = false ∧ wholeP x g s = s ∧ s.2 = none := by
  unfold wholeP at h ⊢
  cases hb : badN x g with
  | true => rw [hb, if_pos rfl] at h; exact (none_some h (fail_some _ _)).elim
  | false => rw [hb] at h; exact ⟨rfl, by simp, by simpa using h⟩
theorem whole_yes {x : List UInt8} {g : Int} {s : Ls} (h : badN x g = false) : wholeP x g s = s := by
  unfold wholeP
  rw [h]
  simp
theorem literal_ok {x : List UInt8} {s : Ls} (h : (literalP x s).2 = none) : (litP x).2 = true ∧ literalP x s = s ∧ s.2 = none := by
  unfold literalP at h ⊢
  cases hb : (litP x).2 with
  | false => rw [hb] at h; exact (none_some (by simpa using h) (fail_some 81 s)).elim
  | true => rw [hb] at h; exact ⟨rfl, by simp, by simpa using h⟩
theorem literal_yes {x : List UInt8} {s : Ls} (h : (litP x).2 = true) : literalP x s = s := by
  unfold literalP
  rw [h]
  simp
theorem must_ok {x : List UInt8} {s : Ls} {L : List (List UInt8)} (h : Tk s.1 L) (hn : (mustP x s).2 = none) : ∃ M r', L = x :: M ∧ mustP x s = (r', none) ∧ Tk r' M ∧ s.2 = none := by
  have hn0 := hn
  unfold mustP at hn
  split at hn
  · rename_i he
    obtain ⟨y, M, r', h1, h2, h3, h4⟩ := next_ok h hn
    refine ⟨M, r', ?_, ?_, h3, h4⟩
    · rw [h1]; rw [h2] at he; simp at he; rw [he]
    · unfold mustP; rw [if_pos he, h2]
  · exact (none_some hn (fail_some _ _)).elim
theorem must_yes {x r : List UInt8} {L : List (List UInt8)} (h : Tk r (x :: L)) : ∃ r', mustP x (r, none) = (r', none) ∧ Tk r' L := by
  obtain ⟨r', h1, h2⟩ := tk_next h
  exact ⟨r', by unfold mustP; rw [h1]; simp, h2⟩
theorem end_ok {s : Ls} {L : List (List UInt8)} (h : Tk s.1 L) (hn : (endP s).2 = none) : L = [] ∧ s.2 = none := by
  obtain ⟨r, o⟩ := s
  cases o with
  | some e => unfold endP at hn; rw [take_bad rfl] at hn; cases hn
  | none =>
    cases L with
    | nil => exact ⟨rfl, rfl⟩
    | cons x M =>
      obtain ⟨r', h1, _⟩ := tk_take h
      unfold endP at hn
      rw [h1] at hn
      simp [failP] at hn
theorem end_yes {r : List UInt8} (h : Tk r []) : endP (r, none) = (r, none) := by
  unfold endP
  rw [tk_stop h]
  simp

/-- Lists of words. -/
theorem lst_bad {rd : List UInt8 → Ls → Ls} {n : Nat} {s : Ls} (h : s.2.isSome = true) : lstP rd n s = ([], s) := by
  cases n with
  | zero => rfl
  | succ n => rw [lst_stop (x := []) (by rw [take_bad h]), take_bad h]
theorem lst_ok {rd : List UInt8 → Ls → Ls} {ok : List UInt8 → Prop} (hrd : ∀ x s, (rd x s).2 = none → ok x ∧ rd x s = s) : ∀ (L : List (List UInt8)) (n : Nat) (r : List UInt8), Tk r L → L.length < n → (lstP rd n (r, none)).2.2 = none → (∀ x ∈ L, ok x) ∧ ∃ r', lstP rd n (r, none) = (L, (r', none)) ∧ Tk r' [] := by
  intro L
  induction L with
  | nil =>
    intro n r h hn h0
    obtain ⟨n, rfl⟩ : ∃ m, n = m + 1 := ⟨n - 1, by simp at hn; omega⟩
    refine ⟨fun x hx => absurd hx List.not_mem_nil, r, ?_, h⟩
    rw [lst_stop (x := []) (by rw [tk_stop h]), tk_stop h]
  | cons x L ih =>
    intro n r h hn h0
    obtain ⟨n, rfl⟩ : ∃ m, n = m + 1 := ⟨n - 1, by simp at hn; omega⟩
    obtain ⟨r', h1, h2⟩ := tk_take h
    have e : lstP rd (n + 1) (r, none) = (x :: (lstP rd n (rd x (r', none))).1, (lstP rd n (rd x (r', none))).2) := by rw [lst_more (x := x) (by rw [h1]), h1]
    rw [e] at h0
    have hb : (rd x (r', none)).2 = none := by
      cases hs : (rd x (r', none)).2 with
      | none => rfl
      | some z => rw [lst_bad (by rw [hs]; rfl)] at h0; simp only [] at h0; rw [hs] at h0; cases h0
    obtain ⟨k1, k2⟩ := hrd x _ hb
    rw [k2] at h0 e
    obtain ⟨a1, r2, a2, a3⟩ := ih n r' h2 (by simp at hn; omega) h0
    refine ⟨fun y hy => ?_, r2, by rw [e, a2], a3⟩
    rcases List.mem_cons.1 hy with rfl | hy
    · exact k1
    · exact a1 y hy
theorem lst_yes {rd : List UInt8 → Ls → Ls} {ok : List UInt8 → Prop} (hrd : ∀ x s, ok x → rd x s = s) : ∀ (L : List (List UInt8)) (n : Nat) (r : List UInt8), Tk r L → L.length < n → (∀ x ∈ L, ok x) → ∃ r', lstP rd n (r, none) = (L, (r', none)) ∧ Tk r' [] := by
  intro L
  induction L with
  | nil =>
    intro n r h hn h0
    obtain ⟨n, rfl⟩ : ∃ m, n = m + 1 := ⟨n - 1, by simp at hn; omega⟩
    refine ⟨r, ?_, h⟩
    rw [lst_stop (x := []) (by rw [tk_stop h]), tk_stop h]
  | cons x L ih =>
    intro n r h hn h0
    obtain ⟨n, rfl⟩ : ∃ m, n = m + 1 := ⟨n - 1, by simp at hn; omega⟩
    obtain ⟨r', h1, h2⟩ := tk_take h
    have e : lstP rd (n + 1) (r, none) = (x :: (lstP rd n (rd x (r', none))).1, (lstP rd n (rd x (r', none))).2) := by rw [lst_more (x := x) (by rw [h1]), h1]
    rw [hrd x _ (h0 x List.mem_cons_self)] at e
    obtain ⟨r2, a2, a3⟩ := ih n r' h2 (by simp at hn; omega) fun y hy => h0 y (List.mem_cons_of_mem _ hy)
    exact ⟨r2, by rw [e, a2], a3⟩
theorem tk_count {r : List UInt8} {L : List (List UInt8)} (h : Tk r L) : L.length ≤ r.length := by
  have h1 := tk_len L r h
  have h2 := tk_words L r h
  have h3 : ∀ M : List (List UInt8), (∀ x ∈ M, Pw x) → M.length * 2 ≤ tot M := by
    intro M
    induction M with
    | nil => intro _; simp
    | cons x M ih =>
      intro hM
      have h5 := List.length_pos_iff.2 (hM x List.mem_cons_self).1
      have h4 := ih fun y hy => hM y (List.mem_cons_of_mem _ hy)
      have e : tot (x :: M) = x.length + 1 + tot M := by simp [tot]
      rw [e, List.length_cons]
      omega
  have h4 := h3 L fun x hx => (h2 x hx).1
  have h5 := drop_le r
  rcases h1.2 with rfl | h6
  · simp
  · have := List.length_pos_iff.2 h6
    omega
theorem list_ok {rd : List UInt8 → Ls → Ls} {ok : List UInt8 → Prop} (hrd : ∀ x s, (rd x s).2 = none → ok x ∧ rd x s = s) {s : Ls} {L : List (List UInt8)} (h : Tk s.1 L) (hn : (listP rd s).2.2 = none) : (∀ x ∈ L, ok x) ∧ (∃ r', listP rd s = (L, (r', none)) ∧ Tk r' []) ∧ s.2 = none := by
  obtain ⟨r, o⟩ := s
  unfold listP at hn ⊢
  cases o with
  | some e => rw [lst_bad rfl] at hn; cases hn
  | none =>
    have := lst_ok hrd L _ r h (by have := tk_count h; simp at this ⊢; omega) hn
    exact ⟨this.1, this.2, rfl⟩
theorem list_yes {rd : List UInt8 → Ls → Ls} {ok : List UInt8 → Prop} (hrd : ∀ x s, ok x → rd x s = s) {r : List UInt8} {L : List (List UInt8)} (h : Tk r L) (ho : ∀ x ∈ L, ok x) : ∃ r', listP rd (r, none) = (L, (r', none)) ∧ Tk r' [] := by
  unfold listP
  exact lst_yes hrd L _ r h (by have := tk_count h; simp at this ⊢; omega) ho
end Go.Proofs.YtibbnijicdijnaaGreatDoor
