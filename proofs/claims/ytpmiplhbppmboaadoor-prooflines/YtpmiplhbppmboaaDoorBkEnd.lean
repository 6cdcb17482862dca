/-
  The book: the second list waits; what is held against one another in the end.
-/
import Derived.Test.YtpmiplhbppmboaaDoorBkTwo
namespace Go.Proofs.YtpmiplhbppmboaaDoor
open Go Go.RowKit Go.Lib

/-- The second list was kept. -/
structure Second (w : World) (P : Nat) (t : Tx) (lv : Value) (l : List ByteArray) (w' : World) (t' : Tx) (cv : Value) : Prop where
  book : BkAt w' P false 2 0 t'
  same : t'.out = t.out ∧ t'.told = t.told
  waits : w'.ownsRow w.heap.size 41 1 t'.waits 1 [lv]
  note : w'.ownsRow w.heap.size 41 1 t'.note 1 [cv]
  copy : w'.ownsRow w.heap.size 9 1 cv l.length (l.map .string)
  rest : Off (fun k => k = P) w w'

theorem texts_second (P B : Nat) (t : Tx) (w : World) (lv : Value) (l : List ByteArray) (h : BkAt w P false 1 0 t) (h1 : t.waits = .slice none 0 0 ∧ t.note = .slice none 0 0 ∧ t.mark = .slice none 0 0 ∧ t.due = .slice none 0 0 ∧ t.seen = .int .i64 1) (h2 : t.fresh = .slice none 0 0 ∧ t.from_ = .slice none 0 0) (hB : P < B) (hsz : B ≤ w.heap.size) (hl : w.ownsRow B 9 1 lv l.length (l.map .string)) (hn : l.length ≤ 1000000) :
    Calls Tryd.prog 6 #[.pointer (some ⟨P, 0, none⟩), lv, .int .i64 50] w fun e w' => e = .returned (.tuple #[]) ∧ ∃ t' cv, Second w P t lv l w' t' cv := by
  obtain ⟨la, lc, rfl⟩ := own_form hl
  have hlen : (l.map Value.string).length = l.length := List.length_map _
  have hPl : P < w.heap.size := by omega
  refine texts_any P false 1 t w la l.length lc (l.map .string) 50 1 2 h h1.1 h1.2.1 h1.2.2.1 h1.2.2.2.1 h1.2.2.2.2 (by omega) (fun w' ho => ?_) (by rw [hlen]; exact hn) _ (fun w' t' hb => due_one P false 1 1 t' w' hb (by omega)) ?_
  · rw [hlen]
    have hlb : w'.ownsRow B 9 1 (.slice la l.length lc) l.length (l.map .string) := own_off hl (fun g hg e => by have := hl.lt g hg; omega) ho
    exact own_src hlb (str_one l)
  · intro wn tn cv hN
    have hcp := hN.copy
    rw [hlen] at hcp
    obtain ⟨ca, cc, rfl⟩ := own_form hcp
    refine (book_done P false 1 tn wn hN.book (by omega) (fun w2 => ∃ w1 t2, Off (fun k => k = P) w w1 ∧ w1.ownsRow w.heap.size 9 1 (.slice ca l.length cc) l.length (l.map .string) ∧ Waiting w1 P false 1 0 tn (.slice la l.length lc) (.slice ca l.length cc) 50 2 w2 t2)
      (fun w2 => ∃ w1 t2, Off (fun k => k = P) w w1 ∧ w1.ownsRow w.heap.size 9 1 (.slice ca l.length cc) l.length (l.map .string) ∧ Waiting w1 P false 1 0 tn (.slice la l.length lc) (.slice ca l.length cc) 50 2 w2 t2) ?_ ?_ ?_).mono ?_
    · intro w1 hb1 hg1
      have o1 := grown_P hg1
      have ob : Off (fun k => k = P) w w1 := hN.rest.trans o1
      have low : ∀ {e : Nat} {v : Value} {n : Nat} {xs : List Value}, wn.ownsRow w.heap.size e 1 v n xs → w1.ownsRow w.heap.size e 1 v n xs := fun hh => own_P hh hPl o1
      refine (markTexts_wait P w.heap.size false 1 0 tn w1 la l.length lc ca l.length cc 50 2 hb1 hPl (low hN.waits) (low hN.note) (low hN.mark) (low hN.due) (by omega)).mono ?_
      rintro e w2 ⟨he, t2, hW⟩
      exact ⟨he, ⟨_, _, hW.at_.book⟩, w1, t2, ob, low hcp, hW⟩
    · rintro w2 ⟨w1, t2, ob, hc, hW⟩
      refine ⟨false, t2, hW.at_.book, (growTexts_none P false 1 0 t2 w2 hW.at_.book (hW.same.2.2.1.trans (hN.same.2.2.1.trans h2.1)) (hW.same.2.2.2.1.trans (hN.same.2.2.2.1.trans h2.2))).mono ?_⟩
      rintro e w3 ⟨he, rfl⟩
      exact ⟨he, ⟨_, _, hW.at_.book⟩, w1, t2, ob, hc, hW⟩
    · rintro w3 ⟨w1, t2, _, _, hW⟩
      exact ⟨false, t2, hW.at_.book⟩
    · rintro e w' ⟨he, w3, bad3, t3', ⟨w1, t2, ob, hc, hW⟩, hb3, hb4, hg4⟩
      obtain ⟨rfl, rfl⟩ := hW.at_.book.one hb3
      have o4 := grown_P hg4
      have hle : w.heap.size ≤ w1.heap.size := ob.size
      exact ⟨he, t2, .slice ca l.length cc, hb4, ⟨hW.same.1.trans hN.same.1, hW.same.2.1.trans hN.same.2.1⟩, own_P (own_base hW.waits hle) hPl o4, own_P (own_base hW.note hle) hPl o4, own_P hc hPl (hW.at_.rest.trans o4), ob.trans (hW.at_.rest.trans o4)⟩

/-- Two lists of lists, each two with the same texts. -/
theorem pairs_of {w : World} {B B' : Nat} {u v : Value} {n : Nat} {us vs : List Value} (hu : w.ownsRow B 41 1 u n us) (hv : w.ownsRow B' 41 1 v n vs) (h : ∀ (k : Nat) (x y : Value), us[k]? = some x → vs[k]? = some y → ∃ l, StAt w x l ∧ StAt w y l) : Pairs w u v n := by
  have hul : us.length = n := by have := hu.1; omega
  have hvl : vs.length = n := by have := hv.1; omega
  rcases own_cells hu with ⟨hu0, hn0⟩ | ⟨g, c, hu1, _, hg, hnc, hcu⟩
  · rcases own_cells hv with ⟨hv0, _⟩ | ⟨g', c', hv1, _, _, hnc', _⟩
    · exact ⟨none, 0, none, 0, by rw [hu0, hn0], by rw [hv0, hn0], by omega, by omega, by unfold maxLen; omega, fun k hk => absurd hk (by omega)⟩
    · exact ⟨none, 0, _, c', by rw [hu0, hn0], hv1, by omega, hnc', by unfold maxLen; omega, fun k hk => absurd hk (by omega)⟩
  · have hmax : n ≤ maxLen := by
      rcases hu.2 with ⟨h1, _⟩ | ⟨g1, c1, cur, h1, _, _, h3, h4, _⟩
      · rw [hu1] at h1; cases h1
      · omega
    rcases own_cells hv with ⟨hv0, hn0⟩ | ⟨g', c', hv1, _, hg', hnc', hcv⟩
    · exact ⟨_, c, none, 0, hu1, by rw [hv0, hn0], hnc, by omega, hmax, fun k hk => absurd hk (by omega)⟩
    · refine ⟨_, c, _, c', hu1, hv1, hnc, hnc', hmax, fun k hk => ?_⟩
      obtain ⟨x, hx⟩ : ∃ x, us[k]? = some x := ⟨_, List.getElem?_eq_getElem (by omega)⟩
      obtain ⟨y, hy⟩ : ∃ y, vs[k]? = some y := ⟨_, List.getElem?_eq_getElem (by omega)⟩
      obtain ⟨l, h1, h2⟩ := h k x y hx hy
      exact ⟨g, 0, g', 0, x, y, l, rfl, hg, by rw [Nat.zero_add]; exact hcu k x hx, rfl, hg', by rw [Nat.zero_add]; exact hcv k y hy, h1, h2⟩
/-- In the end all is as it was noted. -/
theorem hold_end {w w0 : World} {P B : Nat} {lv gv tv dv : Value} {l1 l2 : List ByteArray} {t : Tx} (hF : First w0 P B lv w t gv tv dv l1 l2) {w1 w2 : World} {t2 : Tx} {lw cv : Value} {l : List ByteArray} (hb : RowKit.Below w.heap.size w w1) (hl : w1.ownsRow B 9 1 lw l.length (l.map .string)) (hB : P < B) (hS : Second w1 P t lw l w2 t2 cv) :
    Calls Tryd.prog 7 #[.pointer (some ⟨P, 0, none⟩)] w2 fun e w' => e = .returned (.bool true) ∧ RowKit.Below w2.heap.size w2 w' := by
  have up : ∀ {e : Nat} {v : Value} {n : Nat} {xs : List Value}, w.ownsRow B e 1 v n xs → w2.ownsRow B e 1 v n xs := fun hh => own_P (own_next hh hb) hB hS.rest
  have ho := up hF.out
  have hto := up hF.told
  rw [← hS.same.1] at ho
  rw [← hS.same.2] at hto
  refine book_hold P 2 0 t2 w2 hS.book (holdTexts_true P false 2 0 t2 w2 hS.book 2 1 (pairs_of ho hto ?_) (pairs_of hS.waits hS.note ?_))
  · intro k x y hx hy
    match k, hx, hy with
    | 0, hx, hy =>
      simp at hx hy
      subst hx hy
      exact ⟨l1, own_st (up hF.l1a), own_st (up hF.l1b)⟩
    | 1, hx, hy =>
      simp at hx hy
      subst hx hy
      exact ⟨l2, own_st (up hF.l2a), own_st (up hF.l2b)⟩
    | k + 2, hx, hy => simp at hx
  · intro k x y hx hy
    match k, hx, hy with
    | 0, hx, hy =>
      simp at hx hy
      subst hx hy
      exact ⟨l, own_st (own_P hl hB hS.rest), own_st hS.copy⟩
    | k + 1, hx, hy => simp at hx
end Go.Proofs.YtpmiplhbppmboaaDoor
