/-
  The book: two lists of texts are kept: the first is written full and laid on at once, the second waits.
-/
import Derived.Test.YtpmiplhbppmboaaDoorBkGrow
import Derived.Test.YtpmiplhbppmboaaDoorBkFull
namespace Go.Proofs.YtpmiplhbppmboaaDoor
open Go Go.RowKit Go.Lib

set_option maxRecDepth 100000 in
theorem BkAt.one {w : World} {P : Nat} {bad bad' : Bool} {turn turn' deep deep' : Int} {t t' : Tx} (h : BkAt w P bad turn deep t) (h' : BkAt w P bad' turn' deep' t') : bad = bad' ∧ t = t' := by
  have e : bookCs bad turn deep t = bookCs bad' turn' deep' t' := by
    unfold BkAt at h h'
    rw [h] at h'
    injection h' with h'
    injection h'
  have hc : ∀ (i : Nat), (bookCs bad turn deep t)[i]? = (bookCs bad' turn' deep' t')[i]? := fun i => by rw [e]
  obtain ⟨a1, a2, a3, a4, a5, a6, a7, a8, a9⟩ := t
  obtain ⟨b1, b2, b3, b4, b5, b6, b7, b8, b9⟩ := t'
  have c1 : some (Value.bool bad) = some (Value.bool bad') := hc 1
  have d1 : some a1 = some b1 := hc 13
  have d2 : some a2 = some b2 := hc 14
  have d3 : some a3 = some b3 := hc 15
  have d4 : some a4 = some b4 := hc 16
  have d5 : some a5 = some b5 := hc 17
  have d6 : some a6 = some b6 := hc 18
  have d7 : some a7 = some b7 := hc 19
  have d8 : some a8 = some b8 := hc 20
  have d9 : some a9 = some b9 := hc 21
  injection c1 with c1
  injection c1 with c1
  injection d1 with d1
  injection d2 with d2
  injection d3 with d3
  injection d4 with d4
  injection d5 with d5
  injection d6 with d6
  injection d7 with d7
  injection d8 with d8
  injection d9 with d9
  subst c1 d1 d2 d3 d4 d5 d6 d7 d8 d9
  exact ⟨rfl, rfl⟩
theorem own_base {w : World} {B B' e n : Nat} {v : Value} {xs : List Value} (h : w.ownsRow B e 1 v n xs) (hB : B' ≤ B) : w.ownsRow B' e 1 v n xs := by
  refine ⟨h.1, ?_⟩
  rcases h.2 with h2 | ⟨g, cap, cur, hv, hb, h3⟩
  · exact .inl h2
  · exact .inr ⟨g, cap, cur, hv, Nat.le_trans hB hb, h3⟩
theorem DS.here {w : World} {P B : Nat} {turn deep : Int} {t : Tx} {R : List Rw} {w' : World} (h : DS w P B turn deep t R w') : DS w' P B turn deep t R w' := ⟨h.book, Off.refl _ _, h.rows, h.low, h.size⟩
theorem off_P {P B : Nat} {w w' : World} (h : Off (fun k => k = P) w w') : Off (fun k => k = P ∨ B ≤ k) w w' := h.less (fun _ => .inl)
theorem grown_P {P : Nat} {w w' : World} (h : w.grownBy w' (some P)) : Off (fun k => k = P) w w' := Off.grown h (fun k hk => by injection hk with hk; exact hk.symm)
theorem own_P {P B e n : Nat} {w w' : World} {v : Value} {xs : List Value} (h : w.ownsRow B e 1 v n xs) (hP : P < B) (ho : Off (fun k => k = P) w w') : w'.ownsRow B e 1 v n xs := own_off h (fun g hg e => by have := (h.lt g hg).1; omega) ho

/-- The first list was kept. -/
structure First (w : World) (P B : Nat) (lv : Value) (w' : World) (t : Tx) (gv tv dv : Value) (l1 l2 : List ByteArray) : Prop where
  book : BkAt w' P false 1 0 t
  nils : t.waits = .slice none 0 0 ∧ t.note = .slice none 0 0 ∧ t.mark = .slice none 0 0 ∧ t.due = .slice none 0 0 ∧ t.seen = .int .i64 1
  nils' : t.fresh = .slice none 0 0 ∧ t.from_ = .slice none 0 0
  out : w'.ownsRow B 41 1 t.out 2 [lv, gv]
  told : w'.ownsRow B 41 1 t.told 2 [tv, dv]
  l1a : w'.ownsRow B 9 1 lv l1.length (l1.map .string)
  l1b : w'.ownsRow B 9 1 tv l1.length (l1.map .string)
  l2a : w'.ownsRow B 9 1 gv l2.length (l2.map .string)
  l2b : w'.ownsRow B 9 1 dv l2.length (l2.map .string)
  rest : Off (fun k => k = P ∨ B ≤ k) w w'

theorem texts_first (P B : Nat) (w : World) (lv : Value) (l : List ByteArray) (h : BkAt w P false 0 0 tx0) (hP : 2 ≤ P) (hB : P < B) (hsz : B ≤ w.heap.size) (ht : Tab w) (hl : w.ownsRow B 9 1 lv l.length (l.map .string)) (hn : l.length ≤ 1000000) :
    Calls Tryd.prog 6 #[.pointer (some ⟨P, 0, none⟩), lv, .int .i64 0] w fun e w' => e = .returned (.tuple #[]) ∧ ∃ t gv tv dv l1 l2, First w P B lv w' t gv tv dv l1 l2 := by
  obtain ⟨la, lc, rfl⟩ := own_form hl
  have hlen : (l.map Value.string).length = l.length := List.length_map _
  refine texts_any P false 0 tx0 w la l.length lc (l.map .string) 0 0 0 h rfl rfl rfl rfl rfl (by omega) (fun w' ho => ?_) (by rw [hlen]; exact hn) _ (fun w' t' hb => due_zero P false 0 1 t' w' hb) ?_
  · rw [hlen]
    have hlb : w'.ownsRow B 9 1 (.slice la l.length lc) l.length (l.map .string) := own_off hl (fun g hg e => by have := hl.lt g hg; omega) ho
    exact own_src hlb (str_one l)
  · intro wn tn cv hN
    have hcp := hN.copy
    rw [hlen] at hcp
    refine (book_done P false 0 tn wn hN.book (by omega) (fun w2 => ∃ w1 t2 tv l1, Off (fun k => k = P ∨ B ≤ k) w w1 ∧ Marked w1 P B 0 0 tn (.slice la l.length lc) l.length 0 w2 t2 tv l1)
      (fun w3 => ∃ w2 t2 tv l1 t3 gv dv l2, (Off (fun k => k = P ∨ B ≤ k) w w2 ∧ t2.waits = .slice none 0 0 ∧ t2.note = .slice none 0 0 ∧ t2.mark = .slice none 0 0 ∧ t2.due = .slice none 0 0 ∧ t2.seen = .int .i64 1) ∧ Grown w2 P B 0 0 t2 (.slice la l.length lc) tv l1 w3 t3 gv dv l2) ?_ ?_ ?_).mono ?_
    · intro w1 hb1 hg1
      have o1 := grown_P hg1
      have ob : Off (fun k => k = P) w w1 := hN.rest.trans o1
      have low : ∀ {e : Nat} {v : Value} {n : Nat} {xs : List Value}, wn.ownsRow w.heap.size e 1 v n xs → w1.ownsRow B e 1 v n xs := fun hh => own_P (own_base hh hsz) hB o1
      have hl1 : w1.ownsRow B 9 1 (.slice la l.length lc) l.length (l.map .string) := own_P hl hB ob
      refine (markTexts_due P B 0 0 tn w1 _ cv l 0 0 hb1 hP hB (Nat.le_trans hsz ob.size) (ht.off ob (fun k hk => by omega)) (low hN.waits) (low hN.note) (low hN.mark) (low hN.due) (Int.le_refl _) hl1 (low hcp) hn (by omega) hN.same.1 hN.same.2.1 hN.same.2.2.1 hN.same.2.2.2.1).mono ?_
      rintro e w2 ⟨he, t2, tv, l1, hM⟩
      exact ⟨he, ⟨_, _, hM.st.book⟩, w1, t2, tv, l1, off_P ob, hM⟩
    · rintro w2 ⟨w1, t2, tv, l1, ho, hM⟩
      have hst := hM.st.here
      have e1 := hM.len
      have ob : Off (fun k => k = P ∨ B ≤ k) w w2 := ho.trans hM.st.rest
      refine ⟨false, t2, hM.st.book, ?_⟩
      have hn1 : l1.length ≤ 1000000 := by omega
      have key := growTexts_one P B 0 0 t2 w2 (.slice la l.length lc) tv l1 0 (by rw [e1]; exact hst) hP (ht.off ob (fun k hk => by omega)) hM.apart hM.apart' hn1 (by omega)
      refine key.mono ?_
      rintro e w3 ⟨he, t3, gv, dv, l2, hG⟩
      exact ⟨he, ⟨_, _, hG.st.book⟩, w2, t2, tv, l1, t3, gv, dv, l2, ⟨ob, hM.none.1, hM.none.2.1, hM.none.2.2.1, hM.none.2.2.2.1, hM.none.2.2.2.2.trans hN.same.2.2.2.2⟩, hG⟩
    · rintro w3 ⟨w2, t2, tv, l1, t3, gv, dv, l2, _, hG⟩
      exact ⟨false, t3, hG.st.book⟩
    · rintro e w' ⟨he, w3, bad3, t3', ⟨w2, t2, tv, l1, t3, gv, dv, l2, ⟨ob, n1, n2, n3, n4, n5⟩, hG⟩, hb3, hb4, hg4⟩
      obtain ⟨rfl, rfl⟩ := hG.st.book.one hb3
      have o4 := grown_P hg4
      refine ⟨he, t3, gv, tv, dv, l1, l2, hb4, ⟨hG.same.1.trans n1, hG.same.2.1.trans n2, hG.same.2.2.1.trans n3, hG.same.2.2.2.1.trans n4, hG.same.2.2.2.2.trans n5⟩, hG.none, own_P (hG.st.rows ⟨41, t3.out, 2, [.slice la l.length lc, gv]⟩ (by simp)) hB o4, own_P (hG.st.rows ⟨41, t3.told, 2, [tv, dv]⟩ (by simp)) hB o4, own_P (hG.st.rows ⟨9, .slice la l.length lc, l1.length, l1.map .string⟩ (by simp)) hB o4, own_P (hG.st.rows ⟨9, tv, l1.length, l1.map .string⟩ (by simp)) hB o4, own_P (hG.st.rows ⟨9, gv, l2.length, l2.map .string⟩ (by simp)) hB o4, own_P (hG.st.rows ⟨9, dv, l2.length, l2.map .string⟩ (by simp)) hB o4, ob.trans (hG.st.rest.trans (off_P o4))⟩
end Go.Proofs.YtpmiplhbppmboaaDoor
