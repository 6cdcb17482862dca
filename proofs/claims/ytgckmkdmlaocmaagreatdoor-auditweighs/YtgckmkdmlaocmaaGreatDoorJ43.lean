/-
  Put together: RmC, RmD, RmE.
-/
import Derived.Test.YtgckmkdmlaocmaaGreatDoorJ42
import Derived.Test.YtgckmkdmlaocmaaGreatDoorJ41
namespace Go.Proofs.YtgckmkdmlaocmaaGreatDoor
open Go.RowKit

def po (x : List UInt8) (A : List OpL) : List OpL × Option Int := ((opP x A ([], none)).1, (opP x A ([], none)).2.2)
def foldE : List (List UInt8) → List OpL → List OpL × Option Int
  | [], A => (A, none)
  | x :: L, A => match (po x A).2 with
    | none => foldE L (po x A).1
    | some e => ((po x A).1, some e)
theorem foldE_ok {x : List UInt8} {L : List (List UInt8)} {A B : List OpL} (h : po x A = (B, none)) : foldE (x :: L) A = foldE L B := by
  show (match (po x A).2 with | none => foldE L (po x A).1 | some e => ((po x A).1, some e)) = _
  rw [h]
theorem foldE_no {x : List UInt8} {L : List (List UInt8)} {A : List OpL} {e : Int} (h : (po x A).2 = some e) : (foldE (x :: L) A).2 = some e := by
  show (match (po x A).2 with | none => foldE L (po x A).1 | some e => ((po x A).1, some e)).2 = _
  rw [h]
theorem po_at (x : List UInt8) (A : List OpL) (r : List UInt8) : opP x A (r, none) = ((po x A).1, (r, (po x A).2)) := op_at x A r
theorem lops_fold : ∀ (L : List (List UInt8)) (n : Nat) (A : List OpL) (r : List UInt8), Tk r L → L.length < n → (lopsP n A (r, none)).2.2 = (foldE L A).2 ∧ ((foldE L A).2 = none → (lopsP n A (r, none)).1 = (foldE L A).1 ∧ Tk (lopsP n A (r, none)).2.1 []) := by
  intro L
  induction L with
  | nil =>
    intro n A r h hn
    obtain ⟨n, rfl⟩ : ∃ q, n = q + 1 := ⟨n - 1, by omega⟩
    unfold lopsP
    rw [tk_stop h, if_neg (by simp)]
    exact ⟨rfl, fun _ => ⟨rfl, h⟩⟩
  | cons x L ih =>
    intro n A r h hn
    obtain ⟨n, rfl⟩ : ∃ q, n = q + 1 := ⟨n - 1, by omega⟩
    obtain ⟨r', h1, h2⟩ := tk_take h
    unfold lopsP
    rw [h1, if_pos rfl]
    simp only
    rw [po_at]
    obtain ⟨⟨B, o⟩, hB⟩ : ∃ q, po x A = q := ⟨_, rfl⟩
    cases o with
    | none =>
      rw [foldE_ok hB, hB]
      exact ih n B r' h2 (by simp at hn; omega)
    | some e =>
      have e1 := foldE_no (L := L) (e := e) (by rw [hB])
      rw [e1, hB]
      simp only
      rw [lops_bad n B (r', some e) rfl]
      exact ⟨rfl, fun e => by cases e⟩
theorem lit_out {x : List UInt8} (h : (litP x).2 = true) : x ≠ [43] ∧ x ≠ [115] ∧ x ≠ [42] ∧ x ≠ [100] ∧ x ≠ [119] := by
  refine ⟨?_, ?_, ?_, ?_, ?_⟩ <;> (intro e; rw [e] at h; revert h; decide)
theorem num_out {x : List UInt8} (h : (parseZ x).isSome = true) : x ≠ [43] ∧ x ≠ [115] ∧ x ≠ [42] ∧ x ≠ [100] ∧ x ≠ [119] := by
  refine ⟨?_, ?_, ?_, ?_, ?_⟩ <;> (intro e; rw [e] at h; revert h; decide)
theorem po_plus (A : List OpL) : po [43] A = (A ++ [(3, [], 0)], none) := rfl
theorem po_sat (A : List OpL) : po [115] A = (A ++ [(6, [], 0)], none) := rfl
theorem po_mul (A : List OpL) : po [42] A = ((turnP 1 4 A ([], none)).1, (turnP 1 4 A ([], none)).2.2) := rfl
theorem po_div (A : List OpL) : po [100] A = ((turnP 1 5 A ([], none)).1, (turnP 1 5 A ([], none)).2.2) := rfl
theorem po_weak (A : List OpL) : po [119] A = ((turnP 2 7 A ([], none)).1, (turnP 2 7 A ([], none)).2.2) := rfl
theorem po_else {x : List UInt8} (A : List OpL) (h : x ≠ [43] ∧ x ≠ [115] ∧ x ≠ [42] ∧ x ≠ [100] ∧ x ≠ [119]) : po x A = (A ++ [(operP x ([], none)).1], (operP x ([], none)).2.2) := by
  unfold po opP
  rw [if_neg h.1, if_neg h.2.1, if_neg h.2.2.1, if_neg h.2.2.2.1, if_neg h.2.2.2.2]
theorem po_lit {x : List UInt8} (A : List OpL) (h : (litP x).2 = true) : po x A = (A ++ [(2, [], litR x)], none) := by
  rw [po_else A (lit_out h)]
  unfold operP
  rw [if_pos h]
  rfl
theorem po_num {x : List UInt8} (A : List OpL) (h : (parseZ x).isSome = true) (hl : (litP x).2 = false) (hs : ¬ ((parseZ x).getD 0).sign < 1) : po x A = (A ++ [(1, x, 0)], none) := by
  rw [po_else A (num_out h)]
  unfold operP operS wholeP badN
  have hn : (parseZ x).isNone = false := by cases hp : parseZ x with | none => rw [hp] at h; cases h | some _ => rfl
  rw [hl, hn]
  simp [hs]
theorem po_low {x : List UInt8} (A : List OpL) (h : (parseZ x).isSome = true) (hl : (litP x).2 = false) (hs : ((parseZ x).getD 0).sign < 1) : (po x A).2 = some 81 := by
  rw [po_else A (num_out h)]
  unfold operP operS wholeP badN
  have hn : (parseZ x).isNone = false := by cases hp : parseZ x with | none => rw [hp] at h; cases h | some _ => rfl
  rw [hl, hn]
  simp [hs, failP]
theorem po_bad {x : List UInt8} (A : List OpL) (h : (parseZ x).isSome = false) (hl : (litP x).2 = false) (ho : x ≠ [43] ∧ x ≠ [115] ∧ x ≠ [42] ∧ x ≠ [100] ∧ x ≠ [119]) : (po x A).2 = some 80 := by
  rw [po_else A ho]
  unfold operP operS wholeP badN
  have hn : (parseZ x).isNone = true := by cases hp : parseZ x with | none => rfl | some _ => rw [hp] at h; cases h
  rw [hl, hn]
  simp [failP]
theorem turn_last (fr tk : Int) (A : List OpL) (o : OpL) : turnP fr tk (A ++ [o]) ([], none) = if o.1 = fr ∧ ¬ o.2.2 < 0 then (A ++ [(tk, o.2)], ([], none)) else ([], ([], some 80)) := by
  unfold turnP
  rw [List.reverse_append]
  simp only [List.reverse_cons, List.reverse_nil, List.nil_append, List.singleton_append, List.reverse_reverse]
  rfl
/-- The next word takes nothing back. -/
def Inv (A : List OpL) (L : List (List UInt8)) : Prop := ∀ x, L.head? = some x → (x = [42] ∨ x = [100] ∨ x = [119]) → (po x A).2 = some 80
theorem inv_last {A : List OpL} {o : OpL} {L : List (List UInt8)} (h1 : o.1 = 1 → L.head? ≠ some [42] ∧ L.head? ≠ some [100]) (h2 : o.1 = 2 → ¬ o.2.2 < 0 → L.head? ≠ some [119]) : Inv (A ++ [o]) L := by
  intro x hx hw
  rcases hw with rfl | rfl | rfl
  · rw [po_mul, turn_last, if_neg (fun e => (h1 e.1).1 hx)]
  · rw [po_div, turn_last, if_neg (fun e => (h1 e.1).2 hx)]
  · rw [po_weak, turn_last, if_neg (fun e => h2 e.1 e.2 hx)]
theorem inv_nil (L : List (List UInt8)) : Inv [] L := by
  intro x _ hw
  rcases hw with rfl | rfl | rfl <;> rfl
theorem is_head (y : List UInt8) (L : List (List UInt8)) : isR y (L, 0) = true ↔ ∃ M, L = y :: M := by
  unfold isR
  cases L with
  | nil => simp
  | cons z M => simp
theorem one_head (y : List UInt8) (M : List (List UInt8)) : oneR y (y :: M, 0) = (M, 0) := by unfold oneR; rw [takeR_cons, if_neg (fun e => e.2 rfl)]
theorem lops_bad2 {m : Nat} {A : List OpL} {t : RS} (h : t.2 ≠ 0) : lopsR m A t = (A, t) := by
  cases m with
  | zero => rfl
  | succ m => unfold lopsR; rw [if_neg (by rw [more_bad h]; simp)]
def Agr (q : List OpL × RS) (p : List OpL × Option Int) : Prop := (q.2.2 = 0 ∧ q.2.1 = [] ∧ p = (q.1, none)) ∨ (q.2.2 ≠ 0 ∧ p.2 = some q.2.2)
theorem sim_lops : ∀ (k : Nat) (L : List (List UInt8)) (m : Nat) (A : List OpL), L.length ≤ k → L.length < m → Inv A L → Agr (lopsR m A (L, 0)) (foldE L A) := by
  intro k
  induction k with
  | zero =>
    intro L m A hk hm _
    have : L = [] := List.length_eq_zero_iff.1 (by omega)
    subst this
    obtain ⟨m, rfl⟩ : ∃ q, m = q + 1 := ⟨m - 1, by omega⟩
    unfold lopsR
    rw [if_neg (by rw [more_nil]; simp)]
    exact .inl ⟨rfl, rfl, rfl⟩
  | succ k ih =>
    intro L m A hk hm hI
    cases L with
    | nil => exact ih [] m A (by simp) hm hI
    | cons x L =>
      obtain ⟨m, rfl⟩ : ∃ q, m = q + 1 := ⟨m - 1, by omega⟩
      have hkL : L.length ≤ k := by simp at hk; omega
      have hmL : L.length < m := by simp at hm; omega
      unfold lopsR
      rw [if_pos (more_cons x L)]
      unfold opR
      rw [takeR_cons]
      simp only
      by_cases c1 : x = [43]
      · subst c1
        rw [if_pos rfl, foldE_ok (po_plus A)]
        exact ih L m _ hkL hmL (inv_last (fun e => by cases e) (fun e => by cases e))
      rw [if_neg c1]
      by_cases c2 : x = [115]
      · subst c2
        rw [if_pos rfl, foldE_ok (po_sat A)]
        exact ih L m _ hkL hmL (inv_last (fun e => by cases e) (fun e => by cases e))
      rw [if_neg c2]
      by_cases c3 : 0 < litR x ∧ isR [119] (L, 0) = true
      · rw [if_pos c3]
        obtain ⟨M, rfl⟩ := (is_head _ _).1 c3.2
        have hl : (litP x).2 = true := by cases hp : (litP x).2 with | true => rfl | false => have := (litR_zero x).2 hp; omega
        have hl0 : ¬ litR x < 0 := by omega
        rw [foldE_ok (po_lit A hl), one_head]
        have e1 : po [119] (A ++ [(2, [], litR x)]) = (A ++ [(7, [], litR x)], none) := by rw [po_weak, turn_last, if_pos ⟨rfl, hl0⟩]
        rw [foldE_ok e1]
        exact ih M m _ (by simp at hkL; omega) (by simp at hmL; omega) (inv_last (fun e => by cases e) (fun e => by cases e))
      rw [if_neg c3]
      by_cases c4 : litR x = 0
      · rw [if_neg (fun e => e c4)]
        have hl := (litR_zero x).1 c4
        cases hp : (parseZ x).isSome with
        | false =>
          rw [if_neg (fun e => by cases e.1), if_neg (fun e => by cases e.1), if_neg (fun e => by cases e.1), if_neg (fun e => by cases e)]
          have e1 : failR 80 (L, 0) = (L, 80) := rfl
          rw [e1, lops_bad2 (show (80 : Int) ≠ 0 by decide)]
          refine .inr ⟨show (80 : Int) ≠ 0 by decide, foldE_no ?_⟩
          by_cases d1 : x = [42] ∨ x = [100] ∨ x = [119]
          · exact hI x rfl d1
          · exact po_bad A hp hl ⟨c1, c2, fun e => d1 (.inl e), fun e => d1 (.inr (.inl e)), fun e => d1 (.inr (.inr e))⟩
        | true =>
          by_cases c5 : ((parseZ x).getD 0).sign < 1
          · rw [if_pos ⟨rfl, c5⟩]
            have e1 : failR 81 (L, 0) = (L, 81) := rfl
            rw [e1, lops_bad2 (show (81 : Int) ≠ 0 by decide)]
            exact .inr ⟨show (81 : Int) ≠ 0 by decide, foldE_no (po_low A hp hl c5)⟩
          · rw [if_neg (fun e => c5 e.2), foldE_ok (po_num A hp hl c5)]
            by_cases c6 : isR [42] (L, 0) = true
            · rw [if_pos ⟨rfl, c6⟩]
              obtain ⟨M, rfl⟩ := (is_head _ _).1 c6
              have e1 : po [42] (A ++ [(1, x, 0)]) = (A ++ [(4, x, 0)], none) := by rw [po_mul, turn_last, if_pos ⟨rfl, show ¬ (0 : Int) < 0 by decide⟩]
              rw [one_head, foldE_ok e1]
              exact ih M m _ (by simp at hkL; omega) (by simp at hmL; omega) (inv_last (fun e => by cases e) (fun e => by cases e))
            rw [if_neg (fun e => c6 e.2)]
            by_cases c7 : isR [100] (L, 0) = true
            · rw [if_pos ⟨rfl, c7⟩]
              obtain ⟨M, rfl⟩ := (is_head _ _).1 c7
              have e1 : po [100] (A ++ [(1, x, 0)]) = (A ++ [(5, x, 0)], none) := by rw [po_div, turn_last, if_pos ⟨rfl, show ¬ (0 : Int) < 0 by decide⟩]
              rw [one_head, foldE_ok e1]
              exact ih M m _ (by simp at hkL; omega) (by simp at hmL; omega) (inv_last (fun e => by cases e) (fun e => by cases e))
            rw [if_neg (fun e => c7 e.2), if_pos rfl]
            refine ih L m _ hkL hmL (inv_last (fun _ => ⟨fun e => c6 ?_, fun e => c7 ?_⟩) (fun e => by cases e))
            · cases L with
              | nil => cases e
              | cons z M => exact (is_head _ _).2 ⟨M, by simpa using e⟩
            · cases L with
              | nil => cases e
              | cons z M => exact (is_head _ _).2 ⟨M, by simpa using e⟩
      · rw [if_pos c4]
        have hl : (litP x).2 = true := by cases hp : (litP x).2 with | true => rfl | false => exact absurd ((litR_zero x).2 hp) c4
        rw [foldE_ok (po_lit A hl)]
        refine ih L m _ hkL hmL (inv_last (fun e => by cases e) (fun _ h0 e => c3 ⟨?_, ?_⟩))
        · have h1 : ¬ litR x < 0 := h0
          omega
        · cases L with
          | nil => cases e
          | cons z M => exact (is_head _ _).2 ⟨M, by simpa using e⟩
theorem sim_ops {s : Ls} {t : RS} (h : Sim s t) : Sim (opsP s).2 (opsR t).2 ∧ ((opsR t).2.2 = 0 → (opsR t).1 = (opsP s).1) := by
  rcases h with ⟨h1, h2, h3⟩ | ⟨e, he, h1, h2⟩
  · obtain ⟨r, o⟩ := s
    obtain ⟨L, f⟩ := t
    have e1 : o = none := h1
    have e2 : f = 0 := h2
    subst e1 e2
    cases L with
    | nil =>
      have hb : (nextP (r, none)).2.2.isSome = true := next_end h3
      have hS := (sim_next (s := (r, none)) (t := ([], 0)) (.inl ⟨rfl, rfl, h3⟩)).2
      have e3 : opsR (([] : List (List UInt8)), (0 : Int)) = ([], ([], 82)) := rfl
      rw [e3]
      unfold opsP
      rw [lops_bad _ _ _ (by rw [op_bad hb]; exact hb), op_bad hb]
      exact ⟨hS, fun e => by cases e⟩
    | cons x L =>
      obtain ⟨r', h4, h5⟩ := tk_next h3
      have hc : (x :: L).length ≤ r.length := tk_count h3
      have hA := sim_lops (x :: L).length (x :: L) ((x :: L).length + 1) [] (Nat.le_refl _) (by omega) (inv_nil _)
      unfold opsP opsR
      rw [if_pos (more_cons x L), h4]
      simp only
      rw [po_at]
      obtain ⟨⟨B, o⟩, hB⟩ : ∃ q, po x [] = q := ⟨_, rfl⟩
      obtain ⟨q, hq⟩ : ∃ q, lopsR ((x :: L).length + 1) [] (x :: L, 0) = q := ⟨_, rfl⟩
      rw [hq] at hA ⊢
      cases o with
      | none =>
        have hF := lops_fold L (r.length + 1) B r' h5 (by simp at hc; omega)
        rw [foldE_ok hB] at hA
        rw [hB]
        simp only
        rcases hA with ⟨a1, a2, a3⟩ | ⟨a1, a2⟩
        · rw [a3] at hF
          obtain ⟨b1, b2⟩ := hF
          obtain ⟨b3, b4⟩ := b2 rfl
          exact ⟨.inl ⟨b1, a1, by rw [a2]; exact b4⟩, fun _ => b3.symm⟩
        · rw [a2] at hF
          exact ⟨.bad a1 hF.1 rfl, fun e => absurd e a1⟩
      | some e =>
        have e3 := foldE_no (L := L) (e := e) (by rw [hB])
        rw [hB]
        simp only
        rw [lops_bad _ B (r', some e) rfl]
        rcases hA with ⟨a1, a2, a3⟩ | ⟨a1, a2⟩
        · rw [a3] at e3; cases e3
        · rw [e3] at a2
          exact ⟨.bad a1 (by injection a2 with a2; rw [← a2]) rfl, fun e => absurd e a1⟩
  · have ht : t.2 ≠ 0 := by rw [h2]; exact he
    unfold opsR
    rw [if_neg (by rw [more_bad ht]; simp), failR_bad ht, lops_bad2 ht, opsP_bad (by rw [h1]; rfl)]
    exact ⟨.bad he h1 h2, fun e => absurd e ht⟩
end Go.Proofs.YtgckmkdmlaocmaaGreatDoor

namespace Go.Proofs.YtgckmkdmlaocmaaGreatDoor
open Go.RowKit

theorem sim_lean {s : Ls} {t : RS} (h : Sim s t) : Sim (leanP (nextP s).1 (nextP s).2).2 (numR 1 (oneR [58] t)).2 ∧ ((numR 1 (oneR [58] t)).2.2 = 0 → (numR 1 (oneR [58] t)).1 = (leanP (nextP s).1 (nextP s).2).1) := by
  have h1 := sim_must h (x := [58]) (by simp)
  have h2 := sim_num h1 1
  exact h2
theorem sim_unsat {s : Ls} {t : RS} (h : Sim s t) (ht : t.2 = 0) : Sim (unsatP s).2 (unsR t).2 ∧ ((unsR t).2.2 = 0 → (unsR t).1 = { (unsatP s).1 with k := 9, ends := 2 }) := by
  obtain ⟨h1, h3⟩ := h.isOk ht
  obtain ⟨r, o⟩ := s
  obtain ⟨L, f⟩ := t
  have e1 : o = none := h1
  have e2 : f = 0 := ht
  subst e1 e2
  cases L with
  | nil =>
    have eU : unsR (([] : List (List UInt8)), (0 : Int)) = ({ d9 with ends := 2 }, ([], 0)) := by unfold unsR; rw [if_neg (by rw [more_nil]; simp)]
    have eP : unsatP (r, none) = (SL.zero, (r, none)) := by unfold unsatP; rw [tk_stop h3, if_neg (by simp)]
    rw [eU, eP]
    exact ⟨.inl ⟨rfl, rfl, h3⟩, fun _ => rfl⟩
  | cons y L =>
    obtain ⟨r', h4, h5⟩ := tk_take h3
    have e3 : nextP (r, none) = (y, (r', none)) := by unfold nextP; rw [h4]; rfl
    have hL := sim_lean h
    rw [e3] at hL
    unfold unsR unsatP
    rw [if_pos (more_cons y L), h4, if_pos rfl]
    exact ⟨hL.1, fun e => by simp only at e ⊢; rw [hL.2 e]; rfl⟩
theorem sim_bounds {s : Ls} {t : RS} (h : Sim s t) : Sim (boundsP s).2 (bndR t).2 ∧ ((bndR t).2.2 = 0 → (bndR t).1 = { (boundsP s).1 with k := 9, ends := 5 }) := by
  have hN := sim_num h (-1)
  have hA : Sim (bdA s) (numR (-1) t).2 := hN.1
  have hX := sim_next hA
  have hlean := sim_lean hA
  unfold bndR boundsP
  by_cases hi : isR [58] (numR (-1) t).2 = true
  · have ht : (numR (-1) t).2.2 = 0 := by unfold isR at hi; simp at hi; exact hi.1
    have hb : bdX s = [58] := by
      unfold bdX
      rw [hX.1]
      obtain ⟨q, hq⟩ : ∃ q, (numR (-1) t).2 = q := ⟨_, rfl⟩
      rw [hq] at hi ht ⊢
      obtain ⟨L, f⟩ := q
      have e2 : f = 0 := ht
      subst e2
      obtain ⟨M, rfl⟩ := (is_head _ _).1 hi
      rfl
    rw [if_pos hi, if_pos hb]
    have hF := sim_num hlean.1 (-1)
    refine ⟨hF.1, fun e => ?_⟩
    simp only at e ⊢
    have e3 := (numR_len (-1) _).2 e
    rw [hF.2 e, hlean.2 e3.1, hN.2 ht]
    rfl
  · have hi' : isR [58] (numR (-1) t).2 = false := by simpa using hi
    have hb : ¬ bdX s = [58] := by
      intro hb
      apply hi
      unfold bdX at hb
      rw [hX.1] at hb
      rcases take_flag (numR (-1) t).2 with ⟨f1, f2⟩ | ⟨_, _, f3⟩
      · obtain ⟨q, hq⟩ : ∃ q, (numR (-1) t).2 = q := ⟨_, rfl⟩
        rw [hq] at hb f1 f2 ⊢
        obtain ⟨L, f⟩ := q
        have hf := (takeR_len1 (L, f)).2 f2
        have e2 : f = 0 := hf.1
        subst e2
        cases L with
        | nil => cases f1
        | cons z M => exact (is_head _ _).2 ⟨M, by rw [show z = [58] from hb]⟩
      · rw [f3] at hb; cases hb
    rw [if_neg hi, if_neg hb]
    have hF := sim_num hA (-1)
    refine ⟨hF.1, fun e => ?_⟩
    simp only at e ⊢
    have e3 := (numR_len (-1) _).2 e
    rw [hF.2 e, hN.2 e3.1]
    rfl
theorem sim_all {s : Ls} {t : RS} (h : Sim s t) : Sim (allP s).2 (allRR t).2 ∧ ((allRR t).2.2 = 0 → (allRR t).1 = { (allP s).1 with k := 9, ends := 6 }) := by
  have hN := sim_num h 0
  have hL := sim_lean hN.1
  unfold allRR allP
  refine ⟨hL.1, fun e => ?_⟩
  simp only at e ⊢
  have e3 := (numR_len 1 _).2 e
  have e4 := (oneR_len [58] _).2 e3.1
  rw [hL.2 e, hN.2 e4.1]
  rfl
theorem pick_is {T : List FmL} {rd : FuncId → Ls → SL × Ls} {s : Ls} {f : FmL} (hf : (T.find? fun h => decide (fstW f = fstW h)) = some f) (hx : (nextP s).1 = fstW f) : pickP T rd s = (f.1, rd f.2.2.1 (mustsP (Lib.fields (rstT f)) (nextP s).2)) := by
  unfold pickP
  rw [hx, hf]
theorem pick_none {T : List FmL} {rd : FuncId → Ls → SL × Ls} {s : Ls} (h : ∀ f ∈ T, (nextP s).1 ≠ fstW f) : pickP T rd s = (0, SL.zero, failP 80 (nextP s).2) := by
  unfold pickP
  have : (T.find? fun f => decide ((nextP s).1 = fstW f)) = none := by
    rw [List.find?_eq_none]
    intro f hf
    simpa using h f hf
  rw [this]
theorem bd_same {s : Ls} (h : s.2.isSome = true) : bdA s = s ∧ bdX s = [] ∧ bdB s = s := by
  have e1 : bdA s = s := by unfold bdA; rw [next_bad h]; exact whole_bad h
  refine ⟨e1, ?_, ?_⟩
  · unfold bdX; rw [e1, next_bad h]
  · unfold bdB; rw [e1, next_bad h]
theorem rdC_same (f : FuncId) (s : Ls) (h : s.2.isSome = true) : (rdC f s).2 = s := by
  unfold rdC
  split
  · unfold unsatP; rw [take_bad h]; rfl
  split
  · unfold boundsP
    obtain ⟨_, b2, b3⟩ := bd_same h
    rw [b2, if_neg (by simp), b3, whole_bad h]
  split
  · show (allR s).2 = s
    unfold allR allS
    rw [next_bad h, whole_bad h, next_bad h]
    exact lean_bad h
  · rfl
theorem sim_ends {s : Ls} {t : RS} (h : Sim s t) : Sim (endsP s).2 (endsR t).2 ∧ ((endsR t).2.2 = 0 → (endsR t).1 = { (endsP s).1 with k := 9 }) := by
  obtain ⟨hx, hS⟩ := sim_next h
  unfold endsR endsP
  obtain ⟨⟨⟨x, tt⟩, t'⟩, hr⟩ : ∃ q, takeR t = q := ⟨_, rfl⟩
  rw [hr] at hx hS ⊢
  simp only at hx hS ⊢
  unfold endsW
  by_cases ht : t'.2 = 0
  · rw [if_neg (fun e => e ht)]
    by_cases k1 : x = [78, 79, 78, 69]
    · rw [if_pos k1, pick_is (T := claimsL) (rd := rdC) (f := (1, [78, 79, 78, 69], 63, 64)) (claims_find _ (by simp [claimsL])) (by rw [hx, k1]; kernel_rfl)]
      rw [show Lib.fields (rstT (1, [78, 79, 78, 69], 63, 64)) = [] by kernel_rfl]
      rw [show rdC 63 (mustsP [] (nextP s).2) = (SL.zero, (nextP s).2) from rfl]
      exact ⟨hS, fun _ => rfl⟩
    rw [if_neg k1]
    by_cases k2 : x = [85, 78, 83, 65, 84]
    · rw [if_pos k2, pick_is (T := claimsL) (rd := rdC) (f := (2, [85, 78, 83, 65, 84], 133, 134)) (claims_find _ (by simp [claimsL])) (by rw [hx, k2]; kernel_rfl)]
      rw [show Lib.fields (rstT (2, [85, 78, 83, 65, 84], 133, 134)) = [] by kernel_rfl]
      rw [show rdC 133 (mustsP [] (nextP s).2) = unsatP (nextP s).2 from rfl]
      obtain ⟨q1, q2⟩ := sim_unsat hS ht
      exact ⟨q1, fun e => by rw [q2 e]⟩
    rw [if_neg k2]
    by_cases k3 : x = [83, 65, 84]
    · rw [if_pos k3, pick_is (T := claimsL) (rd := rdC) (f := (3, [83, 65, 84], 63, 64)) (claims_find _ (by simp [claimsL])) (by rw [hx, k3]; kernel_rfl)]
      rw [show Lib.fields (rstT (3, [83, 65, 84], 63, 64)) = [] by kernel_rfl]
      rw [show rdC 63 (mustsP [] (nextP s).2) = (SL.zero, (nextP s).2) from rfl]
      exact ⟨hS, fun _ => rfl⟩
    rw [if_neg k3]
    by_cases k4 : x = [66, 79, 85, 78, 68, 83]
    · rw [if_pos k4, pick_is (T := claimsL) (rd := rdC) (f := (5, [66, 79, 85, 78, 68, 83], 135, 136)) (claims_find _ (by simp [claimsL])) (by rw [hx, k4]; kernel_rfl)]
      rw [show Lib.fields (rstT (5, [66, 79, 85, 78, 68, 83], 135, 136)) = [] by kernel_rfl]
      rw [show rdC 135 (mustsP [] (nextP s).2) = boundsP (nextP s).2 from rfl]
      obtain ⟨q1, q2⟩ := sim_bounds hS
      exact ⟨q1, fun e => by rw [q2 e]⟩
    rw [if_neg k4]
    by_cases k5 : x = [65, 76, 76]
    · rw [if_pos k5, pick_is (T := claimsL) (rd := rdC) (f := (6, [65, 76, 76], 137, 138)) (claims_find _ (by simp [claimsL])) (by rw [hx, k5]; kernel_rfl)]
      rw [show Lib.fields (rstT (6, [65, 76, 76], 137, 138)) = [] by kernel_rfl]
      rw [show rdC 137 (mustsP [] (nextP s).2) = allP (nextP s).2 from rfl]
      obtain ⟨q1, q2⟩ := sim_all hS
      exact ⟨q1, fun e => by rw [q2 e]⟩
    rw [if_neg k5]
    rw [pick_none (T := claimsL) (rd := rdC) (s := s) (by
      intro f hf
      rw [hx]
      rw [claimsL] at hf
      simp only [List.mem_cons, List.not_mem_nil, or_false] at hf
      rcases hf with rfl | rfl | rfl | rfl | rfl
      · exact k1
      · exact k2
      · exact k3
      · exact k4
      · exact k5)]
    have hF := sim_fail hS (e := 80) (by decide)
    exact ⟨hF, fun e => absurd e (failR_ne (by decide))⟩
  · rw [if_pos ht]
    refine ⟨?_, fun e => absurd e ht⟩
    have hb := hS.isBad ht
    have hsb : s.2.isSome = true ∨ (nextP s).2.2.isSome = true := .inr hb
    have : Sim (pickP claimsL rdC s).2.2 t' := by
      rcases hS with ⟨_, h2, _⟩ | ⟨e, he, h1, h2⟩
      · exact absurd h2 ht
      · refine .bad he ?_ h2
        unfold pickP
        split
        · rename_i f _
          rw [musts_bad _ _ hb, rdC_same _ _ hb]
          exact h1
        · rw [fail_bad hb]; exact h1
    exact this
end Go.Proofs.YtgckmkdmlaocmaaGreatDoor

namespace Go.Proofs.YtgckmkdmlaocmaaGreatDoor
open Go.RowKit

theorem sim_rest {s : Ls} {t : RS} (h : Sim s t) : (endP s).2 = if (restR t).2 = 0 then none else some (restR t).2 := by
  rcases h with ⟨h1, h2, h3⟩ | ⟨e, he, h1, h2⟩
  · obtain ⟨r, o⟩ := s
    obtain ⟨L, f⟩ := t
    have e1 : o = none := h1
    have e2 : f = 0 := h2
    subst e1 e2
    cases L with
    | nil =>
      rw [end_yes h3]
      rfl
    | cons x L =>
      obtain ⟨r', h4, h5⟩ := tk_take h3
      have e3 : restR (x :: L, 0) = (x :: L, 80) := by unfold restR; rw [if_pos (more_cons x L)]; rfl
      unfold endP
      rw [h4, if_pos rfl, e3]
      rfl
  · have ht : t.2 ≠ 0 := by rw [h2]; exact he
    have e3 : restR t = t := by unfold restR; rw [if_neg (by rw [more_bad ht]; simp)]
    have e4 : endP s = s := by unfold endP; rw [take_bad (by rw [h1]; rfl)]; rfl
    rw [e3, e4, if_neg ht, h1, h2]
theorem sim_words : ∀ (W : List (List UInt8)) {s : Ls} {t : RS}, Sim s t → (∀ x ∈ W, x ≠ []) → Sim (mustsP W s) (wdsR W t) := by
  intro W
  induction W with
  | nil => intro s t h _; exact h
  | cons x W ih => intro s t h hw; exact ih (sim_must h (hw x (by simp))) (fun y hy => hw y (List.mem_cons_of_mem _ hy))
/-- A step as the program's forms tell it. -/
def pkW (y : List UInt8) (s : Ls) : SL × Ls := ({ (match formsL.find? fun f => decide (y = fstW f) with
  | some f => (f.1, rdF f.2.2.1 (mustsP (Lib.fields (rstT f)) s))
  | none => (0, SL.zero, failP 80 s)).2.1 with k := (match formsL.find? fun f => decide (y = fstW f) with
  | some f => (f.1, rdF f.2.2.1 (mustsP (Lib.fields (rstT f)) s))
  | none => (0, SL.zero, failP 80 s)).1 }, (match formsL.find? fun f => decide (y = fstW f) with
  | some f => (f.1, rdF f.2.2.1 (mustsP (Lib.fields (rstT f)) s))
  | none => (0, SL.zero, failP 80 s)).2.2)
theorem pk_is {y : List UInt8} {s : Ls} {f : FmL} {W : List (List UInt8)} (hf : f ∈ formsL) (hx : y = fstW f) (hW : Lib.fields (rstT f) = W) : pkW y s = ({ (rdF f.2.2.1 (mustsP W s)).1 with k := f.1 }, (rdF f.2.2.1 (mustsP W s)).2) := by
  subst hx
  subst hW
  unfold pkW
  rw [forms_find f hf]
theorem pk_none {y : List UInt8} {s : Ls} (h : ∀ f ∈ formsL, y ≠ fstW f) : pkW y s = ({ SL.zero with k := 0 }, failP 80 s) := by
  unfold pkW
  have : (formsL.find? fun f => decide (y = fstW f)) = none := by
    rw [List.find?_eq_none]
    intro f hf
    simpa using h f hf
  rw [this]
theorem read_is (x : List UInt8) : readP x = if (trimR x).dropWhile blk = [] then ({ SL.zero with k := 7 }, none) else ((pkW (nextP (x, none)).1 (nextP (x, none)).2).1, (endP (pkW (nextP (x, none)).1 (nextP (x, none)).2).2).2) := rfl
theorem sim_step {s : Ls} {t : RS} (h : Sim s t) (y : List UInt8) (hy : y ≠ [42]) : Sim (pkW y s).2 (stepW y t).2 ∧ ((stepW y t).2.2 = 0 → (stepW y t).1 = (pkW y s).1) := by
  unfold stepW
  by_cases k1 : y = [112, 115, 101, 117, 100, 111, 45, 66, 111, 111, 108, 101, 97, 110]
  · rw [if_pos k1, pk_is (f := (1, [112, 115, 101, 117, 100, 111, 45, 66, 111, 111, 108, 101, 97, 110, 32, 112, 114, 111, 111, 102, 32, 118, 101, 114, 115, 105, 111, 110, 32, 50, 46, 48], 63, 64)) (W := [[112, 114, 111, 111, 102], [118, 101, 114, 115, 105, 111, 110], [50, 46, 48]]) (by simp [formsL]) (by rw [k1]; kernel_rfl) (by kernel_rfl)]
    rw [show rdF 63 (mustsP [[112, 114, 111, 111, 102], [118, 101, 114, 115, 105, 111, 110], [50, 46, 48]] s) = (SL.zero, mustsP [[112, 114, 111, 111, 102], [118, 101, 114, 115, 105, 111, 110], [50, 46, 48]] s) from rfl]
    exact ⟨sim_words [[112, 114, 111, 111, 102], [118, 101, 114, 115, 105, 111, 110], [50, 46, 48]] h (by simp), fun _ => rfl⟩
  rw [if_neg k1]
  by_cases k2 : y = [102]
  · rw [if_pos k2, pk_is (f := (2, [102], 65, 66)) (W := []) (by simp [formsL]) (by rw [k2]; kernel_rfl) (by kernel_rfl)]
    rw [show rdF 65 (mustsP [] s) = ({ SL.zero with n := (sizeP s).1 }, (sizeP s).2) from rfl]
    have hN := sim_num h 0
    exact ⟨hN.1, fun e => by simp only at e ⊢; rw [hN.2 e]; rfl⟩
  rw [if_neg k2]
  by_cases k3 : y = [112, 111, 108]
  · rw [if_pos k3, pk_is (f := (3, [112, 111, 108], 67, 68)) (W := []) (by simp [formsL]) (by rw [k3]; kernel_rfl) (by kernel_rfl)]
    rw [show rdF 67 (mustsP [] s) = ({ SL.zero with ops := (opsP s).1 }, (opsP s).2) from rfl]
    have hN := sim_ops h
    exact ⟨hN.1, fun e => by simp only at e ⊢; rw [hN.2 e]⟩
  rw [if_neg k3]
  by_cases k4 : y = [114, 117, 112]
  · rw [if_pos k4, pk_is (f := (4, [114, 117, 112], 69, 70)) (W := []) (by simp [formsL]) (by rw [k4]; kernel_rfl) (by kernel_rfl)]
    rw [show rdF 69 (mustsP [] s) = ({ SL.zero with pcs := (rowP s).1.1, deg := (rowP s).1.2, ids := (idsP (rowP s).2).1 }, (idsP (rowP s).2).2) from rfl]
    have hR := sim_row h
    have hI := sim_ids hR.1 []
    unfold rupR
    refine ⟨hI.1, fun e => ?_⟩
    simp only at e ⊢
    have hz : (rowR t).2.2 = 0 := by
      apply Classical.byContradiction
      intro hn
      rw [llR_bad hn] at e
      exact hn e
    rw [hI.2 e, hR.2 hz]
    rfl
  rw [if_neg k4]
  by_cases k5 : y = [101]
  · rw [if_pos k5, pk_is (f := (12, [101], 71, 72)) (W := []) (by simp [formsL]) (by rw [k5]; kernel_rfl) (by kernel_rfl)]
    rw [show rdF 71 (mustsP [] s) = ({ SL.zero with pcs := (rowP (eqS s)).1.1, deg := (rowP (eqS s)).1.2, ids := [eqY s] }, (rowP (eqS s)).2) from rfl]
    have hN := sim_num h 1
    have hR := sim_row (s := eqS s) hN.1
    unfold eqlR
    refine ⟨hR.1, fun e => ?_⟩
    simp only at e ⊢
    have hz : (numR 1 t).2.2 = 0 := by
      apply Classical.byContradiction
      intro hn
      have : (rowR (numR 1 t).2).2 = (numR 1 t).2 := by unfold rowR; rw [lrow_bad hn, one_bad hn, num_bad hn, one_bad hn]
      rw [this] at e
      exact hn e
    rw [hR.2 e, hN.2 hz]
    rfl
  rw [if_neg k5]
  by_cases k6 : y = [115, 111, 108, 105]
  · rw [if_pos k6, pk_is (f := (5, [115, 111, 108, 105], 73, 74)) (W := []) (by simp [formsL]) (by rw [k6]; kernel_rfl) (by kernel_rfl)]
    rw [show rdF 73 (mustsP [] s) = ({ SL.zero with lits := (listP literalP s).1.map fun x => (litP x).1 }, (listP literalP s).2) from rfl]
    have hN := sim_lits h
    unfold solR
    exact ⟨hN.1, fun e => by simp only at e ⊢; rw [hN.2 e]⟩
  rw [if_neg k6]
  by_cases k7 : y = [115, 111, 108, 120]
  · rw [if_pos k7, pk_is (f := (11, [115, 111, 108, 120], 73, 74)) (W := []) (by simp [formsL]) (by rw [k7]; kernel_rfl) (by kernel_rfl)]
    rw [show rdF 73 (mustsP [] s) = ({ SL.zero with lits := (listP literalP s).1.map fun x => (litP x).1 }, (listP literalP s).2) from rfl]
    have hN := sim_lits h
    unfold solR
    exact ⟨hN.1, fun e => by simp only at e ⊢; rw [hN.2 e]⟩
  rw [if_neg k7]
  by_cases k8 : y = [100, 101, 108]
  · rw [if_pos k8, pk_is (f := (6, [100, 101, 108, 32, 105, 100], 75, 76)) (W := [[105, 100]]) (by simp [formsL]) (by rw [k8]; kernel_rfl) (by kernel_rfl)]
    rw [show rdF 75 (mustsP [[105, 100]] s) = ({ SL.zero with ids := eqY (mustsP [[105, 100]] s) :: (idsP (eqS (mustsP [[105, 100]] s))).1 }, (idsP (eqS (mustsP [[105, 100]] s))).2) from rfl]
    have hM : Sim (mustsP [[105, 100]] s) (oneR [105, 100] t) := sim_words [[105, 100]] h (by simp)
    have hN := sim_num hM 1
    have hI := sim_ids (s := eqS (mustsP [[105, 100]] s)) hN.1 [(numR 1 (oneR [105, 100] t)).1]
    unfold delR
    refine ⟨hI.1, fun e => ?_⟩
    simp only at e ⊢
    have hz : (numR 1 (oneR [105, 100] t)).2.2 = 0 := by
      apply Classical.byContradiction
      intro hn
      rw [llR_bad hn] at e
      exact hn e
    rw [hI.2 e]
    have e5 := hN.2 hz
    have e6 : (numR 1 (oneR [105, 100] t)).1 = eqY (mustsP [[105, 100]] s) := e5
    rw [e6]
    rfl
  rw [if_neg k8]
  by_cases k9 : y = [111, 117, 116, 112, 117, 116]
  · rw [if_pos k9, pk_is (f := (8, [111, 117, 116, 112, 117, 116, 32, 78, 79, 78, 69], 63, 64)) (W := [[78, 79, 78, 69]]) (by simp [formsL]) (by rw [k9]; kernel_rfl) (by kernel_rfl)]
    rw [show rdF 63 (mustsP [[78, 79, 78, 69]] s) = (SL.zero, mustsP [[78, 79, 78, 69]] s) from rfl]
    exact ⟨sim_words [[78, 79, 78, 69]] h (by simp), fun _ => rfl⟩
  rw [if_neg k9]
  by_cases k10 : y = [99, 111, 110, 99, 108, 117, 115, 105, 111, 110]
  · rw [if_pos k10, pk_is (f := (9, [99, 111, 110, 99, 108, 117, 115, 105, 111, 110], 78, 79)) (W := []) (by simp [formsL]) (by rw [k10]; kernel_rfl) (by kernel_rfl)]
    rw [show rdF 78 (mustsP [] s) = endsP s from rfl]
    exact sim_ends h
  rw [if_neg k10]
  by_cases k11 : y = [101, 110, 100]
  · rw [if_pos k11, pk_is (f := (10, [101, 110, 100, 32, 112, 115, 101, 117, 100, 111, 45, 66, 111, 111, 108, 101, 97, 110, 32, 112, 114, 111, 111, 102], 63, 64)) (W := [[112, 115, 101, 117, 100, 111, 45, 66, 111, 111, 108, 101, 97, 110], [112, 114, 111, 111, 102]]) (by simp [formsL]) (by rw [k11]; kernel_rfl) (by kernel_rfl)]
    rw [show rdF 63 (mustsP [[112, 115, 101, 117, 100, 111, 45, 66, 111, 111, 108, 101, 97, 110], [112, 114, 111, 111, 102]] s) = (SL.zero, mustsP [[112, 115, 101, 117, 100, 111, 45, 66, 111, 111, 108, 101, 97, 110], [112, 114, 111, 111, 102]] s) from rfl]
    exact ⟨sim_words [[112, 115, 101, 117, 100, 111, 45, 66, 111, 111, 108, 101, 97, 110], [112, 114, 111, 111, 102]] h (by simp), fun _ => rfl⟩
  rw [if_neg k11]
  rw [pk_none (by
    intro f hf
    rw [formsL] at hf
    simp only [List.mem_cons, List.not_mem_nil, or_false] at hf
    rcases hf with rfl | rfl | rfl | rfl | rfl | rfl | rfl | rfl | rfl | rfl | rfl | rfl
    · exact k1
    · exact k2
    · exact k3
    · exact k4
    · exact k5
    · exact k6
    · exact k7
    · exact k8
    · exact hy
    · exact k9
    · exact k10
    · exact k11)]
  exact ⟨sim_fail h (by decide), fun e => absurd e (failR_ne (by decide))⟩
theorem drop_nil (l : List UInt8) : l.dropWhile blk = [] ↔ ∀ c ∈ l, blk c = true := by
  induction l with
  | nil => simp
  | cons c t ih =>
    by_cases h : blk c = true
    · simp [h, ih]
    · simp [h]
theorem blank_trim {x : List UInt8} (h : x.dropWhile blk = []) : (trimR x).dropWhile blk = [] := by
  rw [drop_nil] at h ⊢
  intro c hc
  unfold trimR at hc
  exact h c (by
    have h1 := List.mem_reverse.1 hc
    exact List.mem_reverse.1 ((List.dropWhile_sublist _).subset h1))
theorem par_is (x : List UInt8) : parR x = parseP x := by
  have hT := tk_wrds x.length x (Nat.le_refl _)
  have hS := sim_next (sim_start x)
  unfold parR parseP
  rw [read_is]
  cases hW : wrds x [] with
  | nil =>
    rw [hW] at hT
    rw [if_pos (.inl rfl), if_pos (blank_trim hT)]
  | cons y L =>
    rw [hW] at hT hS
    have hb : ¬ (trimR x).dropWhile blk = [] := fun e => hT.1 (trim_blank e)
    rw [if_neg hb]
    rw [takeR_cons] at hS ⊢
    simp only at hS ⊢
    rw [hS.1]
    by_cases hs : y = [42]
    · subst hs
      rw [if_pos (.inr rfl), pk_is (f := (7, [42], 77, 64)) (W := []) (by simp [formsL]) (by kernel_rfl) (by kernel_rfl)]
      obtain ⟨q1, q2⟩ := hS.2.isOk rfl
      have e1 : rdF 77 (mustsP [] (nextP (x, none)).2) = (SL.zero, ([], (nextP (x, none)).2.2)) := rfl
      rw [e1, q1]
      rfl
    · rw [if_neg (fun e => e.elim (fun e => by cases e) (fun e => hs (by simpa using e)))]
      obtain ⟨q1, q2⟩ := sim_step hS.2 y hs
      have hE := sim_rest q1
      obtain ⟨⟨d, td⟩, hd⟩ : ∃ q, stepW y (L, 0) = q := ⟨_, rfl⟩
      rw [hd] at q1 q2 hE ⊢
      simp only at q1 q2 hE ⊢
      rw [hE]
      by_cases hz : (restR td).2 = 0
      · rw [if_pos hz, if_pos hz]
        have htd : td.2 = 0 := by
          unfold restR at hz
          split at hz
          · exact absurd hz (failR_ne (by decide))
          · exact hz
        rw [q2 htd]
      · rw [if_neg hz, if_neg hz]
end Go.Proofs.YtgckmkdmlaocmaaGreatDoor
