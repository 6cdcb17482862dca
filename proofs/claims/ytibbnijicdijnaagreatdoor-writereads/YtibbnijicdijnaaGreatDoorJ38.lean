/-
  Put together: PfMc, PfMd, PfMe.
-/
import Derived.Test.YtibbnijicdijnaaGreatDoorJ37
namespace Go.Proofs.YtibbnijicdijnaaGreatDoor
open Go.RowKit

/-- What a word does to a row of operations, where it is right. -/
def opW (x : List UInt8) (A : List OpL) : Option (List OpL) := if (opP x A ([], none)).2.2 = none then some (opP x A ([], none)).1 else none
theorem fail_at (e : Int) (r : List UInt8) : failP e (r, none) = (r, some e) := rfl
theorem whole_at (x : List UInt8) (g : Int) (r : List UInt8) (o : Option Int) : wholeP x g (r, o) = (r, (wholeP x g ([], o)).2) := by
  unfold wholeP failP
  split
  · cases o <;> rfl
  · rfl
theorem oper_at (x : List UInt8) (r : List UInt8) : operP x (r, none) = ((operP x ([], none)).1, (r, (operP x ([], none)).2.2)) := by
  unfold operP operS
  split
  · rfl
  · split
    · rw [fail_at, fail_at, whole_at]
    · rw [whole_at]
theorem turn_at (fr tk : Int) (A : List OpL) (r : List UInt8) : turnP fr tk A (r, none) = ((turnP fr tk A ([], none)).1, (r, (turnP fr tk A ([], none)).2.2)) := by
  unfold turnP
  split
  · rfl
  · split <;> rfl
theorem op_at (x : List UInt8) (A : List OpL) (r : List UInt8) : opP x A (r, none) = ((opP x A ([], none)).1, (r, (opP x A ([], none)).2.2)) := by
  unfold opP
  repeat' split
  all_goals first | rfl | rw [turn_at] | rw [oper_at]
theorem opW_some {x : List UInt8} {A F : List OpL} (h : opW x A = some F) (r : List UInt8) : opP x A (r, none) = (F, (r, none)) := by
  unfold opW at h
  split at h
  · rename_i h0
    rw [op_at, h0, Option.some.inj h]
  · cases h
theorem opW_of {x : List UInt8} {A : List OpL} {r : List UInt8} (h : (opP x A (r, none)).2.2 = none) : ∃ F, opW x A = some F := by
  rw [op_at] at h
  unfold opW
  simp only [] at h
  rw [if_pos h]
  exact ⟨_, rfl⟩
def runW : List (List UInt8) → List OpL → Option (List OpL)
  | [], A => some A
  | x :: L, A => match opW x A with
    | some B => runW L B
    | none => none
theorem lops_ok : ∀ (L : List (List UInt8)) (n : Nat) (A : List OpL) (r : List UInt8), Tk r L → L.length < n → (lopsP n A (r, none)).2.2 = none → ∃ F r', runW L A = some F ∧ lopsP n A (r, none) = (F, (r', none)) ∧ Tk r' [] := by
  intro L
  induction L with
  | nil =>
    intro n A r h hn _
    obtain ⟨n, rfl⟩ : ∃ m, n = m + 1 := ⟨n - 1, by simp at hn; omega⟩
    exact ⟨A, r, rfl, by rw [lops_stop (x := []) (by rw [tk_stop h]), tk_stop h], h⟩
  | cons x L ih =>
    intro n A r h hn h0
    obtain ⟨n, rfl⟩ : ∃ m, n = m + 1 := ⟨n - 1, by simp at hn; omega⟩
    obtain ⟨r', h1, h2⟩ := tk_take h
    have e : lopsP (n + 1) A (r, none) = lopsP n (opP x A (r', none)).1 (opP x A (r', none)).2 := by rw [lops_more (x := x) (by rw [h1]), h1]
    rw [e] at h0
    have hb : (opP x A (r', none)).2.2 = none := by
      cases hs : (opP x A (r', none)).2.2 with
      | none => rfl
      | some z => rw [lops_bad _ _ _ (by rw [hs]; rfl), hs] at h0; cases h0
    obtain ⟨B, hB⟩ := opW_of hb
    rw [opW_some hB] at e h0
    obtain ⟨F, r2, a1, a2, a3⟩ := ih n B r' h2 (by simp at hn; omega) h0
    exact ⟨F, r2, by unfold runW; rw [hB]; exact a1, by rw [e]; exact a2, a3⟩
theorem lops_yes : ∀ (L : List (List UInt8)) (n : Nat) (A F : List OpL) (r : List UInt8), Tk r L → L.length < n → runW L A = some F → ∃ r', lopsP n A (r, none) = (F, (r', none)) ∧ Tk r' [] := by
  intro L
  induction L with
  | nil =>
    intro n A F r h hn h0
    obtain ⟨n, rfl⟩ : ∃ m, n = m + 1 := ⟨n - 1, by simp at hn; omega⟩
    have : A = F := Option.some.inj h0
    subst this
    exact ⟨r, by rw [lops_stop (x := []) (by rw [tk_stop h]), tk_stop h], h⟩
  | cons x L ih =>
    intro n A F r h hn h0
    obtain ⟨n, rfl⟩ : ∃ m, n = m + 1 := ⟨n - 1, by simp at hn; omega⟩
    obtain ⟨r', h1, h2⟩ := tk_take h
    have e : lopsP (n + 1) A (r, none) = lopsP n (opP x A (r', none)).1 (opP x A (r', none)).2 := by rw [lops_more (x := x) (by rw [h1]), h1]
    unfold runW at h0
    cases hB : opW x A with
    | none => rw [hB] at h0; cases h0
    | some B =>
      rw [hB] at h0
      rw [opW_some hB] at e
      obtain ⟨r2, a2, a3⟩ := ih n B F r' h2 (by simp at hn; omega) h0
      exact ⟨r2, by rw [e]; exact a2, a3⟩
theorem ops_ok {s : Ls} {L : List (List UInt8)} (h : Tk s.1 L) (hn : (opsP s).2.2 = none) : ∃ F r', L ≠ [] ∧ runW L [] = some F ∧ opsP s = (F, (r', none)) ∧ Tk r' [] ∧ s.2 = none := by
  have hs : s.2 = none := by
    cases hs : s.2 with
    | none => rfl
    | some z => rw [opsP_bad (by rw [hs]; rfl), hs] at hn; cases hn
  obtain ⟨r, o⟩ := s
  simp only [] at hs
  subst hs
  have hn0 := hn
  unfold opsP at hn
  simp only [] at hn
  have w1 : (opP (nextP (r, none)).1 [] (nextP (r, none)).2).2.2 = none := by
    cases hs : (opP (nextP (r, none)).1 [] (nextP (r, none)).2).2.2 with
    | none => rfl
    | some z => rw [lops_bad _ _ _ (by rw [hs]; rfl), hs] at hn; cases hn
  have w2 : (nextP (r, none)).2.2 = none := by
    cases hs : (nextP (r, none)).2.2 with
    | none => rfl
    | some z => rw [op_bad (by rw [hs]; rfl), hs] at w1; cases w1
  obtain ⟨x, M, r1, c1, c2, c3, _⟩ := next_ok (s := (r, none)) h w2
  rw [c2] at w1 hn
  simp only [] at w1 hn
  obtain ⟨B, hB⟩ := opW_of w1
  rw [opW_some hB] at hn
  simp only [] at hn
  obtain ⟨F, r2, a1, a2, a3⟩ := lops_ok M _ B r1 c3 (by have := tk_count h; rw [c1] at this; simp at this; omega) hn
  refine ⟨F, r2, by rw [c1]; simp, ?_, ?_, a3, rfl⟩
  · rw [c1]; unfold runW; rw [hB]; exact a1
  · unfold opsP
    simp only []
    rw [c2]
    simp only []
    rw [opW_some hB]
    exact a2
theorem ops_yes {r : List UInt8} {L : List (List UInt8)} {F : List OpL} (h : Tk r L) (h0 : L ≠ []) (hr : runW L [] = some F) : ∃ r', opsP (r, none) = (F, (r', none)) ∧ Tk r' [] := by
  cases L with
  | nil => exact absurd rfl h0
  | cons x M =>
    have hc := tk_count h
    obtain ⟨r1, c2, c3⟩ := tk_next h
    unfold runW at hr
    cases hB : opW x [] with
    | none => rw [hB] at hr; cases hr
    | some B =>
      rw [hB] at hr
      obtain ⟨r2, a2, a3⟩ := lops_yes M (r.length + 1) B F r1 c3 (by simp at hc; omega) hr
      refine ⟨r2, ?_, a3⟩
      unfold opsP
      simp only []
      rw [c2]
      simp only []
      rw [opW_some hB]
      exact a2
theorem opsT_app (A B : List OpL) : opsT (A ++ B) = opsT A ++ opsT B := by simp [opsT]
theorem opsT_one (o : OpL) : opsT [o] = opT o := by simp [opsT]
/-- A number that stands for itself. -/
def okOp (o : OpL) : Prop := -1073741824 ≤ o.2.2 ∧ o.2.2 ≤ 1073741824
theorem turn_ok {fr tk : Int} {A : List OpL} {r : List UInt8} (h : (turnP fr tk A (r, none)).2.2 = none) : ∃ M o, A = M ++ [o] ∧ o.1 = fr ∧ (turnP fr tk A (r, none)).1 = M ++ [(tk, o.2)] := by
  rcases List.eq_nil_or_concat A with rfl | ⟨M, o, rfl⟩
  · rw [turn_nil] at h; cases h
  · rw [List.concat_eq_append] at h ⊢
    rw [turn_app] at h ⊢
    split at h
    · rename_i h1
      exact ⟨M, o, rfl, h1.1, by rw [if_pos h1]⟩
    · cases h
theorem opW_is {x : List UInt8} {A F : List OpL} (h : opW x A = some F) : opsT F = opsT A ++ [x] ∧ Gw x ∧ ((∀ o ∈ A, okOp o) → ∀ o ∈ F, okOp o) := by
  have h1 := opW_some h []
  have hn : (opP x A ([], none)).2.2 = none := by rw [h1]
  have hF : F = (opP x A ([], none)).1 := by rw [h1]
  have add : ∀ o : OpL, F = A ++ [o] → opT o = [x] → okOp o → Gw x → opsT F = opsT A ++ [x] ∧ Gw x ∧ ((∀ o ∈ A, okOp o) → ∀ o ∈ F, okOp o) := by
    intro o e1 e2 e3 e4
    refine ⟨by rw [e1, opsT_app, opsT_one, e2], e4, fun hA p hp => ?_⟩
    rw [e1] at hp
    rcases List.mem_append.1 hp with hp | hp
    · exact hA p hp
    · simp at hp; rw [hp]; exact e3
  have trn : ∀ (fr tk : Int), opP x A ([], none) = turnP fr tk A ([], none) → (∀ o : OpL, o.1 = fr → opT (tk, o.2) = opT o ++ [x]) → Gw x → opsT F = opsT A ++ [x] ∧ Gw x ∧ ((∀ o ∈ A, okOp o) → ∀ o ∈ F, okOp o) := by
    intro fr tk e1 e2 e3
    rw [e1] at hn hF
    obtain ⟨M, o, g1, g2, g3⟩ := turn_ok hn
    rw [g3] at hF
    refine ⟨by rw [hF, g1, opsT_app, opsT_app, opsT_one, opsT_one, e2 o g2, List.append_assoc], e3, fun hA p hp => ?_⟩
    rw [hF] at hp
    rcases List.mem_append.1 hp with hp | hp
    · exact hA p (by rw [g1]; exact List.mem_append_left _ hp)
    · simp at hp
      rw [hp]
      exact hA o (by rw [g1]; simp)
  by_cases c1 : x = [43]
  · subst c1
    exact add (3, [], 0) (by rw [hF]; rfl) rfl (by unfold okOp; decide) ⟨by decide, fun c hc => by simp at hc; subst hc; decide⟩
  by_cases c2 : x = [115]
  · subst c2
    exact add (6, [], 0) (by rw [hF]; rfl) rfl (by unfold okOp; decide) ⟨by decide, fun c hc => by simp at hc; subst hc; decide⟩
  by_cases c3 : x = [42]
  · subst c3
    exact trn 1 4 rfl (fun o ho => by obtain ⟨a, b, c⟩ := o; simp only [] at ho; subst ho; rfl) ⟨by decide, fun c hc => by simp at hc; subst hc; decide⟩
  by_cases c4 : x = [100]
  · subst c4
    exact trn 1 5 rfl (fun o ho => by obtain ⟨a, b, c⟩ := o; simp only [] at ho; subst ho; rfl) ⟨by decide, fun c hc => by simp at hc; subst hc; decide⟩
  by_cases c5 : x = [119]
  · subst c5
    exact trn 2 7 rfl (fun o ho => by obtain ⟨a, b, c⟩ := o; simp only [] at ho; subst ho; rfl) ⟨by decide, fun c hc => by simp at hc; subst hc; decide⟩
  have e : opP x A ([], none) = (A ++ [(operP x ([], none)).1], (operP x ([], none)).2) := by
    unfold opP
    rw [if_neg c1, if_neg c2, if_neg c3, if_neg c4, if_neg c5]
  rw [e] at hn hF
  simp only [] at hn hF
  by_cases hl : (litP x).2 = true
  · have e2 : operP x ([], none) = ((2, [], (litP x).1), ([], none)) := by unfold operP; rw [if_pos hl]
    rw [e2] at hF
    have hg := (lit_ok hl).good
    rw [lit_back hl] at hg
    refine add _ hF ?_ ⟨hg.2.1, hg.2.2.1⟩ hg.1
    show [litT (litP x).1] = [x]
    rw [lit_back hl]
  · have e2 : operP x ([], none) = ((1, x, 0), wholeP x 1 (operS x ([], none))) := by unfold operP; rw [if_neg hl]
    rw [e2] at hF hn
    simp only [] at hn hF
    obtain ⟨k1, _, _⟩ := whole_ok hn
    exact add _ hF rfl ⟨by show (-1073741824 : Int) ≤ 0; omega, by show (0 : Int) ≤ 1073741824; omega⟩ (bad_good k1)
theorem runW_is : ∀ (L : List (List UInt8)) (A F : List OpL), runW L A = some F → opsT F = opsT A ++ L ∧ (∀ x ∈ L, Gw x) ∧ ((∀ o ∈ A, okOp o) → ∀ o ∈ F, okOp o) := by
  intro L
  induction L with
  | nil =>
    intro A F h
    have : A = F := Option.some.inj h
    subst this
    exact ⟨by simp, fun x hx => absurd hx List.not_mem_nil, fun h => h⟩
  | cons x L ih =>
    intro A F h
    unfold runW at h
    cases hB : opW x A with
    | none => rw [hB] at h; cases h
    | some B =>
      rw [hB] at h
      obtain ⟨a1, a2, a3⟩ := opW_is hB
      obtain ⟨b1, b2, b3⟩ := ih B F h
      refine ⟨by rw [b1, a1]; simp, fun y hy => ?_, fun hA => b3 (a3 hA)⟩
      rcases List.mem_cons.1 hy with rfl | hy
      · exact a2
      · exact b2 y hy

/-- Words that must follow. -/
theorem musts_bad : ∀ (W : List (List UInt8)) (s : Ls), s.2.isSome = true → mustsP W s = s := by
  intro W
  induction W with
  | nil => intro s _; rfl
  | cons x W ih => intro s h; show mustsP W (mustP x s) = s; rw [must_bad h]; exact ih s h
theorem musts_ok : ∀ (W L : List (List UInt8)) (s : Ls), Tk s.1 L → (mustsP W s).2 = none → ∃ M r', L = W ++ M ∧ mustsP W s = (r', none) ∧ Tk r' M := by
  intro W
  induction W with
  | nil => intro L s h hn; exact ⟨L, s.1, rfl, Prod.ext rfl hn, h⟩
  | cons x W ih =>
    intro L s h hn
    have hn' : (mustsP W (mustP x s)).2 = none := hn
    have h1 : (mustP x s).2 = none := by
      cases hs : (mustP x s).2 with
      | none => rfl
      | some z => rw [musts_bad _ _ (by rw [hs]; rfl), hs] at hn'; cases hn'
    obtain ⟨M, r', c1, c2, c3, _⟩ := must_ok h h1
    rw [c2] at hn'
    obtain ⟨M2, r2, d1, d2, d3⟩ := ih M (r', none) c3 hn'
    exact ⟨M2, r2, by rw [c1, d1]; rfl, by show mustsP W (mustP x s) = _; rw [c2, d2], d3⟩
theorem musts_yes : ∀ (W M : List (List UInt8)) (r : List UInt8), Tk r (W ++ M) → ∃ r', mustsP W (r, none) = (r', none) ∧ Tk r' M := by
  intro W
  induction W with
  | nil => intro M r h; exact ⟨r, rfl, h⟩
  | cons x W ih =>
    intro M r h
    obtain ⟨r1, c1, c2⟩ := must_yes h
    obtain ⟨r2, d1, d2⟩ := ih M r1 c2
    exact ⟨r2, by show mustsP W (mustP x (r, none)) = _; rw [c1, d1], d2⟩
/-- The words that a form begins with. -/
def fmW (f : FmL) : List (List UInt8) := fstW f :: Lib.fields (rstT f)
theorem pick_bad {T : List FmL} {rd : FuncId → Ls → SL × Ls} {s : Ls} (hrd : ∀ f s, s.2.isSome = true → (rd f s).2.2.isSome = true) (h : s.2.isSome = true) : (pickP T rd s).2.2.2.isSome = true := by
  unfold pickP
  split
  · rw [next_bad h, musts_bad _ _ h]; exact hrd _ _ h
  · exact fail_some _ _
theorem pick_ok {T : List FmL} {rd : FuncId → Ls → SL × Ls} {s : Ls} {L : List (List UInt8)} (hrd : ∀ f s, s.2.isSome = true → (rd f s).2.2.isSome = true) (h : Tk s.1 L) (hn : (pickP T rd s).2.2.2 = none) : ∃ f ∈ T, ∃ M r', L = fmW f ++ M ∧ Tk r' M ∧ pickP T rd s = (f.1, rd f.2.2.1 (r', none)) ∧ s.2 = none := by
  unfold pickP at hn ⊢
  cases hf : T.find? fun f => decide ((nextP s).1 = fstW f) with
  | none =>
    rw [hf] at hn
    exact (none_some hn (fail_some _ _)).elim
  | some f =>
    rw [hf] at hn
    simp only [] at hn ⊢
    have h1 : (mustsP (Lib.fields (rstT f)) (nextP s).2).2 = none := by
      cases hs : (mustsP (Lib.fields (rstT f)) (nextP s).2).2 with
      | none => rfl
      | some z => exact (none_some hn (hrd _ _ (by rw [hs]; rfl))).elim
    have h2 : (nextP s).2.2 = none := by
      cases hs : (nextP s).2.2 with
      | none => rfl
      | some z => rw [musts_bad _ _ (by rw [hs]; rfl), hs] at h1; cases h1
    obtain ⟨x, M, r1, c1, c2, c3, c4⟩ := next_ok h h2
    rw [c2] at h1
    simp only [] at h1
    obtain ⟨M2, r2, d1, d2, d3⟩ := musts_ok _ M (r1, none) c3 h1
    have hx : x = fstW f := by
      have := List.find?_some hf
      have := of_decide_eq_true this
      rw [c2] at this
      exact this
    refine ⟨f, List.mem_of_find?_eq_some hf, M2, r2, ?_, d3, ?_, c4⟩
    · rw [c1, d1, hx]; rfl
    · rw [c2]; simp only []; rw [d2]
theorem pick_yes {T : List FmL} {rd : FuncId → Ls → SL × Ls} {r : List UInt8} (f : FmL) (hf : (T.find? fun g => decide (fstW f = fstW g)) = some f) {M : List (List UInt8)} (h : Tk r (fmW f ++ M)) : ∃ r', pickP T rd (r, none) = (f.1, rd f.2.2.1 (r', none)) ∧ Tk r' M := by
  obtain ⟨r1, c1, c2⟩ := tk_next (x := fstW f) (L := Lib.fields (rstT f) ++ M) h
  obtain ⟨r2, d1, d2⟩ := musts_yes _ M r1 c2
  refine ⟨r2, ?_, d2⟩
  unfold pickP
  rw [c1]
  simp only []
  rw [hf]
  simp only []
  rw [d1]
end Go.Proofs.YtibbnijicdijnaaGreatDoor

namespace Go.Proofs.YtibbnijicdijnaaGreatDoor
open Go.RowKit

theorem lean_bad {x : List UInt8} {s : Ls} (h : s.2.isSome = true) : (leanP x s).2 = s := by
  have e : leanS x s = s := by
    unfold leanS
    split
    · rfl
    · exact fail_bad h
  unfold leanP
  rw [e, next_bad h]
  show wholeP [] 1 s = s
  exact whole_bad h
theorem rdC_bad (f : FuncId) (s : Ls) (h : s.2.isSome = true) : (rdC f s).2.2.isSome = true := by
  unfold rdC
  split
  · unfold unsatP; rw [take_bad h]; exact h
  · split
    · unfold boundsP
      have e1 : bdA s = s := by unfold bdA; rw [next_bad h]; exact whole_bad h
      have e2 : bdX s = [] := by unfold bdX; rw [e1, next_bad h]
      have e3 : bdB s = s := by unfold bdB; rw [e1, next_bad h]
      rw [if_neg (by rw [e2]; decide), e2, e3]
      show (wholeP [] (-1) s).2.isSome = true
      rw [whole_bad h]
      exact h
    · split
      · unfold allP
        have e1 : allS s = s := by unfold allS; rw [next_bad h]; exact whole_bad h
        show (allR s).2.2.isSome = true
        unfold allR
        rw [e1, next_bad h]
        show (leanP [] s).2.2.isSome = true
        rw [lean_bad h]
        exact h
      · exact h
theorem rdF_bad (f : FuncId) (s : Ls) (h : s.2.isSome = true) : (rdF f s).2.2.isSome = true := by
  have e1 : eqS s = s := by unfold eqS; rw [next_bad h]; exact whole_bad h
  unfold rdF
  split
  · show (sizeP s).2.2.isSome = true
    unfold sizeP
    rw [next_bad h]
    show (wholeP [] 0 s).2.isSome = true
    rw [whole_bad h]
    exact h
  split
  · show (opsP s).2.2.isSome = true
    rw [opsP_bad h]
    exact h
  split
  · show (idsP (rowP s).2).2.2.isSome = true
    rw [rowP_bad h]
    unfold idsP
    rw [list_bad h]
    exact h
  split
  · show (rowP (eqS s)).2.2.isSome = true
    rw [e1, rowP_bad h]
    exact h
  split
  · show (listP literalP s).2.2.isSome = true
    rw [list_bad h]
    exact h
  split
  · show (idsP (eqS s)).2.2.isSome = true
    rw [e1]
    unfold idsP
    rw [list_bad h]
    exact h
  split
  · exact h
  split
  · exact pick_bad rdC_bad h
  · exact h

/-- Right words behind a conclusion's, by its reader. -/
def BdC (f : FuncId) (M : List (List UInt8)) (d : SL) : Prop :=
  if f = 153 then (M = [] ∧ d = SL.zero) ∨ ∃ i, M = [[58], i] ∧ badN i 1 = false ∧ d = { SL.zero with ids := [i] }
  else if f = 155 then (∃ a b, M = [a, b] ∧ badN a (-1) = false ∧ badN b (-1) = false ∧ d = { SL.zero with low := a, high := b }) ∨ ∃ a i b, M = [a, [58], i, b] ∧ badN a (-1) = false ∧ badN i 1 = false ∧ badN b (-1) = false ∧ d = { SL.zero with low := a, ids := [i], high := b }
  else if f = 157 then ∃ a i, M = [a, [58], i] ∧ badN a 0 = false ∧ badN i 1 = false ∧ d = { SL.zero with high := a, ids := [i] }
  else M = [] ∧ d = SL.zero
/-- Right words behind a line's first, by its reader. -/
def BdF (f : FuncId) (M : List (List UInt8)) (d : SL) : Prop :=
  if f = 83 then ∃ n, M = [n] ∧ badN n 0 = false ∧ d = { SL.zero with n := n }
  else if f = 85 then ∃ F, M ≠ [] ∧ runW M [] = some F ∧ d = { SL.zero with ops := F }
  else if f = 87 then ∃ P deg ids, M = rowT P deg ++ ids ∧ (∀ o ∈ P, okPc o) ∧ badN deg (-1) = false ∧ (∀ x ∈ ids, badN x 1 = false) ∧ d = { SL.zero with pcs := P, deg := deg, ids := ids }
  else if f = 89 then ∃ i P deg, M = i :: rowT P deg ∧ badN i 1 = false ∧ (∀ o ∈ P, okPc o) ∧ badN deg (-1) = false ∧ d = { SL.zero with pcs := P, deg := deg, ids := [i] }
  else if f = 91 then ∃ l, M = l.map litT ∧ (∀ n ∈ l, okLi n) ∧ d = { SL.zero with lits := l }
  else if f = 93 then ∃ i ids, M = i :: ids ∧ badN i 1 = false ∧ (∀ x ∈ ids, badN x 1 = false) ∧ d = { SL.zero with ids := i :: ids }
  else if f = 95 then M = [] ∧ d = SL.zero
  else if f = 96 then ∃ g ∈ claimsL, ∃ N e, M = fmW g ++ N ∧ BdC g.2.2.1 N e ∧ d = { e with ends := g.1 }
  else M = [] ∧ d = SL.zero

theorem next_none {s : Ls} (h : (nextP s).2.2 = none) : s.2 = none := by
  cases hs : s.2 with
  | none => rfl
  | some z => rw [next_bad (by rw [hs]; rfl)] at h; simp only [] at h; rw [hs] at h; cases h
theorem lean_ok {x : List UInt8} {s : Ls} {L : List (List UInt8)} (h : Tk s.1 L) (hn : (leanP x s).2.2 = none) : x = [58] ∧ ∃ i M r', L = i :: M ∧ badN i 1 = false ∧ leanP x s = (i, (r', none)) ∧ Tk r' M ∧ s.2 = none := by
  unfold leanP at hn
  simp only [] at hn
  obtain ⟨w1, w2, w3⟩ := whole_ok hn
  have hl := next_none w3
  have hx : x = [58] := by
    unfold leanS at hl
    split at hl
    · assumption
    · exact (none_some hl (fail_some _ _)).elim
  have e : leanS x s = s := by unfold leanS; rw [if_pos hx]
  rw [e] at w1 w2 w3 hl
  obtain ⟨i, M, r', c1, c2, c3, c4⟩ := next_ok h w3
  rw [c2] at w1 w2
  refine ⟨hx, i, M, r', c1, w1, ?_, c3, c4⟩
  unfold leanP
  rw [e, c2]
  simp only []
  rw [whole_yes w1]
theorem lean_yes {r : List UInt8} {i : List UInt8} {M : List (List UInt8)} (h : Tk r (i :: M)) (hi : badN i 1 = false) : ∃ r', leanP [58] (r, none) = (i, (r', none)) ∧ Tk r' M := by
  obtain ⟨r', c1, c2⟩ := tk_next h
  refine ⟨r', ?_, c2⟩
  have e : leanS [58] (r, none) = (r, none) := by unfold leanS; rw [if_pos rfl]
  unfold leanP
  rw [e, c1]
  simp only []
  rw [whole_yes hi]
theorem rdC_ok {f : FuncId} {r : List UInt8} {M : List (List UInt8)} (h : Tk r M) (hn : (endP (rdC f (r, none)).2).2 = none) : BdC f M (rdC f (r, none)).1 := by
  unfold BdC rdC at *
  split at hn
  · rename_i hf
    rw [if_pos hf, if_pos hf]
    unfold unsatP at hn ⊢
    cases M with
    | nil =>
      rw [tk_stop h]
      exact .inl ⟨rfl, rfl⟩
    | cons x M =>
      obtain ⟨r1, c1, c2⟩ := tk_take h
      rw [c1] at hn ⊢
      simp only [if_true] at hn ⊢
      have hz : (leanP x (r1, none)).2.2 = none := by
        cases hs : (leanP x (r1, none)).2.2 with
        | none => rfl
        | some z => unfold endP at hn; rw [take_bad (by rw [hs]; rfl)] at hn; simp [hs] at hn
      obtain ⟨hx, i, M2, r2, d1, d2, d3, d4, _⟩ := lean_ok (s := (r1, none)) c2 hz
      rw [d3] at hn ⊢
      have := (end_ok (s := (r2, none)) d4 hn).1
      subst this
      exact .inr ⟨i, by rw [hx, d1], d2, rfl⟩
  · rename_i hf
    rw [if_neg hf, if_neg hf]
    split at hn
    · rename_i hf2
      rw [if_pos hf2, if_pos hf2]
      unfold boundsP at hn ⊢
      split at hn
      · rename_i hb
        rw [if_pos hb]
        simp only [] at hn
        have h1 : (bdS (r, none)).2 = none := by
          cases hs : (bdS (r, none)).2 with
          | none => rfl
          | some z => unfold endP at hn; rw [take_bad (by rw [hs]; rfl)] at hn; simp [hs] at hn
        have h1' := h1
        unfold bdS at h1'
        obtain ⟨w1, w2, w3⟩ := whole_ok h1'
        have h2 := next_none w3
        have h2' := h2
        unfold bdI at h2'
        have h3 : (bdB (r, none)).2 = none := by
          cases hs : (bdB (r, none)).2 with
          | none => rfl
          | some z => rw [lean_bad (by rw [hs]; rfl), hs] at h2'; cases h2'
        have h3' := h3
        unfold bdB at h3'
        have h4 := next_none h3'
        have h4' := h4
        unfold bdA at h4'
        obtain ⟨v1, v2, v3⟩ := whole_ok h4'
        obtain ⟨a, M1, r1, c1, c2, c3, _⟩ := next_ok (s := (r, none)) h v3
        have eA : bdA (r, none) = (r1, none) := by unfold bdA; rw [v2, c2]
        rw [c2] at v1
        rw [eA] at h3'
        obtain ⟨x, M2, r2, d1, d2, d3, _⟩ := next_ok (s := (r1, none)) c3 h3'
        have eX : bdX (r, none) = x := by unfold bdX; rw [eA, d2]
        have eB : bdB (r, none) = (r2, none) := by unfold bdB; rw [eA, d2]
        rw [eX, eB] at h2'
        obtain ⟨hx, i, M3, r3, e1, e2, e3, e4, _⟩ := lean_ok (s := (r2, none)) d3 h2'
        have eI : bdI (r, none) = (i, (r3, none)) := by unfold bdI; rw [eX, eB, e3]
        rw [eI] at w1 w2 w3
        obtain ⟨b, M4, r4, f1, f2, f3, _⟩ := next_ok (s := (r3, none)) e4 w3
        rw [f2] at w1 w2
        have eS : bdS (r, none) = (r4, none) := by unfold bdS; rw [eI]; simp only []; rw [f2]; simp only []; exact w2
        rw [eS] at hn
        have := (end_ok (s := (r4, none)) f3 hn).1
        subst this
        refine .inr ⟨a, i, b, by rw [c1, d1, hx, e1, f1], v1, e2, w1, ?_⟩
        rw [c2, eI]
        simp only []
        rw [f2]
      · rename_i hb
        rw [if_neg hb]
        simp only [] at hn
        have h1 : (wholeP (bdX (r, none)) (-1) (bdB (r, none))).2 = none := by
          cases hs : (wholeP (bdX (r, none)) (-1) (bdB (r, none))).2 with
          | none => rfl
          | some z => unfold endP at hn; rw [take_bad (by rw [hs]; rfl)] at hn; simp [hs] at hn
        obtain ⟨w1, w2, w3⟩ := whole_ok h1
        have h3' := w3
        unfold bdB at h3'
        have h4 := next_none h3'
        have h4' := h4
        unfold bdA at h4'
        obtain ⟨v1, v2, v3⟩ := whole_ok h4'
        obtain ⟨a, M1, r1, c1, c2, c3, _⟩ := next_ok (s := (r, none)) h v3
        have eA : bdA (r, none) = (r1, none) := by unfold bdA; rw [v2, c2]
        rw [c2] at v1
        rw [eA] at h3'
        obtain ⟨x, M2, r2, d1, d2, d3, _⟩ := next_ok (s := (r1, none)) c3 h3'
        have eX : bdX (r, none) = x := by unfold bdX; rw [eA, d2]
        have eB : bdB (r, none) = (r2, none) := by unfold bdB; rw [eA, d2]
        rw [w2, eB] at hn
        rw [eX] at w1
        have := (end_ok (s := (r2, none)) d3 hn).1
        subst this
        refine .inl ⟨a, x, by rw [c1, d1], v1, w1, ?_⟩
        rw [c2, eX]
    · rename_i hf2
      rw [if_neg hf2, if_neg hf2]
      split at hn
      · rename_i hf3
        rw [if_pos hf3, if_pos hf3]
        unfold allP at hn ⊢
        simp only [] at hn
        have h1 : (allR (r, none)).2.2 = none := by
          cases hs : (allR (r, none)).2.2 with
          | none => rfl
          | some z => unfold endP at hn; rw [take_bad (by rw [hs]; rfl)] at hn; simp [hs] at hn
        have h1' := h1
        unfold allR at h1'
        have h2 : (nextP (allS (r, none))).2.2 = none := by
          cases hs : (nextP (allS (r, none))).2.2 with
          | none => rfl
          | some z => rw [lean_bad (by rw [hs]; rfl), hs] at h1'; cases h1'
        have h3 := next_none h2
        have h3' := h3
        unfold allS at h3'
        obtain ⟨v1, v2, v3⟩ := whole_ok h3'
        obtain ⟨a, M1, r1, c1, c2, c3, _⟩ := next_ok (s := (r, none)) h v3
        have eS : allS (r, none) = (r1, none) := by unfold allS; rw [v2, c2]
        rw [c2] at v1
        rw [eS] at h2
        obtain ⟨x, M2, r2, d1, d2, d3, _⟩ := next_ok (s := (r1, none)) c3 h2
        rw [eS, d2] at h1'
        obtain ⟨hx, i, M3, r3, e1, e2, e3, e4, _⟩ := lean_ok (s := (r2, none)) d3 h1'
        have eR : allR (r, none) = (i, (r3, none)) := by unfold allR; rw [eS, d2]; exact e3
        rw [eR] at hn
        have := (end_ok (s := (r3, none)) e4 hn).1
        subst this
        have hx' : x = [58] := hx
        refine ⟨a, i, by rw [c1, d1, hx', e1], v1, e2, ?_⟩
        unfold allY
        rw [c2, eR]
      · rename_i hf3
        rw [if_neg hf3, if_neg hf3]
        exact ⟨(end_ok (s := (r, none)) h hn).1, rfl⟩
theorem rdC_yes {f : FuncId} {r : List UInt8} {M : List (List UInt8)} {d : SL} (h : Tk r M) (hb : BdC f M d) : ∃ r', rdC f (r, none) = (d, (r', none)) ∧ Tk r' [] := by
  unfold BdC at hb
  unfold rdC
  split at hb
  · rename_i hf
    rw [if_pos hf]
    unfold unsatP
    rcases hb with ⟨rfl, rfl⟩ | ⟨i, rfl, hi, rfl⟩
    · rw [tk_stop h]
      exact ⟨r, rfl, h⟩
    · obtain ⟨r1, c1, c2⟩ := tk_take h
      rw [c1]
      simp only [if_true]
      obtain ⟨r2, d1, d2⟩ := lean_yes c2 hi
      rw [d1]
      exact ⟨r2, rfl, d2⟩
  · rename_i hf
    rw [if_neg hf]
    split at hb
    · rename_i hf2
      rw [if_pos hf2]
      unfold boundsP
      rcases hb with ⟨a, b, rfl, ha, hb, rfl⟩ | ⟨a, i, b, rfl, ha, hi, hb, rfl⟩
      · obtain ⟨r1, c1, c2⟩ := tk_next h
        obtain ⟨r2, d1, d2⟩ := tk_next c2
        have eA : bdA (r, none) = (r1, none) := by unfold bdA; rw [c1]; exact whole_yes ha
        have eX : bdX (r, none) = b := by unfold bdX; rw [eA, d1]
        have eB : bdB (r, none) = (r2, none) := by unfold bdB; rw [eA, d1]
        rw [if_neg (by rw [eX]; exact bad_not hb 58 (by decide) []), eX, eB, c1, whole_yes hb]
        exact ⟨r2, rfl, d2⟩
      · obtain ⟨r1, c1, c2⟩ := tk_next h
        obtain ⟨r2, d1, d2⟩ := tk_next c2
        have eA : bdA (r, none) = (r1, none) := by unfold bdA; rw [c1]; exact whole_yes ha
        have eX : bdX (r, none) = [58] := by unfold bdX; rw [eA, d1]
        have eB : bdB (r, none) = (r2, none) := by unfold bdB; rw [eA, d1]
        obtain ⟨r3, e1, e2⟩ := lean_yes d2 hi
        have eI : bdI (r, none) = (i, (r3, none)) := by unfold bdI; rw [eX, eB, e1]
        obtain ⟨r4, f1, f2⟩ := tk_next e2
        have eS : bdS (r, none) = (r4, none) := by unfold bdS; rw [eI]; simp only []; rw [f1]; exact whole_yes hb
        rw [if_pos eX, eI, eS, c1]
        simp only []
        rw [f1]
        exact ⟨r4, rfl, f2⟩
    · rename_i hf2
      rw [if_neg hf2]
      split at hb
      · rename_i hf3
        rw [if_pos hf3]
        obtain ⟨a, i, rfl, ha, hi, rfl⟩ := hb
        obtain ⟨r1, c1, c2⟩ := tk_next h
        obtain ⟨r2, d1, d2⟩ := tk_next c2
        have eS : allS (r, none) = (r1, none) := by unfold allS; rw [c1]; exact whole_yes ha
        obtain ⟨r3, e1, e2⟩ := lean_yes d2 hi
        have eR : allR (r, none) = (i, (r3, none)) := by unfold allR; rw [eS, d1]; exact e1
        unfold allP allY
        rw [eR, c1]
        exact ⟨r3, rfl, e2⟩
      · rename_i hf3
        rw [if_neg hf3]
        obtain ⟨rfl, rfl⟩ := hb
        exact ⟨r, rfl, h⟩
end Go.Proofs.YtibbnijicdijnaaGreatDoor

namespace Go.Proofs.YtibbnijicdijnaaGreatDoor
open Go.RowKit

theorem end_bad {s : Ls} (h : (endP s).2 = none) : s.2 = none := by
  cases hs : s.2 with
  | none => rfl
  | some z => unfold endP at h; rw [take_bad (by rw [hs]; rfl)] at h; simp [hs] at h
theorem ids_ok {s : Ls} {L : List (List UInt8)} (h : Tk s.1 L) (hn : (idsP s).2.2 = none) : (∀ x ∈ L, badN x 1 = false) ∧ (∃ r', idsP s = (L, (r', none)) ∧ Tk r' []) ∧ s.2 = none :=
  list_ok (ok := fun x => badN x 1 = false) (fun _ _ h => ⟨(whole_ok h).1, (whole_ok h).2.1⟩) h hn
theorem ids_yes {r : List UInt8} {L : List (List UInt8)} (h : Tk r L) (ho : ∀ x ∈ L, badN x 1 = false) : ∃ r', idsP (r, none) = (L, (r', none)) ∧ Tk r' [] :=
  list_yes (ok := fun x => badN x 1 = false) (fun _ _ h => whole_yes h) h ho
theorem eqS_ok {s : Ls} {L : List (List UInt8)} (h : Tk s.1 L) (hn : (eqS s).2 = none) : ∃ i M r', L = i :: M ∧ badN i 1 = false ∧ eqY s = i ∧ eqS s = (r', none) ∧ Tk r' M ∧ s.2 = none := by
  unfold eqS at hn
  obtain ⟨v1, v2, v3⟩ := whole_ok hn
  obtain ⟨i, M, r', c1, c2, c3, c4⟩ := next_ok h v3
  rw [c2] at v1
  exact ⟨i, M, r', c1, v1, by unfold eqY; rw [c2], by unfold eqS; rw [v2, c2], c3, c4⟩
theorem eqS_yes {r i : List UInt8} {M : List (List UInt8)} (h : Tk r (i :: M)) (hi : badN i 1 = false) : ∃ r', eqY (r, none) = i ∧ eqS (r, none) = (r', none) ∧ Tk r' M := by
  obtain ⟨r', c1, c2⟩ := tk_next h
  exact ⟨r', by unfold eqY; rw [c1], by unfold eqS; rw [c1]; exact whole_yes hi, c2⟩
theorem map_back : ∀ L : List (List UInt8), (∀ x ∈ L, (litP x).2 = true) → (L.map fun x => (litP x).1).map litT = L := by
  intro L
  induction L with
  | nil => intro _; rfl
  | cons x L ih => intro h; simp only [List.map_cons]; rw [lit_back (h x List.mem_cons_self), ih fun y hy => h y (List.mem_cons_of_mem _ hy)]
theorem rdF_ok {f : FuncId} {r : List UInt8} {M : List (List UInt8)} (h : Tk r M) (hn : (endP (rdF f (r, none)).2).2 = none) : BdF f (if f = 95 then [] else M) (rdF f (r, none)).1 := by
  unfold BdF rdF at *
  split at hn
  · rename_i hf
    rw [if_pos hf, if_pos hf, if_neg (by rw [hf]; decide)]
    have h1 := end_bad hn
    simp only [] at h1 hn
    have h1' := h1
    unfold sizeP at h1'
    obtain ⟨v1, v2, v3⟩ := whole_ok h1'
    obtain ⟨n, M1, r1, c1, c2, c3, _⟩ := next_ok (s := (r, none)) h v3
    have e : sizeP (r, none) = (n, (r1, none)) := by unfold sizeP; rw [v2, c2]
    rw [c2] at v1
    rw [e] at hn
    have := (end_ok (s := (r1, none)) c3 hn).1
    subst this
    exact ⟨n, c1, v1, by rw [e]⟩
  rename_i hf1
  rw [if_neg hf1, if_neg hf1]
  split at hn
  · rename_i hf
    rw [if_pos hf, if_pos hf, if_neg (by rw [hf]; decide)]
    have h1 := end_bad hn
    simp only [] at h1 hn
    obtain ⟨F, r1, c1, c2, c3, c4, _⟩ := ops_ok (s := (r, none)) h h1
    exact ⟨F, c1, c2, by rw [c3]⟩
  rename_i hf2
  rw [if_neg hf2, if_neg hf2]
  split at hn
  · rename_i hf
    rw [if_pos hf, if_pos hf, if_neg (by rw [hf]; decide)]
    have h1 := end_bad hn
    simp only [] at h1 hn
    have h2 : (rowP (r, none)).2.2 = none := by
      cases hs : (rowP (r, none)).2.2 with
      | none => rfl
      | some z => unfold idsP at h1; rw [list_bad (by rw [hs]; rfl)] at h1; simp only [] at h1; rw [hs] at h1; cases h1
    obtain ⟨P, deg, L2, r1, c1, c2, c3, c4, c5, _⟩ := row_ok (s := (r, none)) h h2
    rw [c4] at h1 hn ⊢
    obtain ⟨d1, ⟨r2, d2, d3⟩, _⟩ := ids_ok (s := (r1, none)) c5 h1
    exact ⟨P, deg, L2, c1, c2, c3, d1, by rw [d2]⟩
  rename_i hf3
  rw [if_neg hf3, if_neg hf3]
  split at hn
  · rename_i hf
    rw [if_pos hf, if_pos hf, if_neg (by rw [hf]; decide)]
    have h1 := end_bad hn
    simp only [] at h1 hn
    have h2 : (eqS (r, none)).2 = none := by
      cases hs : (eqS (r, none)).2 with
      | none => rfl
      | some z => rw [rowP_bad (by rw [hs]; rfl), hs] at h1; cases h1
    obtain ⟨i, M1, r1, b1, b2, b3, b4, b5, _⟩ := eqS_ok (s := (r, none)) h h2
    rw [b4] at h1 hn ⊢
    obtain ⟨P, deg, L2, r2, c1, c2, c3, c4, c5, _⟩ := row_ok (s := (r1, none)) b5 h1
    rw [c4] at hn ⊢
    have := (end_ok (s := (r2, none)) c5 hn).1
    subst this
    exact ⟨i, P, deg, by rw [b1, c1, List.append_nil], b2, c2, c3, by rw [b3]⟩
  rename_i hf4
  rw [if_neg hf4, if_neg hf4]
  split at hn
  · rename_i hf
    rw [if_pos hf, if_pos hf, if_neg (by rw [hf]; decide)]
    have h1 := end_bad hn
    simp only [] at h1 hn
    obtain ⟨d1, ⟨r2, d2, d3⟩, _⟩ := list_ok (ok := fun x => (litP x).2 = true) (fun _ _ h => ⟨(literal_ok h).1, (literal_ok h).2.1⟩) (s := (r, none)) h h1
    refine ⟨M.map fun x => (litP x).1, (map_back M d1).symm, ?_, by rw [d2]⟩
    intro n hn
    obtain ⟨x, hx, rfl⟩ := List.mem_map.1 hn
    exact lit_ok (d1 x hx)
  rename_i hf5
  rw [if_neg hf5, if_neg hf5]
  split at hn
  · rename_i hf
    rw [if_pos hf, if_pos hf, if_neg (by rw [hf]; decide)]
    have h1 := end_bad hn
    simp only [] at h1 hn
    have h2 : (eqS (r, none)).2 = none := by
      cases hs : (eqS (r, none)).2 with
      | none => rfl
      | some z => unfold idsP at h1; rw [list_bad (by rw [hs]; rfl)] at h1; simp only [] at h1; rw [hs] at h1; cases h1
    obtain ⟨i, M1, r1, b1, b2, b3, b4, b5, _⟩ := eqS_ok (s := (r, none)) h h2
    rw [b4] at h1 hn ⊢
    obtain ⟨d1, ⟨r2, d2, d3⟩, _⟩ := ids_ok (s := (r1, none)) b5 h1
    exact ⟨i, M1, b1, b2, d1, by rw [b3, d2]⟩
  rename_i hf6
  rw [if_neg hf6, if_neg hf6]
  split at hn
  · rename_i hf
    rw [if_pos hf, if_pos hf, if_pos hf]
    exact ⟨rfl, rfl⟩
  rename_i hf7
  rw [if_neg hf7, if_neg hf7, if_neg hf7]
  split at hn
  · rename_i hf
    rw [if_pos hf, if_pos hf]
    have h1 := end_bad hn
    unfold endsP at h1 hn ⊢
    simp only [] at h1 hn ⊢
    obtain ⟨g, hg, N, r1, c1, c2, c3, _⟩ := pick_ok rdC_bad (s := (r, none)) h h1
    rw [c3] at hn ⊢
    exact ⟨g, hg, N, _, c1, rdC_ok c2 hn, rfl⟩
  · rename_i hf8
    rw [if_neg hf8, if_neg hf8]
    exact ⟨(end_ok (s := (r, none)) h hn).1, rfl⟩
theorem claims_find (g : FmL) (hg : g ∈ claimsL) : (claimsL.find? fun h => decide (fstW g = fstW h)) = some g := by
  simp only [claimsL, List.mem_cons, List.not_mem_nil, or_false] at hg
  rcases hg with rfl | rfl | rfl | rfl | rfl <;> kernel_rfl
theorem forms_find (g : FmL) (hg : g ∈ formsL) : (formsL.find? fun h => decide (fstW g = fstW h)) = some g := by
  simp only [formsL, List.mem_cons, List.not_mem_nil, or_false] at hg
  rcases hg with rfl | rfl | rfl | rfl | rfl | rfl | rfl | rfl | rfl | rfl | rfl | rfl <;> kernel_rfl
theorem rdF_yes {f : FuncId} {r : List UInt8} {M : List (List UInt8)} {d : SL} (h : Tk r M) (hb : BdF f M d) : ∃ r', rdF f (r, none) = (d, (r', none)) ∧ Tk r' [] := by
  unfold BdF at hb
  unfold rdF
  split at hb
  · rename_i hf
    rw [if_pos hf]
    obtain ⟨n, rfl, hn, rfl⟩ := hb
    obtain ⟨r1, c1, c2⟩ := tk_next h
    have e : sizeP (r, none) = (n, (r1, none)) := by unfold sizeP; rw [c1]; simp only []; rw [whole_yes hn]
    rw [e]
    exact ⟨r1, rfl, c2⟩
  rename_i hf1
  rw [if_neg hf1]
  split at hb
  · rename_i hf
    rw [if_pos hf]
    obtain ⟨F, h0, hr, rfl⟩ := hb
    obtain ⟨r1, c1, c2⟩ := ops_yes h h0 hr
    rw [c1]
    exact ⟨r1, rfl, c2⟩
  rename_i hf2
  rw [if_neg hf2]
  split at hb
  · rename_i hf
    rw [if_pos hf]
    obtain ⟨P, deg, ids, rfl, hP, hd, hi, rfl⟩ := hb
    obtain ⟨r1, c1, c2⟩ := row_yes h hP hd
    obtain ⟨r2, d1, d2⟩ := ids_yes c2 hi
    rw [c1]
    simp only []
    rw [d1]
    exact ⟨r2, rfl, d2⟩
  rename_i hf3
  rw [if_neg hf3]
  split at hb
  · rename_i hf
    rw [if_pos hf]
    obtain ⟨i, P, deg, rfl, hi, hP, hd, rfl⟩ := hb
    obtain ⟨r1, b1, b2, b3⟩ := eqS_yes h hi
    obtain ⟨r2, c1, c2⟩ := row_yes (L2 := []) (by rw [List.append_nil]; exact b3) hP hd
    rw [b1, b2, c1]
    exact ⟨r2, rfl, c2⟩
  rename_i hf4
  rw [if_neg hf4]
  split at hb
  · rename_i hf
    rw [if_pos hf]
    obtain ⟨l, rfl, hl, rfl⟩ := hb
    obtain ⟨r1, c1, c2⟩ := list_yes (rd := literalP) (ok := fun x => (litP x).2 = true) (fun _ _ h => literal_yes h) h (fun x hx => by obtain ⟨n, hn, rfl⟩ := List.mem_map.1 hx; exact (hl n hn).two.1)
    rw [c1]
    refine ⟨r1, ?_, c2⟩
    have : (l.map litT).map (fun x => (litP x).1) = l := by
      rw [List.map_map]
      conv => rhs; rw [← List.map_id l]
      exact List.map_congr_left fun n hn => (hl n hn).two.2
    simp only []
    rw [this]
  rename_i hf5
  rw [if_neg hf5]
  split at hb
  · rename_i hf
    rw [if_pos hf]
    obtain ⟨i, ids, rfl, hi, hd, rfl⟩ := hb
    obtain ⟨r1, b1, b2, b3⟩ := eqS_yes h hi
    obtain ⟨r2, d1, d2⟩ := ids_yes b3 hd
    rw [b1, b2, d1]
    exact ⟨r2, rfl, d2⟩
  rename_i hf6
  rw [if_neg hf6]
  split at hb
  · rename_i hf
    rw [if_pos hf]
    obtain ⟨rfl, rfl⟩ := hb
    exact ⟨[], rfl, rfl⟩
  rename_i hf7
  rw [if_neg hf7]
  split at hb
  · rename_i hf
    rw [if_pos hf]
    obtain ⟨g, hg, N, e, rfl, hB, rfl⟩ := hb
    obtain ⟨r1, c1, c2⟩ := pick_yes (rd := rdC) g (claims_find g hg) h
    obtain ⟨r2, d1, d2⟩ := rdC_yes c2 hB
    rw [d1] at c1
    unfold endsP
    rw [c1]
    exact ⟨r2, rfl, d2⟩
  · rename_i hf8
    rw [if_neg hf8]
    obtain ⟨rfl, rfl⟩ := hb
    exact ⟨r, rfl, h⟩

/-- A step that has a line, and the words of its line. -/
def Rgt (L : List (List UInt8)) (d : SL) : Prop := ∃ f ∈ formsL, ∃ M e, L = fmW f ++ M ∧ BdF f.2.2.1 M e ∧ d = { e with k := f.1 }
theorem trim_blank {y : List UInt8} (h : (trimR y).dropWhile blk = []) : y.dropWhile blk = [] := by
  have all : ∀ l : List UInt8, l.dropWhile blk = [] → ∀ c ∈ l, blk c = true := by
    intro l
    induction l with
    | nil => intro _ c hc; exact absurd hc List.not_mem_nil
    | cons d l ih =>
      intro hl c hc
      by_cases hd : blk d = true
      · rw [List.dropWhile_cons_of_pos hd] at hl
        rcases List.mem_cons.1 hc with rfl | hc
        · exact hd
        · exact ih hl c hc
      · rw [List.dropWhile_cons_of_neg hd] at hl; cases hl
  have back : ∀ l : List UInt8, (∀ c ∈ l, blk c = true) → l.dropWhile blk = [] := by
    intro l
    induction l with
    | nil => intro _; rfl
    | cons d l ih => intro hl; rw [List.dropWhile_cons_of_pos (hl d List.mem_cons_self)]; exact ih fun c hc => hl c (List.mem_cons_of_mem _ hc)
  refine back y fun c hc => ?_
  have h1 := all _ h
  have e : y = trimR y ++ (y.reverse.takeWhile blk).reverse := by
    unfold trimR
    rw [← List.reverse_append, List.takeWhile_append_dropWhile, List.reverse_reverse]
  rw [e] at hc
  rcases List.mem_append.1 hc with hc | hc
  · exact h1 c hc
  · exact List.all_eq_true.1 (List.all_takeWhile (l := y.reverse) (p := blk)) c (List.mem_reverse.1 hc)
theorem note_right : Rgt [[42]] { SL.zero with k := 7 } := ⟨(7, [42], 95, 82), by simp [formsL], [], SL.zero, by kernel_rfl, ⟨rfl, rfl⟩, rfl⟩
theorem read_right {x : List UInt8} {d : SL} (h : readP x = (d, none)) : ∃ L, Rgt L d ∧ (Tk x L ∨ L = [[42]]) := by
  unfold readP at h
  split at h
  · have : d = { SL.zero with k := 7 } := (Prod.ext_iff.1 h).1.symm
    rw [this]
    exact ⟨_, note_right, .inr rfl⟩
  · have h1 : (endP (pickP formsL rdF (x, none)).2.2).2 = none := (Prod.ext_iff.1 h).2
    have h2 : d = { (pickP formsL rdF (x, none)).2.1 with k := (pickP formsL rdF (x, none)).1 } := (Prod.ext_iff.1 h).1.symm
    obtain ⟨L, hL⟩ := tk_of x
    obtain ⟨f, hf, M, r', c1, c2, c3, _⟩ := pick_ok rdF_bad (s := (x, none)) hL (end_bad h1)
    rw [c3] at h1 h2
    have hb := rdF_ok c2 h1
    refine ⟨fmW f ++ (if f.2.2.1 = 95 then [] else M), ⟨f, hf, _, _, rfl, hb, h2⟩, ?_⟩
    by_cases h95 : f.2.2.1 = 95
    · right
      rw [if_pos h95]
      simp only [formsL, List.mem_cons, List.not_mem_nil, or_false] at hf
      rcases hf with rfl | rfl | rfl | rfl | rfl | rfl | rfl | rfl | rfl | rfl | rfl | rfl <;> first | exact absurd h95 (by decide) | kernel_rfl
    · left
      rw [if_neg h95, ← c1]
      exact hL
theorem right_read {y : List UInt8} {L : List (List UInt8)} {d : SL} (hr : Rgt L d) (h : Tk y L) : readP y = (d, none) := by
  obtain ⟨f, hf, M, e, rfl, hb, rfl⟩ := hr
  have h0 : ¬ (trimR y).dropWhile blk = [] := fun h1 => h.1 (trim_blank h1)
  obtain ⟨r1, c1, c2⟩ := pick_yes (rd := rdF) f (forms_find f hf) h
  obtain ⟨r2, d1, d2⟩ := rdF_yes c2 hb
  rw [d1] at c1
  unfold readP
  rw [if_neg h0, c1]
  simp only []
  rw [end_yes d2]
theorem BdC.good {f : FuncId} {M : List (List UInt8)} {d : SL} (h : BdC f M d) : ∀ x ∈ M, Gw x := by
  have g58 : Gw [58] := ⟨by decide, fun c hc => by simp at hc; subst hc; decide⟩
  unfold BdC at h
  split at h
  · rcases h with ⟨rfl, _⟩ | ⟨i, rfl, hi, _⟩
    · intro x hx; exact absurd hx List.not_mem_nil
    · intro x hx; simp at hx; rcases hx with rfl | rfl
      · exact g58
      · exact bad_good hi
  split at h
  · rcases h with ⟨a, b, rfl, ha, hb, _⟩ | ⟨a, i, b, rfl, ha, hi, hb, _⟩
    · intro x hx; simp at hx; rcases hx with rfl | rfl
      · exact bad_good ha
      · exact bad_good hb
    · intro x hx; simp at hx; rcases hx with rfl | rfl | rfl | rfl
      · exact bad_good ha
      · exact g58
      · exact bad_good hi
      · exact bad_good hb
  split at h
  · obtain ⟨a, i, rfl, ha, hi, _⟩ := h
    intro x hx; simp at hx; rcases hx with rfl | rfl | rfl
    · exact bad_good ha
    · exact g58
    · exact bad_good hi
  · obtain ⟨rfl, _⟩ := h
    intro x hx; exact absurd hx List.not_mem_nil
theorem row_good {P : List PcL} {deg : List UInt8} (hP : ∀ o ∈ P, okPc o) (hd : badN deg (-1) = false) : ∀ x ∈ rowT P deg, Gw x := by
  intro x hx
  unfold rowT at hx
  rcases List.mem_append.1 hx with hx | hx
  · unfold pcsT at hx
    obtain ⟨o, ho, hx⟩ := List.mem_flatMap.1 hx
    simp at hx
    rcases hx with rfl | rfl
    · exact bad_good (hP o ho).1
    · exact (hP o ho).2.good.1
  · simp at hx
    rcases hx with rfl | rfl | rfl
    · exact ⟨by decide, fun c hc => by simp at hc; rcases hc with rfl | rfl <;> decide⟩
    · exact bad_good hd
    · exact ⟨by decide, fun c hc => by simp at hc; subst hc; decide⟩
/-- Words by a test that runs. -/
def gwB (x : List UInt8) : Bool := !x.isEmpty && x.all fun c => !blk c && c != 10
theorem gw_of {x : List UInt8} (h : gwB x = true) : Gw x := by
  unfold gwB at h
  simp only [Bool.and_eq_true, List.all_eq_true, Bool.not_eq_true', bne_iff_ne] at h
  exact ⟨fun e => by rw [e] at h; simp at h, h.2⟩
theorem forms_good (f : FmL) (hf : f ∈ formsL) : ∀ x ∈ fmW f, Gw x := by
  have : ∀ x ∈ fmW f, gwB x = true := by
    simp only [formsL, List.mem_cons, List.not_mem_nil, or_false] at hf
    rw [← List.all_eq_true]
    rcases hf with rfl | rfl | rfl | rfl | rfl | rfl | rfl | rfl | rfl | rfl | rfl | rfl <;> kernel_rfl
  exact fun x hx => gw_of (this x hx)
theorem claims_good (f : FmL) (hf : f ∈ claimsL) : ∀ x ∈ fmW f, Gw x := by
  have : ∀ x ∈ fmW f, gwB x = true := by
    simp only [claimsL, List.mem_cons, List.not_mem_nil, or_false] at hf
    rw [← List.all_eq_true]
    rcases hf with rfl | rfl | rfl | rfl | rfl <;> kernel_rfl
  exact fun x hx => gw_of (this x hx)
theorem BdF.good {f : FuncId} {M : List (List UInt8)} {d : SL} (h : BdF f M d) : ∀ x ∈ M, Gw x := by
  unfold BdF at h
  split at h
  · obtain ⟨n, rfl, hn, _⟩ := h
    intro x hx; simp at hx; rw [hx]; exact bad_good hn
  split at h
  · obtain ⟨F, _, hr, _⟩ := h
    exact (runW_is M [] F hr).2.1
  split at h
  · obtain ⟨P, deg, ids, rfl, hP, hd, hi, _⟩ := h
    intro x hx
    rcases List.mem_append.1 hx with hx | hx
    · exact row_good hP hd x hx
    · exact bad_good (hi x hx)
  split at h
  · obtain ⟨i, P, deg, rfl, hi, hP, hd, _⟩ := h
    intro x hx
    rcases List.mem_cons.1 hx with rfl | hx
    · exact bad_good hi
    · exact row_good hP hd x hx
  split at h
  · obtain ⟨l, rfl, hl, _⟩ := h
    intro x hx
    obtain ⟨n, hn, rfl⟩ := List.mem_map.1 hx
    exact (hl n hn).good.1
  split at h
  · obtain ⟨i, ids, rfl, hi, hd, _⟩ := h
    intro x hx
    rcases List.mem_cons.1 hx with rfl | hx
    · exact bad_good hi
    · exact bad_good (hd x hx)
  split at h
  · obtain ⟨rfl, _⟩ := h
    intro x hx; exact absurd hx List.not_mem_nil
  split at h
  · obtain ⟨g, hg, N, e, rfl, hB, _⟩ := h
    intro x hx
    rcases List.mem_append.1 hx with hx | hx
    · exact claims_good g hg x hx
    · exact hB.good x hx
  · obtain ⟨rfl, _⟩ := h
    intro x hx; exact absurd hx List.not_mem_nil
theorem Rgt.good {L : List (List UInt8)} {d : SL} (h : Rgt L d) : (∀ x ∈ L, Gw x) ∧ L ≠ [] := by
  obtain ⟨f, hf, M, e, rfl, hb, _⟩ := h
  refine ⟨fun x hx => ?_, by simp [fmW]⟩
  rcases List.mem_append.1 hx with hx | hx
  · exact forms_good f hf x hx
  · exact hb.good x hx
end Go.Proofs.YtibbnijicdijnaaGreatDoor
