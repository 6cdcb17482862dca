/-
  Put together: HlMa, HlMb, HlMc.
-/
import Derived.Test.YtemnbcilmbojhaaGreatDoorJ45
namespace Go.Proofs.YtemnbcilmbojhaaGreatDoor

/-- What lies within. -/
def fof (a : Int) (X : List Gr) : Nat → Bool := fun x => X.any fun g => decide (a ≤ g.lo) && decide (x = g.x)
def cnt (a : Int) (X : List Gr) : Int := (X.map fun g => if a ≤ g.lo then g.n else 0).sum
theorem fof_snoc (a : Int) (X : List Gr) (g : Gr) (x : Nat) : fof a (X ++ [g]) x = (fof a X x || (decide (a ≤ g.lo) && decide (x = g.x))) := by
  unfold fof
  rw [List.any_append]
  simp
theorem cnt_snoc (a : Int) (X : List Gr) (g : Gr) : cnt a (X ++ [g]) = cnt a X + if a ≤ g.lo then g.n else 0 := by
  unfold cnt
  rw [List.map_append, List.sum_append]
  simp
theorem cf1_fof (a : Int) (i : Iv) (g : Gr) (X : List Gr) (h1 : i.lo = a) (h2 : i.f = fof a X) (h3 : i.n = cnt a X) : cf1 a i g = ⟨a, g.hi, fof a (X ++ [g]), cnt a (X ++ [g])⟩ := by
  have hf : fof a (X ++ [g]) = fun x => fof a X x || (decide (a ≤ g.lo) && decide (x = g.x)) := funext fun x => fof_snoc a X g x
  unfold cf1
  rw [hf, cnt_snoc]
  by_cases h : a ≤ g.lo
  · rw [if_pos h, if_pos h]
    unfold Iv.with bWith
    dsimp only
    rw [h1, h2, h3]
    congr 1
    funext x
    rw [decide_eq_true h, Bool.true_and, Bool.or_comm]
  · rw [if_neg h, if_neg h, h1, h2, h3, decide_eq_false h]
    congr 1
    · funext x
      simp
    · omega
/-- The groups that end by a number; those that end ahead of it. -/
def leG (t : Int) (X : List Gr) : List Gr := X.filter fun g => decide (g.hi ≤ t)
def ltG (t : Int) (X : List Gr) : List Gr := X.filter fun g => decide (g.hi < t)
def ivO (a t : Int) (X : List Gr) : Iv := ⟨a, t, fof a (leG t X), cnt a (leG t X)⟩
def ivC (a t : Int) (X : List Gr) : Prop := sameB (ivO a t X).f (fof a (ltG t X)) = false ∧ (ivO a t X).num ≤ (ivO a t X).n
structure CfV (a : Int) (X R : List Gr) (S : CfS) : Prop where
  lo : S.i.lo = a
  f : S.i.f = fof a X
  n : S.i.n = cnt a X
  nar : ∀ g R', R = g :: R' → S.nar = fof a (ltG g.hi X)
theorem sorted_le {X R : List Gr} {g : Gr} (h : (X ++ g :: R).Pairwise fun a b => a.hi ≤ b.hi) (hn : nxE g R = false) : leG g.hi (X ++ g :: R) = X ++ [g] ∧ ltG g.hi (X ++ g :: R) = ltG g.hi X := by
  rw [List.pairwise_append] at h
  obtain ⟨_, h2, h3⟩ := h
  have hX : ∀ y ∈ X, y.hi ≤ g.hi := fun y hy => h3 y hy g (by simp)
  have hR : ∀ y ∈ R, g.hi < y.hi := by
    rw [List.pairwise_cons] at h2
    cases R with
    | nil => intro y hy; exact absurd hy (by simp)
    | cons r R =>
      have hr : ¬ r.hi = g.hi := of_decide_eq_false hn
      have h1 := h2.1 r (by simp)
      have h4 := List.pairwise_cons.1 h2.2
      intro y hy
      rcases List.mem_cons.1 hy with rfl | hy
      · omega
      · have := h4.1 y hy
        omega
  constructor
  · unfold leG
    rw [List.filter_append, List.filter_cons, if_pos (by simp)]
    rw [List.filter_eq_self.2 (fun y hy => by simpa using hX y hy), List.filter_eq_nil_iff.2 (fun y hy => by have := hR y hy; simp; omega)]
  · unfold ltG
    have hz : R.filter (fun y => decide (y.hi < g.hi)) = [] := List.filter_eq_nil_iff.2 (fun y hy => by have := hR y hy; simp; omega)
    rw [List.filter_append, List.filter_cons, if_neg (by simp), hz, List.append_nil]
theorem cfR_mem (a : Int) (Gs : List Gr) (hs : Gs.Pairwise fun a b => a.hi ≤ b.hi) : ∀ (R X : List Gr) (S : CfS), Gs = X ++ R → CfV a X R S → ∀ i, i ∈ (cfR a S R).out ↔ (i ∈ S.out ∨ ∃ g ∈ R, i = ivO a g.hi Gs ∧ ivC a g.hi Gs) := by
  intro R
  induction R with
  | nil => intro X S _ _ i; simp [cfR]
  | cons g R ih =>
    intro X S hG hV i
    have e1 := cf1_fof a S.i g X hV.lo hV.f hV.n
    have hG2 : Gs = (X ++ [g]) ++ R := by rw [hG]; simp
    have hnar := hV.nar g R rfl
    show i ∈ (cfR a (cfStep a S g R) R).out ↔ _
    cases hn : nxE g R with
    | true =>
      have es : cfStep a S g R = ⟨cf1 a S.i g, S.nar, S.out⟩ := by unfold cfStep; rw [if_pos hn]
      rw [es]
      obtain ⟨r, R', rfl⟩ : ∃ r R', R = r :: R' := by
        cases R with
        | nil => cases hn
        | cons r R' => exact ⟨r, R', rfl⟩
      have hr : r.hi = g.hi := of_decide_eq_true hn
      rw [ih (X ++ [g]) ⟨cf1 a S.i g, S.nar, S.out⟩ hG2 ?_ i]
      · refine or_congr Iff.rfl ?_
        constructor
        · rintro ⟨y, hy, h⟩
          exact ⟨y, List.mem_cons_of_mem _ hy, h⟩
        · rintro ⟨y, hy, h⟩
          rcases List.mem_cons.1 hy with rfl | hy
          · exact ⟨r, by simp, by rw [hr]; exact h⟩
          · exact ⟨y, hy, h⟩
      · refine ⟨by rw [e1], by rw [e1], by rw [e1], ?_⟩
        intro g' R'' he
        injection he with he _
        subst he
        show S.nar = _
        rw [hnar, hr]
        congr 1
        unfold ltG
        rw [List.filter_append]
        simp
    | false =>
      obtain ⟨l1, l2⟩ := sorted_le (by rw [← hG]; exact hs) hn
      rw [← hG] at l1 l2
      have ei : cf1 a S.i g = ivO a g.hi Gs := by rw [e1]; unfold ivO; rw [l1]
      have es : cfStep a S g R = ⟨ivO a g.hi Gs, (ivO a g.hi Gs).f, if (!sameB (ivO a g.hi Gs).f S.nar && decide ((ivO a g.hi Gs).num ≤ (ivO a g.hi Gs).n)) then S.out ++ [ivO a g.hi Gs] else S.out⟩ := by
        unfold cfStep
        rw [hn, ei]
        rfl
      rw [es]
      rw [ih (X ++ [g]) _ hG2 ?_ i]
      · have hc : (!sameB (ivO a g.hi Gs).f S.nar && decide ((ivO a g.hi Gs).num ≤ (ivO a g.hi Gs).n)) = true ↔ ivC a g.hi Gs := by
          unfold ivC
          rw [l2, ← hnar]
          simp
        dsimp only
        by_cases hcc : ivC a g.hi Gs
        · rw [if_pos (hc.2 hcc), List.mem_append, List.mem_singleton]
          constructor
          · rintro ((h | h) | ⟨y, hy, h⟩)
            · exact .inl h
            · exact .inr ⟨g, by simp, h, hcc⟩
            · exact .inr ⟨y, List.mem_cons_of_mem _ hy, h⟩
          · rintro (h | ⟨y, hy, h, h'⟩)
            · exact .inl (.inl h)
            · rcases List.mem_cons.1 hy with rfl | hy
              · exact .inl (.inr h)
              · exact .inr ⟨y, hy, h, h'⟩
        · rw [if_neg (fun h => hcc (hc.1 h))]
          constructor
          · rintro (h | ⟨y, hy, h⟩)
            · exact .inl h
            · exact .inr ⟨y, List.mem_cons_of_mem _ hy, h⟩
          · rintro (h | ⟨y, hy, h, h'⟩)
            · exact .inl h
            · rcases List.mem_cons.1 hy with rfl | hy
              · exact absurd h' hcc
              · exact .inr ⟨y, hy, h, h'⟩
      · refine ⟨rfl, ?_, ?_, ?_⟩
        · show (ivO a g.hi Gs).f = _
          unfold ivO
          rw [l1]
        · show (ivO a g.hi Gs).n = _
          unfold ivO
          rw [l1]
        · intro g' R' he
          show (ivO a g.hi Gs).f = _
          unfold ivO
          rw [l1]
          dsimp only
          congr 1
          unfold ltG
          symm
          rw [List.filter_eq_self]
          intro y hy
          have hne : ¬ g'.hi = g.hi := by
            subst he
            exact of_decide_eq_false hn
          rw [hG, he, List.pairwise_append] at hs
          obtain ⟨_, h2, h3⟩ := hs
          have h4 := (List.pairwise_cons.1 h2).1 g' (by simp)
          rcases List.mem_append.1 hy with hy | hy
          · have := h3 y hy g (by simp)
            simp
            omega
          · rw [List.mem_singleton.1 hy]
            simp
            omega
theorem cfL_mem {a : Int} {Gs : List Gr} (hs : Gs.Pairwise fun a b => a.hi ≤ b.hi) (i : Iv) : i ∈ cfL a Gs ↔ ∃ g ∈ Gs, i = ivO a g.hi Gs ∧ ivC a g.hi Gs := by
  unfold cfL
  rw [cfR_mem a Gs hs Gs [] (cf0 a) (by simp) ⟨rfl, rfl, rfl, fun _ _ _ => rfl⟩ i]
  simp [cf0]
end Go.Proofs.YtemnbcilmbojhaaGreatDoor

namespace Go.Proofs.YtemnbcilmbojhaaGreatDoor

theorem sum_perm {l l' : List Int} (h : l.Perm l') : l.sum = l'.sum := by
  induction h with
  | nil => rfl
  | cons x _ ih => simp [ih]
  | swap x y l => simp; omega
  | trans _ _ h1 h2 => exact h1.trans h2
theorem fof_perm {a : Int} {X Y : List Gr} (h : X.Perm Y) : fof a X = fof a Y := by
  funext x
  unfold fof
  rw [Bool.eq_iff_iff, List.any_eq_true, List.any_eq_true]
  constructor
  · rintro ⟨g, hg, h'⟩
    exact ⟨g, h.mem_iff.1 hg, h'⟩
  · rintro ⟨g, hg, h'⟩
    exact ⟨g, h.mem_iff.2 hg, h'⟩
theorem cnt_perm {a : Int} {X Y : List Gr} (h : X.Perm Y) : cnt a X = cnt a Y := sum_perm (h.map _)
theorem ivO_perm {a t : Int} {X Y : List Gr} (h : X.Perm Y) : ivO a t X = ivO a t Y := by
  unfold ivO
  have : (leG t X).Perm (leG t Y) := h.filter _
  rw [fof_perm this, cnt_perm this]
theorem ivC_perm {a t : Int} {X Y : List Gr} (h : X.Perm Y) : ivC a t X ↔ ivC a t Y := by
  unfold ivC
  have : (ltG t X).Perm (ltG t Y) := h.filter _
  rw [ivO_perm h, fof_perm this]
theorem compact_sup (l : List Int) : ∀ x ∈ l, x ∈ Lib.compact l := by
  have key : ∀ j (hj : j < l.length), l[j] ∈ Lib.compact l := by
    intro j
    induction j with
    | zero =>
      intro hj
      unfold Lib.compact Lib.compactUpTo
      rw [List.mem_map]
      refine ⟨0, List.mem_filter.2 ⟨by simpa using hj, by simp [Lib.keeps]⟩, ?_⟩
      rw [getElem!_pos _ 0 (by simpa using hj)]
      simp
    | succ j ih =>
      intro hj
      have e1 : l.toArray[j + 1]! = l[j + 1] := by rw [getElem!_pos _ (j + 1) (by simpa using hj)]; simp
      have e0 : l.toArray[j]! = l[j] := by rw [getElem!_pos _ j (by simpa using (by omega : j < l.length))]; simp
      by_cases hk : l[j + 1] = l[j]
      · rw [hk]
        exact ih (by omega)
      · unfold Lib.compact Lib.compactUpTo
        rw [List.mem_map]
        refine ⟨j + 1, List.mem_filter.2 ⟨by simpa using hj, ?_⟩, e1⟩
        unfold Lib.keeps
        rw [decide_eq_true_eq]
        right
        rw [e1, Nat.add_sub_cancel, e0]
        exact hk
  intro x hx
  obtain ⟨j, hj, rfl⟩ := List.mem_iff_getElem.1 hx
  exact key j hj
theorem stL_mem {G : List Gr} {a : Int} : a ∈ stL G ↔ ∃ g ∈ G, g.lo = a := by
  refine ⟨stL_sub, fun h => compact_sup _ _ ?_⟩
  rw [List.mem_mergeSort, List.mem_map]
  exact h
theorem crL_mem {Gs G : List Gr} (hp : Gs.Perm G) (hs : Gs.Pairwise fun a b => a.hi ≤ b.hi) (i : Iv) : i ∈ crL Gs G ↔ ∃ g0 ∈ G, ∃ g1 ∈ G, i = ivO g0.lo g1.hi G ∧ ivC g0.lo g1.hi G := by
  unfold crL
  rw [List.mem_flatMap]
  constructor
  · rintro ⟨a, ha, hi⟩
    obtain ⟨g0, h0, rfl⟩ := stL_mem.1 ha
    obtain ⟨g1, h1, h2, h3⟩ := (cfL_mem hs i).1 hi
    rw [ivO_perm hp] at h2
    rw [ivC_perm hp] at h3
    exact ⟨g0, h0, g1, hp.mem_iff.1 h1, h2, h3⟩
  · rintro ⟨g0, h0, g1, h1, h2, h3⟩
    refine ⟨g0.lo, stL_mem.2 ⟨g0, h0, rfl⟩, (cfL_mem hs i).2 ⟨g1, hp.mem_iff.2 h1, ?_, ?_⟩⟩
    · rw [ivO_perm hp]; exact h2
    · rw [ivC_perm hp]; exact h3
/-- How many places lie within. -/
def inW (D : List Dm) (a t : Int) (y : Int) : Bool := decide (a ≤ (dmAt D y.toNat).lo) && decide ((dmAt D y.toNat).hi ≤ t)
def wc (D : List Dm) (P : List Int) (a t : Int) : Nat := P.countP (inW D a t)
theorem grL_cnt (D : List Dm) (P : List Int) (a t : Int) (hP : ∀ y ∈ P, 0 ≤ y) : ∀ k, cnt a (leG t (grL D P k)) = (P.countP (fun y => decide (y < (k : Int)) && inW D a t y) : Nat) := by
  intro k
  induction k with
  | zero =>
    have : P.countP (fun y => decide (y < ((0 : Nat) : Int)) && inW D a t y) = 0 := by
      rw [List.countP_eq_zero]
      intro y hy
      have := hP y hy
      simp
      omega
    rw [this]
    rfl
  | succ k ih =>
    have e : grL D P (k + 1) = grL D P k ++ gr1 D P k := rfl
    have hsplit : P.countP (fun y => decide (y < ((k + 1 : Nat) : Int)) && inW D a t y) = P.countP (fun y => decide (y < (k : Int)) && inW D a t y) + P.countP (fun y => decide (y = (k : Int)) && inW D a t y) := by
      clear ih e
      induction P with
      | nil => rfl
      | cons y P ih =>
        have hy := hP y (by simp)
        have ih := ih (fun z hz => hP z (List.mem_cons_of_mem _ hz))
        rw [List.countP_cons, List.countP_cons, List.countP_cons, ih]
        by_cases h1 : y < (k : Int)
        · have h2 : ¬ y = (k : Int) := by omega
          have h3 : y < ((k + 1 : Nat) : Int) := by omega
          simp only [h1, h2, h3, decide_true, decide_false, Bool.true_and, Bool.false_and]
          simp
          omega
        · by_cases h2 : y = (k : Int)
          · have h3 : y < ((k + 1 : Nat) : Int) := by omega
            simp only [h2, decide_true, Bool.true_and]
            have h4 : (k : Int) < ((k + 1 : Nat) : Int) := by omega
            have h5 : ¬ (k : Int) < (k : Int) := by omega
            simp only [h4, h5, decide_true, decide_false, Bool.true_and, Bool.false_and]
            simp
            omega
          · have h3 : ¬ y < ((k + 1 : Nat) : Int) := by omega
            simp only [h1, h2, h3, decide_false, Bool.false_and]
            simp
    have hone : (P.countP (fun y => decide (y = (k : Int)) && inW D a t y)) = if inW D a t (k : Int) then cntP P k else 0 := by
      unfold cntP
      by_cases h : inW D a t (k : Int) = true
      · rw [if_pos h]
        apply List.countP_congr
        intro y _
        constructor
        · intro h1
          exact ((Bool.and_eq_true _ _).mp h1).1
        · intro h1
          rw [of_decide_eq_true h1]
          simpa using h
      · rw [if_neg h, List.countP_eq_zero]
        intro y _ h1
        obtain ⟨h2, h3⟩ := (Bool.and_eq_true _ _).mp h1
        rw [of_decide_eq_true h2] at h3
        exact h h3
    rw [hsplit, hone, e]
    unfold leG at ih ⊢
    have hc : cnt a (List.filter (fun g => decide (g.hi ≤ t)) (gr1 D P k)) = ((if inW D a t (k : Int) then cntP P k else 0 : Nat) : Int) := by
      unfold gr1 inW cnt
      rw [Int.toNat_natCast]
      by_cases h0 : 0 < cntP P k
      · rw [if_pos h0, List.filter_cons]
        unfold dmAt
        generalize D.getD k ⟨0, 0, 0⟩ = d
        by_cases h1 : d.hi ≤ t
        · by_cases h2 : a ≤ d.lo
          · simp [h1, h2]
          · simp [h1, h2]
        · simp [h1]
      · have h00 : cntP P k = 0 := by omega
        rw [if_neg h0, h00]
        simp
    have hap : cnt a (List.filter (fun g => decide (g.hi ≤ t)) (grL D P k) ++ List.filter (fun g => decide (g.hi ≤ t)) (gr1 D P k)) = cnt a (List.filter (fun g => decide (g.hi ≤ t)) (grL D P k)) + cnt a (List.filter (fun g => decide (g.hi ≤ t)) (gr1 D P k)) := by
      unfold cnt
      rw [List.map_append, List.sum_append]
    rw [List.filter_append, hap, ih, hc]
    omega
theorem hcG_cnt (D : List Dm) (xs : List Int) (a t : Int) (hD : D.length ≤ 32) : cnt a (leG t (hcG D xs)) = (wc D (plP D.length xs) a t : Nat) := by
  unfold hcG wc
  rw [grL_cnt D _ a t (fun y hy => (plP_in hy).1) 32]
  congr 1
  apply List.countP_congr
  intro y hy
  have := plP_in hy
  have h : y < ((32 : Nat) : Int) := by omega
  rw [decide_eq_true h, Bool.true_and]
/-- Groups are told by their variables. -/
theorem hcG_at {D : List Dm} {xs : List Int} {x : Nat} (hD : D.length ≤ 32) (h : (x : Int) ∈ plP D.length xs) : ∃ g ∈ hcG D xs, g.x = x ∧ g.lo = (dmAt D x).lo ∧ g.hi = (dmAt D x).hi := by
  have hx := plP_in h
  have hc : 0 < cntP (plP D.length xs) x := by
    unfold cntP
    rw [List.countP_pos_iff]
    exact ⟨_, h, by simp⟩
  have key : ∀ k, x < k → ∃ g ∈ grL D (plP D.length xs) k, g.x = x ∧ g.lo = (dmAt D x).lo ∧ g.hi = (dmAt D x).hi := by
    intro k
    induction k with
    | zero => intro h; omega
    | succ k ih =>
      intro hk
      have e : grL D (plP D.length xs) (k + 1) = grL D (plP D.length xs) k ++ gr1 D (plP D.length xs) k := rfl
      rw [e]
      by_cases h1 : x < k
      · obtain ⟨g, hg, h⟩ := ih h1
        exact ⟨g, List.mem_append.2 (.inl hg), h⟩
      · have h2 : k = x := by omega
        subst h2
        refine ⟨⟨(dmAt D k).lo, (dmAt D k).hi, k, (cntP (plP D.length xs) k : Int)⟩, List.mem_append.2 (.inr ?_), rfl, rfl, rfl⟩
        unfold gr1
        rw [if_pos hc]
        exact List.mem_singleton.2 rfl
  exact key 32 (by omega)
theorem hcG_one {D : List Dm} {xs : List Int} {g g' : Gr} (h : g ∈ hcG D xs) (h' : g' ∈ hcG D xs) (e : g.x = g'.x) : g.lo = g'.lo ∧ g.hi = g'.hi := by
  obtain ⟨_, _, h3, h4, _⟩ := hcG_mem h
  obtain ⟨_, _, h3', h4', _⟩ := hcG_mem h'
  rw [h3, h4, h3', h4', e]
  exact ⟨rfl, rfl⟩
theorem sameB_iff (f h : Nat → Bool) : sameB f h = true ↔ ∀ x, x < 32 → f x = h x := by
  unfold sameB
  simp only [Bool.and_eq_true, beq_iff_eq]
  constructor
  · rintro ⟨h0, h1, h2, h3⟩ x hx
    have e0 : wd f 0 = wd h 0 := by omega
    have e1 : wd f 1 = wd h 1 := by omega
    have e2 : wd f 2 = wd h 2 := by omega
    have e3 : wd f 3 = wd h 3 := by omega
    have hq : x = 8 * (x / 8) + x % 8 := by omega
    have hr : x % 8 < 8 := by omega
    have hd : x / 8 = 0 ∨ x / 8 = 1 ∨ x / 8 = 2 ∨ x / 8 = 3 := by omega
    rcases hd with hd | hd | hd | hd <;> rw [hd] at hq <;> rw [hq]
    · exact wd_ext e0 _ hr
    · exact wd_ext e1 _ hr
    · exact wd_ext e2 _ hr
    · exact wd_ext e3 _ hr
  · intro h'
    refine ⟨?_, ?_, ?_, ?_⟩ <;> congr 1 <;> apply wd_congr <;> intro j hj <;> apply h' <;> omega
theorem fof_iff {a : Int} {X : List Gr} {x : Nat} : fof a X x = true ↔ ∃ g ∈ X, a ≤ g.lo ∧ g.x = x := by
  unfold fof
  rw [List.any_eq_true]
  constructor
  · rintro ⟨g, hg, h⟩
    simp at h
    exact ⟨g, hg, h.1, h.2.symm⟩
  · rintro ⟨g, hg, h1, h2⟩
    exact ⟨g, hg, by simp [h1, h2]⟩
/-- An interval's bits: the variables within. -/
theorem ivO_f {D : List Dm} {xs : List Int} {a t : Int} {x : Nat} (hD : D.length ≤ 32) (hx : (x : Int) ∈ plP D.length xs) : (ivO a t (hcG D xs)).f x = inW D a t (x : Int) := by
  rw [Bool.eq_iff_iff]
  unfold ivO
  dsimp only
  rw [fof_iff]
  obtain ⟨g0, h0, e0, e1, e2⟩ := hcG_at hD hx
  unfold inW leG
  rw [Int.toNat_natCast]
  constructor
  · rintro ⟨g, hg, h1, h2⟩
    obtain ⟨hg1, hg2⟩ := List.mem_filter.1 hg
    have := hcG_one hg1 h0 (by rw [h2, e0])
    have hg3 := of_decide_eq_true hg2
    rw [← e1, ← e2, ← this.1, ← this.2]
    simp [h1, hg3]
  · intro h
    simp at h
    exact ⟨g0, List.mem_filter.2 ⟨h0, by rw [e2]; simpa using h.2⟩, by rw [e1]; exact h.1, e0⟩
/-- Overfull; full. -/
def OF (D : List Dm) (P : List Int) (a t : Int) : Prop := 0 < wc D P a t ∧ t - a + 1 < (wc D P a t : Int)
def FU (D : List Dm) (P : List Int) (a t : Int) : Prop := 0 < wc D P a t ∧ t - a + 1 = (wc D P a t : Int)
theorem wc_pos {D : List Dm} {P : List Int} {a t : Int} (h : 0 < wc D P a t) : ∃ y ∈ P, inW D a t y = true := List.countP_pos_iff.1 h
/-- Where an interval has the same within as its narrower one. -/
theorem same_narrow {D : List Dm} {xs : List Int} {a t : Int} (hD : D.length ≤ 32) (h : sameB (ivO a t (hcG D xs)).f (fof a (ltG t (hcG D xs))) = true) : ∀ y ∈ plP D.length xs, inW D a t y = true → (dmAt D y.toNat).hi < t := by
  intro y hy hin
  have hy0 := plP_in hy
  obtain ⟨x, rfl⟩ : ∃ x : Nat, y = (x : Int) := ⟨y.toNat, by omega⟩
  have h1 := (sameB_iff _ _).1 h x (by omega)
  rw [ivO_f hD hy, hin] at h1
  obtain ⟨g, hg, _, hgx⟩ := fof_iff.1 h1.symm
  obtain ⟨hg1, hg2⟩ := List.mem_filter.1 hg
  obtain ⟨g0, h0, e0, e1, e2⟩ := hcG_at hD hy
  have := hcG_one hg1 h0 (by rw [hgx, e0])
  rw [Int.toNat_natCast, ← e2, ← this.2]
  exact of_decide_eq_true hg2
theorem min_of {α : Type} (f : α → Int) : ∀ l : List α, l ≠ [] → ∃ y ∈ l, ∀ z ∈ l, f y ≤ f z
  | [], h => absurd rfl h
  | [y], _ => ⟨y, by simp, fun z hz => by rw [List.mem_singleton.1 hz]; exact Int.le_refl _⟩
  | y :: z :: l, _ => by
    obtain ⟨u, hu, h⟩ := min_of f (z :: l) (by simp)
    by_cases hc : f y ≤ f u
    · refine ⟨y, by simp, fun v hv => ?_⟩
      rcases List.mem_cons.1 hv with rfl | hv
      · exact Int.le_refl _
      · have := h v hv
        omega
    · refine ⟨u, List.mem_cons_of_mem _ hu, fun v hv => ?_⟩
      rcases List.mem_cons.1 hv with rfl | hv
      · omega
      · exact h v hv
theorem inW_iff {D : List Dm} {a t y : Int} : inW D a t y = true ↔ a ≤ (dmAt D y.toNat).lo ∧ (dmAt D y.toNat).hi ≤ t := by
  unfold inW
  simp
theorem wc_mono {D : List Dm} {P : List Int} {a t a' t' : Int} (h : ∀ y ∈ P, inW D a t y = true → inW D a' t' y = true) : wc D P a t ≤ wc D P a' t' := List.countP_mono_left h
/-- The ends of what lies within. -/
theorem tight {D : List Dm} {P : List Int} {a t : Int} (h : 0 < wc D P a t) : ∃ y0 ∈ P, ∃ y1 ∈ P, inW D a t y0 = true ∧ inW D a t y1 = true ∧ wc D P a t ≤ wc D P (dmAt D y0.toNat).lo (dmAt D y1.toNat).hi := by
  have hne : P.filter (inW D a t) ≠ [] := by
    obtain ⟨y, hy, hin⟩ := wc_pos h
    intro he
    have := List.mem_filter.2 ⟨hy, hin⟩
    rw [he] at this
    exact absurd this (by simp)
  obtain ⟨y0, h0, m0⟩ := min_of (fun y => (dmAt D y.toNat).lo) _ hne
  obtain ⟨y1, h1, m1⟩ := min_of (fun y => -(dmAt D y.toNat).hi) _ hne
  obtain ⟨p0, i0⟩ := List.mem_filter.1 h0
  obtain ⟨p1, i1⟩ := List.mem_filter.1 h1
  refine ⟨y0, p0, y1, p1, i0, i1, wc_mono fun y hy hin => ?_⟩
  have hm := List.mem_filter.2 ⟨hy, hin⟩
  have a0 := m0 y hm
  have a1 := m1 y hm
  exact inW_iff.2 ⟨a0, by omega⟩
end Go.Proofs.YtemnbcilmbojhaaGreatDoor

namespace Go.Proofs.YtemnbcilmbojhaaGreatDoor

def OFb (D : List Dm) (P : List Int) (a t : Int) : Bool := decide (0 < wc D P a t) && decide (t - a + 1 < (wc D P a t : Int))
theorem OFb_iff {D : List Dm} {P : List Int} {a t : Int} : OFb D P a t = true ↔ OF D P a t := by
  unfold OFb OF
  simp
theorem ivO_n0 (a t : Int) (X : List Gr) : (ivO a t X).n = cnt a (leG t X) := rfl
theorem ivO_f0 (a t : Int) (X : List Gr) (x : Nat) : (ivO a t X).f x = fof a (leG t X) x := rfl
section
variable {D : List Dm} {xs : List Int} {Gs : List Gr}

theorem ivO_n (hD : D.length ≤ 32) (a t : Int) : (ivO a t (hcG D xs)).n = (wc D (plP D.length xs) a t : Int) := by
  rw [ivO_n0]
  exact hcG_cnt D xs a t hD
/-- What a crowded interval is. -/
theorem crowd_is (hD : D.length ≤ 32) (hp : Gs.Perm (hcG D xs)) (hs : Gs.Pairwise fun a b => a.hi ≤ b.hi) {i : Iv} (h : i ∈ crL Gs (hcG D xs)) : ∃ a t, i = ivO a t (hcG D xs) ∧ 0 < wc D (plP D.length xs) a t ∧ t - a + 1 ≤ (wc D (plP D.length xs) a t : Int) := by
  obtain ⟨g0, h0, g1, h1, hi, hc1, hc2⟩ := (crL_mem hp hs i).1 h
  refine ⟨_, _, hi, ?_, ?_⟩
  · rw [Nat.pos_iff_ne_zero]
    intro hz
    have : sameB (ivO g0.lo g1.hi (hcG D xs)).f (fof g0.lo (ltG g1.hi (hcG D xs))) = true := by
      rw [sameB_iff]
      intro x hx
      have hn : ∀ X, (∀ g ∈ X, g ∈ hcG D xs ∧ g.hi ≤ g1.hi) → fof g0.lo X x = false := fun X hX => by
        rw [Bool.eq_false_iff]
        intro hf
        obtain ⟨g, hg, h2, h3⟩ := fof_iff.1 hf
        obtain ⟨hm, hle⟩ := hX g hg
        obtain ⟨m1, m2, m3, m4, m5, m6⟩ := hcG_mem hm
        have hy := cntP_pos m6
        have : 0 < wc D (plP D.length xs) g0.lo g1.hi := List.countP_pos_iff.2 ⟨_, hy, inW_iff.2 ⟨by rw [Int.toNat_natCast, ← m3]; exact h2, by rw [Int.toNat_natCast, ← m4]; exact hle⟩⟩
        omega
      have e1 : (ivO g0.lo g1.hi (hcG D xs)).f x = false := by
        rw [ivO_f0]
        exact hn _ (fun g hg => ⟨(List.mem_filter.1 hg).1, of_decide_eq_true (List.mem_filter.1 hg).2⟩)
      have e2 := hn (ltG g1.hi (hcG D xs)) (fun g hg => ⟨(List.mem_filter.1 hg).1, by have := of_decide_eq_true (List.mem_filter.1 hg).2; omega⟩)
      rw [e1, e2]
    rw [this] at hc1
    cases hc1
  · rw [ivO_n hD] at hc2
    exact hc2
/-- A place's variable as a group. -/
theorem place_g (hD : D.length ≤ 32) {y : Int} (hy : y ∈ plP D.length xs) : ∃ g ∈ hcG D xs, g.lo = (dmAt D y.toNat).lo ∧ g.hi = (dmAt D y.toNat).hi := by
  have h0 := plP_in hy
  obtain ⟨x, rfl⟩ : ∃ x : Nat, y = (x : Int) := ⟨y.toNat, by omega⟩
  obtain ⟨g, hg, _, e1, e2⟩ := hcG_at hD hy
  rw [Int.toNat_natCast]
  exact ⟨g, hg, e1, e2⟩
/-- Of what is overfull a narrowest one stands among the crowded. -/
theorem over_in (hD : D.length ≤ 32) (hp : Gs.Perm (hcG D xs)) (hs : Gs.Pairwise fun a b => a.hi ≤ b.hi) {a t : Int} (h : OF D (plP D.length xs) a t) : ∃ i ∈ crL Gs (hcG D xs), ov i = true := by
  obtain ⟨y0, p0, y1, p1, t0, t1, t2⟩ := tight h.1
  have ho : OF D (plP D.length xs) (dmAt D y0.toNat).lo (dmAt D y1.toNat).hi := ⟨by have := h.1; omega, by have := h.2; have := (inW_iff.1 t0).1; have := (inW_iff.1 t1).2; omega⟩
  obtain ⟨g0, hg0, e0, _⟩ := place_g hD p0
  obtain ⟨g1, hg1, _, e1⟩ := place_g hD p1
  rw [← e0, ← e1] at ho
  clear t0 t1 t2 e0 e1 p0 p1
  have hlist : (hcG D xs).filter (fun g => OFb D (plP D.length xs) g0.lo g.hi) ≠ [] := by
    intro he
    have : g1 ∈ (hcG D xs).filter (fun g => OFb D (plP D.length xs) g0.lo g.hi) := List.mem_filter.2 ⟨hg1, OFb_iff.2 ho⟩
    rw [he] at this
    exact absurd this (by simp)
  obtain ⟨g2, hm2, hmin⟩ := min_of (fun g => g.hi) _ hlist
  obtain ⟨hg2, ho2⟩ := List.mem_filter.1 hm2
  have ho2 := OFb_iff.1 ho2
  refine ⟨ivO g0.lo g2.hi (hcG D xs), (crL_mem hp hs _).2 ⟨g0, hg0, g2, hg2, rfl, ?_, ?_⟩, ?_⟩
  · rw [Bool.eq_false_iff]
    intro hsame
    have hn := same_narrow hD hsame
    obtain ⟨z0, q0, z1, q1, u0, u1, u2⟩ := tight ho2.1
    have hz1 := hn z1 q1 u1
    have hw : wc D (plP D.length xs) (dmAt D z0.toNat).lo (dmAt D z1.toNat).hi ≤ wc D (plP D.length xs) g0.lo (dmAt D z1.toNat).hi := wc_mono fun y _ hin => by
      have h1 := inW_iff.1 hin
      have h2 := (inW_iff.1 u0).1
      exact inW_iff.2 ⟨by omega, h1.2⟩
    obtain ⟨g3, hg3, _, e3⟩ := place_g hD q1
    have ho3 : OF D (plP D.length xs) g0.lo g3.hi := by
      rw [e3]
      exact ⟨by have := ho2.1; omega, by have := ho2.2; omega⟩
    have hm3 : g3 ∈ (hcG D xs).filter (fun g => OFb D (plP D.length xs) g0.lo g.hi) := List.mem_filter.2 ⟨hg3, OFb_iff.2 ho3⟩
    have := hmin g3 hm3
    omega
  · rw [ivO_n hD]
    have := ho2.2
    show g2.hi - g0.lo + 1 ≤ _
    omega
  · unfold ov
    rw [decide_eq_true_eq, ivO_n hD]
    exact ho2.2
theorem over_iff (hD : D.length ≤ 32) (hp : Gs.Perm (hcG D xs)) (hs : Gs.Pairwise fun a b => a.hi ≤ b.hi) : (crL Gs (hcG D xs)).any ov = true ↔ ∃ a t, OF D (plP D.length xs) a t := by
  rw [List.any_eq_true]
  constructor
  · rintro ⟨i, hi, ho⟩
    obtain ⟨a, t, rfl, h1, _⟩ := crowd_is hD hp hs hi
    refine ⟨a, t, h1, ?_⟩
    unfold ov at ho
    rw [decide_eq_true_eq, ivO_n hD] at ho
    exact ho
  · rintro ⟨a, t, h⟩
    exact over_in hD hp hs h
/-- Where nothing is overfull, what is full stands among the crowded. -/
theorem full_in (hD : D.length ≤ 32) (hp : Gs.Perm (hcG D xs)) (hs : Gs.Pairwise fun a b => a.hi ≤ b.hi) (hno : ∀ a t, ¬ OF D (plP D.length xs) a t) {a t : Int} (h : FU D (plP D.length xs) a t) : ivO a t (hcG D xs) ∈ crL Gs (hcG D xs) := by
  obtain ⟨y0, p0, y1, p1, i0, i1, hle⟩ := tight h.1
  have n1 := hno (dmAt D y0.toNat).lo (dmAt D y1.toNat).hi
  have j0 := inW_iff.1 i0
  have j1 := inW_iff.1 i1
  have h1 := h.1
  have h2 := h.2
  have e : a = (dmAt D y0.toNat).lo ∧ t = (dmAt D y1.toNat).hi := by
    have : ¬ ((dmAt D y1.toNat).hi - (dmAt D y0.toNat).lo + 1 < (wc D (plP D.length xs) (dmAt D y0.toNat).lo (dmAt D y1.toNat).hi : Int)) := fun hh => n1 ⟨by omega, hh⟩
    omega
  obtain ⟨g0, hg0, e0, _⟩ := place_g hD p0
  obtain ⟨g1, hg1, _, e1⟩ := place_g hD p1
  refine (crL_mem hp hs _).2 ⟨g0, hg0, g1, hg1, by rw [e0, e1, ← e.1, ← e.2], ?_⟩
  rw [e0, e1, ← e.1, ← e.2]
  refine ⟨?_, ?_⟩
  · rw [Bool.eq_false_iff]
    intro hsame
    have hn := same_narrow hD hsame y1 p1 i1
    omega
  · rw [ivO_n hD]
    show t - a + 1 ≤ _
    omega
/-- The interval that takes a value. -/
theorem tkL_some {g : Gr} {L : List Iv} {k j r : Nat} (h : tkL g L k j = some r) : ∃ i ∈ L, L[r - k]? = some i ∧ i.f g.x = false ∧ i.lo ≤ g.lo + (j : Int) ∧ g.lo + (j : Int) ≤ i.hi := by
  induction L generalizing k with
  | nil => cases h
  | cons i L ih =>
    unfold tkL at h
    split at h
    · rename_i hc
      injection h with h
      subst h
      simp at hc
      exact ⟨i, by simp, by simp, hc.1, hc.2.1, hc.2.2.1⟩
    · obtain ⟨i', hi', h1, h2⟩ := ih h
      have hr := (tk_lt h).1
      refine ⟨i', List.mem_cons_of_mem _ hi', ?_, h2⟩
      have : r - k = (r - (k + 1)) + 1 := by omega
      rw [this, List.getElem?_cons_succ]
      exact h1
theorem tkL_none {g : Gr} {L : List Iv} {k j : Nat} (h : tkL g L k j = none) (hj : g.lo + (j : Int) ≤ g.hi) : ∀ i ∈ L, i.f g.x = true ∨ ¬ (i.lo ≤ g.lo + (j : Int) ∧ g.lo + (j : Int) ≤ i.hi) := by
  induction L generalizing k with
  | nil => intro i hi; exact absurd hi (by simp)
  | cons i L ih =>
    unfold tkL at h
    split at h
    · cases h
    · rename_i hc
      intro i' hi'
      rcases List.mem_cons.1 hi' with rfl | hi'
      · cases hf : i'.f g.x with
        | true => exact .inl rfl
        | false =>
          right
          rintro ⟨h1, h2⟩
          apply hc
          simp [hf, h1, h2, hj]
      · exact ih h i' hi'
/-- What goes. -/
theorem cz1_mem {P : List Int} {g : Gr} {L : List Iv} {v : Int} {z : Cz} (hv : g.lo ≤ v) (h : z ∈ cz1 P g L v) : z.x = g.x ∧ z.v = v ∧ ∃ i ∈ L, i.f g.x = false ∧ i.lo ≤ v ∧ v ≤ i.hi ∧ z.lo = i.lo ∧ z.hi = i.hi ∧ z.xs = P.filter fun x => i.f x.toNat := by
  unfold cz1 at h
  split at h
  · exact absurd h (by simp)
  · rename_i k hk
    obtain ⟨i, hi, h1, h2, h3, h4⟩ := tkL_some hk
    rw [Nat.sub_zero] at h1
    rw [h1] at h
    have h := List.mem_singleton.1 h
    subst h
    have e : g.lo + ((v - g.lo).toNat : Int) = v := by omega
    rw [e] at h3 h4
    exact ⟨rfl, rfl, i, hi, h2, h3, h4, rfl, rfl, rfl⟩
theorem cz1_takes {P : List Int} {g : Gr} {L : List Iv} {v : Int} (hv : g.lo ≤ v) (hv2 : v ≤ g.hi) {i : Iv} (hi : i ∈ L) (h1 : i.f g.x = false) (h2 : i.lo ≤ v) (h3 : v ≤ i.hi) : ∃ z ∈ cz1 P g L v, z.x = g.x ∧ z.v = v := by
  have e : g.lo + ((v - g.lo).toNat : Int) = v := by omega
  cases hk : tkL g L 0 (v - g.lo).toNat with
  | none =>
    have := tkL_none hk (by rw [e]; exact hv2) i hi
    rw [h1, e] at this
    rcases this with h | h
    · cases h
    · exact absurd ⟨h2, h3⟩ h
  | some k =>
    obtain ⟨i', _, h4, _⟩ := tkL_some hk
    rw [Nat.sub_zero] at h4
    refine ⟨⟨g.x, v, i'.lo, i'.hi, P.filter fun x => i'.f x.toNat⟩, ?_, rfl, rfl⟩
    unfold cz1
    rw [hk]
    dsimp only
    rw [h4]
    exact List.mem_singleton.2 rfl
end
end Go.Proofs.YtemnbcilmbojhaaGreatDoor
