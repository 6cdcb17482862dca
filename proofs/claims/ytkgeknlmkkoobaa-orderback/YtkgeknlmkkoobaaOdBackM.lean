/-
  Each number says one thing, and values come back: by lists.
-/
import Derived.Test.YtkgeknlmkkoobaaOdAssign
import Derived.Test.YtkgeknlmkkoobaaOdOfs
namespace Od
open Go.Proofs.Ytkgeknlmkkoobaa

theorem cnt_ge {g : Nat → Bool} {A : Nat} {f v : Int} : ∀ (z : Nat), (∀ i : Nat, i < z → g (A + i) = decide (f + 1 + (i : Int) ≤ v)) → f ≤ v → (cntB g A z : Int) = if v - f ≤ (z : Int) then v - f else (z : Int)
  | 0, _, hv => by
    simp only [cntB]
    split <;> omega
  | z + 1, h, hv => by
    have ih := cnt_ge z (fun i hi => h i (by omega)) hv
    have hz := h z (by omega)
    simp only [cntB, Int.natCast_add]
    by_cases e : f + 1 + (z : Int) ≤ v
    · have hk : (if g (A + z) = true then 1 else 0 : Nat) = 1 := by rw [hz, decide_eq_true e]; rfl
      rw [hk, ih]
      split <;> split <;> omega
    · have hk : (if g (A + z) = true then 1 else 0 : Nat) = 0 := by rw [hz, decide_eq_false e]; rfl
      rw [hk, ih]
      split <;> split <;> omega
theorem valL_back {vs : List Md.Vr} {cs : List Md.Cn} {l : List Int} {g : Nat → Bool} (hg : Good vs) (h : GV vs cs l g vs.length) (hl : l.length = vs.length) (hin : ∀ x (h : x < vs.length) (h2 : x < l.length), vs[x].lo ≤ l[x] ∧ l[x] ≤ vs[x].hi) : valL vs g = l := by
  refine List.ext_getElem (by simp [valL, hl]) fun x h1 h2 => ?_
  have hx : x < vs.length := by omega
  obtain ⟨i1, i2⟩ := hin x hx h2
  have hb := hg.b x hx
  have hgd : l.getD x 0 = l[x] := by rw [List.getD_eq_getElem?_getD, List.getElem?_eq_getElem h2]; rfl
  have hc := (h x hx hx).1
  rw [hgd] at hc
  have e : (valL vs g)[x] = valV vs g x := by simp [valL]
  rw [e]
  unfold valV
  rw [List.getElem?_eq_getElem hx]
  simp only
  rw [cnt_ge (f := vs[x].lo) (v := l[x]) _ (fun i hi => hc i (by omega)) i1]
  split <;> omega

section
variable {vs : List Md.Vr} {cs : List Md.Cn} {n : Int} {m : Mn} {b : Bool}
theorem hit_iff (hg : Good vs) {y : Nat} (hy : y < vs.length) : hit vs cs n y = true ↔ (aS vs y < n ∧ n ≤ aS vs (y + 1)) ∨ (aP vs cs y < n ∧ n ≤ aP vs cs (y + 1)) := by
  have h1 := aS_mono hg (x := y) (y := y + 1) (by omega) (by omega)
  have h2 := aP_mono hg cs (x := y) (y := y + 1) (by omega) (by omega)
  unfold hit
  by_cases a : n ≤ aS vs y <;> by_cases b : n ≤ aS vs (y + 1) <;> by_cases c : n ≤ aP vs cs y <;> by_cases d : n ≤ aP vs cs (y + 1) <;> simp [a, b, c, d] <;> omega
theorem atLeast_is {x : Nat} (hx : x < vs.length) {k : Int} (h1 : vs[x].lo + 1 ≤ k) (h2 : k ≤ vs[x].hi) : (stR vs x vs[x]).atLeast k = (aS vs x + (k - vs[x].lo), 1) := by
  unfold Run.atLeast
  rw [if_neg (by show ¬ k ≤ vs[x].lo + 1 - 1; omega), number_in (by exact h1) (by exact h2)]
  simp only [stR, Prod.mk.injEq, and_true]
  omega
theorem of_step (hg : Good vs) (h : OfSays vs cs n m b) {x : Nat} (hx : x < vs.length) (h1 : aS vs x < n) (h2 : n ≤ aS vs (x + 1)) : m = ⟨x, vs[x].lo + (n - aS vs x), false, 0, 0, false⟩ ∧ b = true := by
  have uniq : ∀ y, y < vs.length → hit vs cs n y = true → y = x := fun y hy hh => by
    have a1 := aP_bd hg cs y (by omega)
    have a2 := aS_mono hg (x := x + 1) (y := vs.length) (by omega) (Nat.le_refl _)
    rcases (hit_iff hg hy).1 hh with ⟨c1, c2⟩ | ⟨c1, c2⟩
    · by_cases e1 : y < x
      · have := aS_mono hg (x := y + 1) (y := x) (by omega) (by omega); omega
      · by_cases e2 : x < y
        · have := aS_mono hg (x := x + 1) (y := y) (by omega) (by omega); omega
        · omega
    · omega
  have hh : hit vs cs n x = true := (hit_iff hg hx).2 (.inl ⟨h1, h2⟩)
  rcases h with ⟨y, hy, h3, h4, rfl, rfl⟩ | ⟨h3, _⟩
  · obtain rfl := uniq y hy h3
    refine ⟨?_, rfl⟩
    have e : (stR vs y vs[y]).told n = (vs[y].lo + (n - aS vs y), true) := by
      rw [aS_next hy] at h2
      rw [told_in (by exact h1) (by show n ≤ aS vs y + (vs[y].hi - (vs[y].lo + 1) + 1); omega)]
      simp only [stR, Prod.mk.injEq, and_true]
      omega
    unfold meanR
    rw [e, if_pos rfl]
  · have := h3 x hx
    rw [hh] at this
    cases this
theorem asked_to {x : Nat} (hx : x < vs.length) (ha : asked cs x = true) : pTo cs vs[x] x = vs[x].hi := by unfold pTo; rw [if_pos ha]
theorem is_in (hg : Good vs) {x : Nat} (hx : x < vs.length) (ha : asked cs x = true) {k : Int} (h1 : vs[x].lo ≤ k) (h2 : k ≤ vs[x].hi) : (ptR vs cs x vs[x]).is k = (aP vs cs x + (k - vs[x].lo) + 1, 1) := by
  have hb := hg.b x hx
  unfold Run.is
  rw [if_neg (by show ¬ pTo cs vs[x] x - vs[x].lo + 1 = 0; rw [asked_to hx ha]; omega), number_in (by exact h1) (by show k ≤ pTo cs vs[x] x; rw [asked_to hx ha]; exact h2)]
  simp only [ptR, Prod.mk.injEq, and_true]
  omega
theorem is_out {x : Nat} (hx : x < vs.length) (ha : asked cs x = false) {k : Int} : (ptR vs cs x vs[x]).is k = (0, 0) := by
  unfold Run.is
  rw [if_pos]
  show pTo cs vs[x] x - vs[x].lo + 1 = 0
  unfold pTo
  rw [ha, if_neg (by simp)]
  omega
theorem of_point (hg : Good vs) (h : OfSays vs cs n m b) {x : Nat} (hx : x < vs.length) (h1 : aP vs cs x < n) (h2 : n ≤ aP vs cs (x + 1)) : m = ⟨x, vs[x].lo + (n - aP vs cs x - 1), true, 0, 0, false⟩ ∧ b = true := by
  have a1 := aP_bd hg cs x (by omega)
  have uniq : ∀ y, y < vs.length → hit vs cs n y = true → y = x := fun y hy hh => by
    have a2 := aS_mono hg (x := y + 1) (y := vs.length) (by omega) (Nat.le_refl _)
    rcases (hit_iff hg hy).1 hh with ⟨c1, c2⟩ | ⟨c1, c2⟩
    · omega
    · by_cases e1 : y < x
      · have := aP_mono hg cs (x := y + 1) (y := x) (by omega) (by omega); omega
      · by_cases e2 : x < y
        · have := aP_mono hg cs (x := x + 1) (y := y) (by omega) (by omega); omega
        · omega
  have hh : hit vs cs n x = true := (hit_iff hg hx).2 (.inr ⟨h1, h2⟩)
  rcases h with ⟨y, hy, h3, h4, rfl, rfl⟩ | ⟨h3, _⟩
  · obtain rfl := uniq y hy h3
    refine ⟨?_, rfl⟩
    have a2 := aS_mono hg (x := y + 1) (y := vs.length) (by omega) (Nat.le_refl _)
    rw [aS_next hy] at a2
    have e : (stR vs y vs[y]).told n = (0, false) := told_out (.inr (by show aS vs y + (vs[y].hi - (vs[y].lo + 1) + 1) < n; omega))
    have e2 : (ptR vs cs y vs[y]).told n = (vs[y].lo + (n - aP vs cs y - 1), true) := by
      rw [aP_next hy] at h2
      rw [told_in (by exact h1) (by show n ≤ aP vs cs y + (pTo cs vs[y] y - vs[y].lo + 1); omega)]
      simp only [ptR, Prod.mk.injEq, and_true]
      omega
    unfold meanR
    rw [e, e2, if_neg (by simp)]
  · have := h3 x hx
    rw [hh] at this
    cases this
theorem pick_in {c : Nat} (hc : c < cs.length) {r : Nat} (hr : r < rN cs[c]) : (pkR vs cs c cs[c]).pick r = (aK vs cs c + r + 1, 1) := by
  have e : (pkR vs cs c cs[c]).number r = (aK vs cs c + r + 1, 1) := by
    rw [number_in (by show (0 : Int) ≤ r; omega) (by show (r : Int) ≤ (rN cs[c] : Int) - 1; omega)]
    simp only [pkR, Prod.mk.injEq, and_true]
    omega
  unfold Run.pick
  rw [e, if_pos rfl]
theorem of_pick (hg : Good vs) (hgc : GoodC vs.length cs) (h : OfSays vs cs n m b) {c : Nat} (hc : c < cs.length) (h1 : aK vs cs c < n) (h2 : n ≤ aK vs cs (c + 1)) : m = ⟨0, 0, false, c, n - aK vs cs c - 1, true⟩ ∧ b = true := by
  have a1 := aK_bd hg hgc c (by omega)
  have nohit : ∀ y, y < vs.length → hit vs cs n y = false := fun y hy => by
    cases hh : hit vs cs n y
    · rfl
    · have a2 := aS_mono hg (x := y + 1) (y := vs.length) (by omega) (Nat.le_refl _)
      have a3 := aP_mono hg cs (x := y + 1) (y := vs.length) (by omega) (Nat.le_refl _)
      have a4 := aP_bd hg cs vs.length (Nat.le_refl _)
      rcases (hit_iff hg hy).1 hh with ⟨c1, c2⟩ | ⟨c1, c2⟩ <;> omega
  have tk : ∀ y (hy : y < cs.length), toldK vs cs n y = if n ≤ aK vs cs y ∨ aK vs cs (y + 1) < n then (0, false) else (n - aK vs cs y - 1, true) := fun y hy => by
    have e : toldK vs cs n y = (pkR vs cs y cs[y]).told n := by unfold toldK; rw [List.getElem?_eq_getElem hy]
    rw [e, aK_next hy]
    by_cases hh : n ≤ aK vs cs y ∨ aK vs cs y + (rN cs[y] : Int) < n
    · rw [if_pos hh]
      exact told_out (by show n ≤ aK vs cs y ∨ aK vs cs y + ((rN cs[y] : Int) - 1 - 0 + 1) < n; omega)
    · rw [if_neg hh, told_in (by show aK vs cs y < n; omega) (by show n ≤ aK vs cs y + ((rN cs[y] : Int) - 1 - 0 + 1); omega)]
      simp only [pkR, Prod.mk.injEq, and_true]
      omega
  rcases h with ⟨y, hy, h3, _⟩ | ⟨_, h | h⟩
  · rw [nohit y hy] at h3; cases h3
  · obtain ⟨y, hy, h3, h4, rfl, rfl⟩ := h
    have e : y = c := by
      rw [tk y hy] at h3
      split at h3
      · cases h3
      · by_cases e1 : y < c
        · have := aK_mono (vs := vs) (cs := cs) (x := y + 1) (y := c) (by omega) (by omega); omega
        · by_cases e2 : c < y
          · have := aK_mono (vs := vs) (cs := cs) (x := c + 1) (y := y) (by omega) (by omega); omega
          · omega
    subst e
    rw [tk y hy, if_neg (by omega)]
    exact ⟨rfl, rfl⟩
  · have := h.1 c hc
    rw [tk c hc, if_neg (by omega)] at this
    cases this
/-- A row of a Table is picked just if the values are it. -/
theorem pick_says {c : Md.Cn} {l : List Int} {r : Nat} (h8 : c.kind = 8) (hx : c.xs.length ≤ 8) (hr : r < c.rows.length) (hl : c.rows[r].length = c.xs.length) : pickP (rowsOf c) (xsOf c) l r = (List.range c.xs.length).all fun k => Md.val l (c.xs.getD k 0) == c.rows[r].getD k 0 := by
  have e1 : rowsOf c = c.rows := by unfold rowsOf; rw [if_pos h8]
  have e2 : xsOf c = c.xs := by unfold xsOf; rw [if_pos h8]
  rw [e1, e2]
  have en : ∀ k, k < 8 → ent c.rows (r * 8 + k) = c.rows[r].getD k 0 := fun k hk => ent_row hr hk
  have hv : ∀ k, k < 8 → (ent c.rows (r * 8 + k) == hereV c.xs l k) = (if k < c.xs.length then Md.val l (c.xs.getD k 0) == c.rows[r].getD k 0 else true) := fun k hk => by
    rw [en k hk]
    unfold hereV hereTo
    by_cases e : k < c.xs.length
    · rw [if_pos e, if_pos e]
      exact Bool.eq_iff_iff.2 (by simp only [beq_iff_eq]; exact eq_comm)
    · rw [if_neg e, if_neg e]
      have : c.rows[r].getD k 0 = 0 := by rw [List.getD_eq_getElem?_getD, List.getElem?_eq_none (by omega)]; rfl
      rw [this]
      rfl
  unfold pickP
  have h0 := hv 0 (by omega)
  rw [Nat.add_zero] at h0
  rw [h0, hv 1 (by omega), hv 2 (by omega), hv 3 (by omega), hv 4 (by omega), hv 5 (by omega), hv 6 (by omega), hv 7 (by omega)]
  have key : ∀ (q : Nat → Bool), ((((((((if 0 < c.xs.length then q 0 else true) && (if 1 < c.xs.length then q 1 else true)) && (if 2 < c.xs.length then q 2 else true)) && (if 3 < c.xs.length then q 3 else true)) && (if 4 < c.xs.length then q 4 else true)) && (if 5 < c.xs.length then q 5 else true)) && (if 6 < c.xs.length then q 6 else true)) && (if 7 < c.xs.length then q 7 else true)) = (List.range c.xs.length).all q := by
    intro q
    generalize c.xs.length = L at *
    match L, hx with
    | 0, _ | 1, _ | 2, _ | 3, _ | 4, _ | 5, _ | 6, _ | 7, _ | 8, _ => simp [List.range, List.range.loop, Bool.and_assoc]
    | n + 9, h => omega
  exact key (fun k => Md.val l (c.xs.getD k 0) == c.rows[r].getD k 0)
end
end Od
