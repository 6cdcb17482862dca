/-
  ModelWorth's loop, as lists.
-/
import Derived.Test.YtmhfabnpfkkbcaaMdInsM
namespace Go.Proofs.Ytmhfabnpfkkbcaa

/-- After i terms: L reaches the floor's part, T the ceiling's. -/
structure WDone (m : Md.Mo) (i : Nat) (L T : List Int) : Prop where
  l : Md.Within m.vars L
  t : Md.Within m.vars T
  low : ∀ t ∈ m.goal.take i, Md.val L t.2 = if t.1 < 0 then (Md.varAt m.vars t.2).hi else (Md.varAt m.vars t.2).lo
  top : ∀ t ∈ m.goal.take i, Md.val T t.2 = if t.1 < 0 then (Md.varAt m.vars t.2).lo else (Md.varAt m.vars t.2).hi

theorem val_set {L : List Int} {x : Nat} {z y : Int} (hx : x < L.length) (hy : 0 ≤ y) : Md.val (L.set x z) y = if y = (x : Int) then z else Md.val L y := by
  obtain ⟨k, rfl⟩ : ∃ k : Nat, y = (k : Int) := ⟨y.toNat, by omega⟩
  unfold Md.val
  rw [Int.toNat_natCast, List.getD_eq_getElem?_getD, List.getD_eq_getElem?_getD, List.getElem?_set]
  by_cases h : x = k
  · subst h; simp [hx]
  · rw [if_neg h, if_neg (by omega)]
theorem within_set {l : List Md.Vr} {L : List Int} (h : Md.Within l L) {x : Nat} (hx : x < l.length) {z : Int} (h1 : (Md.varAt l x).lo ≤ z) (h2 : z ≤ (Md.varAt l x).hi) : Md.Within l (L.set x z) := by
  refine ⟨by rw [List.length_set]; exact h.1, fun y h0 hy => ?_⟩
  rw [val_set (by rw [h.1]; exact hx) h0]
  by_cases e : y = (x : Int)
  · rw [if_pos e, e]; exact ⟨h1, h2⟩
  · rw [if_neg e]; exact h.2 y h0 hy
theorem within_num {l : List Md.Vr} {L : List Int} (h : Md.Within l L) (hb : ∀ v ∈ l, Md.boundsB v.lo v.hi = true) : L.all Md.numB = true := by
  rw [List.all_eq_true]
  intro z hz
  obtain ⟨k, hk, rfl⟩ := List.mem_iff_getElem.1 hz
  have hkl : k < l.length := by rw [← h.1]; exact hk
  have h1 := h.2 (k : Int) (by omega) (by omega)
  have e1 : Md.varAt l (k : Int) = l[k] := by simp [Md.varAt, hkl]
  have e2 : Md.val L (k : Int) = L[k] := by simp [Md.val, hk]
  rw [e1, e2] at h1
  obtain ⟨⟨b1, b2⟩, ⟨b3, b4⟩, _⟩ := Md.bounds_of (hb _ (List.getElem_mem hkl))
  simp only [Md.numB, decide_eq_true_eq]
  omega
theorem WDone.start {m : Md.Mo} {l : List Int} (hb : ∀ v ∈ m.vars, Md.boundsB v.lo v.hi = true) : WDone m 0 (insI m.vars l) (insI m.vars l) :=
  ⟨insI_within hb, insI_within hb, fun t ht => by simp at ht, fun t ht => by simp at ht⟩
theorem WDone.step {m : Md.Mo} {i x : Nat} {L T : List Int} (h : WDone m i L T) (hi : i < m.goal.length) (hx : m.goal[i].2 = (x : Int)) (hxl : x < m.vars.length) (hp : ∀ t ∈ m.goal.take i, 0 ≤ t.2 ∧ t.2 ≠ (x : Int)) (hb : (Md.varAt m.vars x).lo ≤ (Md.varAt m.vars x).hi) :
    WDone m (i + 1) (L.set x (if m.goal[i].1 < 0 then (Md.varAt m.vars x).hi else (Md.varAt m.vars x).lo)) (T.set x (if m.goal[i].1 < 0 then (Md.varAt m.vars x).lo else (Md.varAt m.vars x).hi)) := by
  have hl : x < L.length := by rw [h.l.1]; exact hxl
  have ht : x < T.length := by rw [h.t.1]; exact hxl
  refine ⟨within_set h.l hxl ?_ ?_, within_set h.t hxl ?_ ?_, fun t hm => ?_, fun t hm => ?_⟩
  · split <;> omega
  · split <;> omega
  · split <;> omega
  · split <;> omega
  · rw [List.take_succ_eq_append_getElem hi, List.mem_append, List.mem_singleton] at hm
    rcases hm with hm | rfl
    · rw [val_set hl (hp t hm).1, if_neg (hp t hm).2]; exact h.low t hm
    · rw [hx, val_set hl (by omega), if_pos rfl]
  · rw [List.take_succ_eq_append_getElem hi, List.mem_append, List.mem_singleton] at hm
    rcases hm with hm | rfl
    · rw [val_set ht (hp t hm).1, if_neg (hp t hm).2]; exact h.top t hm
    · rw [hx, val_set ht (by omega), if_pos rfl]
theorem WDone.last {m : Md.Mo} {L T : List Int} (h : WDone m m.goal.length L T) (hR : Md.Right m) (hc : (Md.check m).2 = 0) : Md.worth m L = Md.floor m ∧ Md.worth m T = Md.ceil m := by
  have hb : ∀ v ∈ m.vars, Md.boundsB v.lo v.hi = true := fun v hv => (hR.var v hv).2
  have h1 := h.low
  have h2 := h.top
  rw [List.take_length] at h1 h2
  unfold Md.worth Md.floor Md.ceil
  rw [if_pos hc, if_pos hc, if_pos ⟨hc, h.l.1, within_num h.l hb⟩, if_pos ⟨hc, h.t.1, within_num h.t hb⟩]
  exact ⟨Md.low_reached h1, Md.top_reached h2⟩
end Go.Proofs.Ytmhfabnpfkkbcaa
