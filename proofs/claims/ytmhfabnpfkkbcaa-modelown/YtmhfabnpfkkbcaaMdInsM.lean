/-
  What inside makes lies within the bounds.
-/
import Derived.Test.YtmhfabnpfkkbcaaMdIns
import Derived.Test.YtmhfabnpfkkbcaaMdLists
namespace Go.Proofs.Ytmhfabnpfkkbcaa
open Go.RowKit

/-- The values that inside makes. -/
def insI (vars : List Md.Vr) (l : List Int) : List Int := (List.range vars.length).map (insV vars l)
theorem insI_len (vars : List Md.Vr) (l : List Int) : (insI vars l).length = vars.length := by simp [insI]
theorem insL_eq (vars : List Md.Vr) (l : List Int) : insL vars l vars.length = (insI vars l).map (.int .i64) := by simp [insL, insI]
theorem insV_in {vars : List Md.Vr} {l : List Int} {k : Nat} (h : k < vars.length) (hb : Md.boundsB vars[k].lo vars[k].hi = true) : vars[k].lo ≤ insV vars l k ∧ insV vars l k ≤ vars[k].hi := by
  obtain ⟨_, _, b5, b6⟩ := Md.bounds_of hb
  by_cases h2 : k < l.length
  · rw [insV_a h h2]
    obtain ⟨q1, q2⟩ := plc_in l[k] (vars[k].hi - vars[k].lo + 1) (by omega)
    omega
  · rw [insV_b h h2]
    omega
theorem insI_within {vars : List Md.Vr} {l : List Int} (hb : ∀ v ∈ vars, Md.boundsB v.lo v.hi = true) : Md.Within vars (insI vars l) := by
  refine ⟨insI_len _ _, fun x h0 h1 => ?_⟩
  obtain ⟨k, rfl⟩ : ∃ k : Nat, x = (k : Int) := ⟨x.toNat, by omega⟩
  have hk : k < vars.length := by omega
  have e1 : Md.varAt vars (k : Int) = vars[k] := by simp [Md.varAt, hk]
  have e2 : Md.val (insI vars l) (k : Int) = insV vars l k := by simp [Md.val, insI, hk]
  rw [e1, e2]
  exact insV_in hk (hb _ (List.getElem_mem hk))
theorem insI_num {vars : List Md.Vr} {l : List Int} (hb : ∀ v ∈ vars, Md.boundsB v.lo v.hi = true) : (insI vars l).all Md.numB = true := by
  rw [List.all_eq_true]
  intro x hx
  obtain ⟨k, hk, rfl⟩ := List.mem_map.1 hx
  have hk : k < vars.length := List.mem_range.1 hk
  have h := insV_in (l := l) hk (hb _ (List.getElem_mem hk))
  obtain ⟨⟨b1, b2⟩, ⟨b3, b4⟩, _⟩ := Md.bounds_of (hb _ (List.getElem_mem hk))
  simp only [Md.numB, decide_eq_true_eq]
  omega

/-- A row of the call's own, of ints. -/
theorem own_ints {w : World} {B : Nat} {v : Value} {l : List Int} (h : w.ownsRow B 3 1 v l.length (l.map (.int .i64))) (hm : l.length ≤ maxLen) : IntsAt w v l := by
  rcases h.2 with ⟨rfl, hn⟩ | ⟨g, cap, cur, rfl, hg, hc, _, _, _, ht⟩
  · exact ⟨none, 0, by rw [hn], hm, fun h0 => by omega⟩
  · refine ⟨_, cap, rfl, hm, fun _ => ⟨g, 0, rfl, (Array.getElem?_eq_some_iff.1 hc).1, fun j hj => ?_⟩⟩
    have hj2 : (cur.toList.take (l.length * 1))[j]? = some (.int .i64 l[j]) := by rw [ht]; simp [hj]
    rw [List.getElem?_take, if_pos (by omega)] at hj2
    have hj3 : cur[j]? = some (.int .i64 l[j]) := by simpa using hj2
    simp [World.cell?, hc, hj3]
theorem worth_mid {m : Md.Mo} {l : List Int} (hR : Md.Right m) (hc : (Md.check m).2 = 0) (hg : ∀ t ∈ m.goal, 0 ≤ t.2 ∧ t.2 < (m.vars.length : Int)) : Md.floor m ≤ Md.worth m (insI m.vars l) ∧ Md.worth m (insI m.vars l) ≤ Md.ceil m := by
  have hb : ∀ v ∈ m.vars, Md.boundsB v.lo v.hi = true := fun v hv => (hR.var v hv).2
  unfold Md.floor Md.worth Md.ceil
  rw [if_pos hc, if_pos hc, if_pos ⟨hc, insI_len _ _, insI_num hb⟩]
  exact Md.sum_between (insI_within hb) hg
end Go.Proofs.Ytmhfabnpfkkbcaa
