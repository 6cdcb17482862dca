/-
  Put together: MdIns, MdInsM.
-/
import Derived.Test.YtdfbmfikhccajaaDoorMdIn
import Derived.Test.YtdfbmfikhccajaaDoorJ04
import Derived.Test.YtdfbmfikhccajaaDoorMdOpen
import Derived.Deep.QuietTactic
import Derived.BigQuiet
namespace Go.Proofs.YtdfbmfikhccajaaDoor
open Go.RowKit

theorem info3 : (Tryd.prog.info? 3).map (fun i => (i.zero, i.size, i.bytes)) = some (some (.int .i64 0), 1, 8) := by kernel_rfl
/-- The value at a place, within the bounds. -/
def insV (vars : List Md.Vr) (l : List Int) (j : Nat) : Int :=
  match vars[j]? with
  | some v => (match l[j]? with | some a => v.lo + plc a (v.hi - v.lo + 1) | none => v.lo)
  | none => 0
def insL (vars : List Md.Vr) (l : List Int) (k : Nat) : List Value := (List.range k).map fun j => .int .i64 (insV vars l j)
theorem insL_next (vars : List Md.Vr) (l : List Int) (k : Nat) : insL vars l (k + 1) = insL vars l k ++ [.int .i64 (insV vars l k)] := by
  unfold insL; rw [List.range_succ]; simp
theorem insV_a {vars : List Md.Vr} {l : List Int} {k : Nat} (h : k < vars.length) (h2 : k < l.length) : insV vars l k = vars[k].lo + plc l[k] (vars[k].hi - vars[k].lo + 1) := by
  unfold insV; rw [List.getElem?_eq_getElem h, List.getElem?_eq_getElem h2]
theorem insV_b {vars : List Md.Vr} {l : List Int} {k : Nat} (h : k < vars.length) (h2 : ¬ k < l.length) : insV vars l k = vars[k].lo := by
  unfold insV; rw [List.getElem?_eq_getElem h, List.getElem?_eq_none (by omega)]
theorem own_dn {w : World} {B e size n : Nat} {v : Value} {xs : List Value} (h : w.ownsRow B e size v n xs) : ∀ q, (w.drewN q).ownsRow B e size v n xs
  | 0 => h
  | q + 1 => (own_dn h q).drew

theorem own_lower {w : World} {B B' e size n : Nat} {v : Value} {xs : List Value} (h : w.ownsRow B e size v n xs) (hB : B' ≤ B) : w.ownsRow B' e size v n xs := by
  refine ⟨h.1, ?_⟩
  rcases h.2 with h2 | ⟨g, cap, cur, hv, hg, rest⟩
  · exact .inl h2
  · exact .inr ⟨g, cap, cur, hv, Nat.le_trans hB hg, rest⟩

end Go.Proofs.YtdfbmfikhccajaaDoor

namespace Go.Proofs.YtdfbmfikhccajaaDoor
open Go.RowKit

/-- The values that inside makes. -/
def insI (vars : List Md.Vr) (l : List Int) : List Int := (List.range vars.length).map (insV vars l)
theorem insI_len (vars : List Md.Vr) (l : List Int) : (insI vars l).length = vars.length := by simp [insI]
theorem insL_eq (vars : List Md.Vr) (l : List Int) : insL vars l vars.length = (insI vars l).map (.int .i64) := by simp [insL, insI]
theorem insV_in {vars : List Md.Vr} {l : List Int} {k : Nat} (h : k < vars.length) (hb : Md.boundsB vars[k].lo vars[k].hi = true) : vars[k].lo ≤ insV vars l k ∧ insV vars l k ≤ vars[k].hi := by
  obtain ⟨_, _, b5, b6⟩ := Md.bounds_of hb
  by_cases h2 : k < l.length
  · rw [insV_a h h2]
    obtain ⟨q1, q2⟩ := plc_in l[k] (vars[k].hi - vars[k].lo + 1) (by omega)
    omega
  · rw [insV_b h h2]
    omega
theorem insI_num {vars : List Md.Vr} {l : List Int} (hb : ∀ v ∈ vars, Md.boundsB v.lo v.hi = true) : (insI vars l).all Md.numB = true := by
  rw [List.all_eq_true]
  intro x hx
  obtain ⟨k, hk, rfl⟩ := List.mem_map.1 hx
  have hk : k < vars.length := List.mem_range.1 hk
  have h := insV_in (l := l) hk (hb _ (List.getElem_mem hk))
  obtain ⟨⟨b1, b2⟩, ⟨b3, b4⟩, _⟩ := Md.bounds_of (hb _ (List.getElem_mem hk))
  simp only [Md.numB, decide_eq_true_eq]
  omega

/-- A row of the call's own, of ints. -/
theorem own_ints {w : World} {B : Nat} {v : Value} {l : List Int} (h : w.ownsRow B 3 1 v l.length (l.map (.int .i64))) (hm : l.length ≤ maxLen) : IntsAt w v l := by
  rcases h.2 with ⟨rfl, hn⟩ | ⟨g, cap, cur, rfl, hg, hc, _, _, _, ht⟩
  · exact ⟨none, 0, by rw [hn], hm, fun h0 => by omega⟩
  · refine ⟨_, cap, rfl, hm, fun _ => ⟨g, 0, rfl, (Array.getElem?_eq_some_iff.1 hc).1, fun j hj => ?_⟩⟩
    have hj2 : (cur.toList.take (l.length * 1))[j]? = some (.int .i64 l[j]) := by rw [ht]; simp [hj]
    rw [List.getElem?_take, if_pos (by omega)] at hj2
    have hj3 : cur[j]? = some (.int .i64 l[j]) := by simpa using hj2
    simp [World.cell?, hc, hj3]
end Go.Proofs.YtdfbmfikhccajaaDoor
