/-
  A new room; a constraint and values laid in it.
-/
import Derived.Test.YtjanpglnahagdaaGreatDoorJ31
import Derived.Test.YtjanpglnahagdaaGreatDoorJ06
import Derived.Test.YtjanpglnahagdaaGreatDoorJ29
namespace Go.Proofs.YtjanpglnahagdaaGreatDoor
open Go.RowKit

/-- The label of a new room. -/
def lab0 (R : Nat) : Lab := fun k => if k = R then 100 else 0
theorem room_new (base : Nat) (w : World) (hb : base ≤ w.heap.size) (cs : List Value) (hc : cs = List.replicate 28 (.slice none 0 0)) : RoomAt ety base w.heap.size (lab0 w.heap.size) (fun _ => []) (w.alloc (.cells cs.toArray 48)) := by
  subst hc
  have hn : (w.alloc (.cells (List.replicate 28 (.slice none 0 0)).toArray 48)).heap[w.heap.size]? = some (.cells (List.replicate 28 (.slice none 0 0)).toArray 48) := heap_alloc_new w _
  refine ⟨by simp [lab0], fun k hk => ?_, fun k hk => ?_, by simp; omega, ⟨_, _, hn, by simp⟩, fun f hf => ⟨.slice none 0 0, ?_, World.ownsRow_nil _ _ _ _, fun g hg => by simp [Value.ownBlock] at hg⟩⟩
  · have : w.heap.size < k := by simp at hk; omega
    simp [lab0]; omega
  · simp [lab0]; omega
  · have h28 : (List.replicate 28 (Value.slice none 0 0)).toArray[f]? = some (.slice none 0 0) := by rw [List.getElem?_toArray, List.getElem?_replicate, if_pos hf]
    simp only [World.cell?, hn, h28]
    rfl

theorem costC_bounds {c : Md.Cn} {n : Nat} (h : costC c + n ≤ 20000) : (c.terms.length ≤ 100000 ∧ c.xs.length ≤ 100000 ∧ c.table.length ≤ 100000 ∧ c.rows.length ≤ 100000 ∧ ∀ r ∈ c.rows, r.length ≤ 100000) ∧ n ≤ 100000 ∧ c.rows.length ≤ 20000 := by
  have hr : ∀ r ∈ c.rows, r.length + 1 ≤ costL c.rows := fun r hr => costL_mem hr
  have hl : ∀ l : List (List Int), l.length ≤ costL l := by
    intro l
    induction l with
    | nil => simp
    | cons r l ih => simp only [costL, List.length_cons]; omega
  have := hl c.rows
  unfold costC at h
  exact ⟨⟨by omega, by omega, by omega, by omega, fun r h => by have := hr r h; omega⟩, by omega, by omega⟩

/-- What Con and Ints leave, one behind the other. -/
structure Laid2 (base R : Nat) (c : Md.Cn) (vs : List Int) (bT bX bB bL bV : Nat) (w : World) : Prop where
  hold : ∃ S F, HoldOk base R S F w
  cn : CnAt w c (.slice (some ⟨bT, 0, none⟩) c.terms.length (c.terms.length + 40)) (.slice (some ⟨bX, 0, none⟩) c.xs.length (c.xs.length + 40)) (.slice (some ⟨bB, 0, none⟩) c.table.length (c.table.length + 40)) (.slice (some ⟨bL, 0, none⟩) c.rows.length (c.rows.length + 40))
  vals : IntsAt w (.slice (some ⟨bV, 0, none⟩) vs.length (vs.length + 40)) vs
theorem Laid2.below {base R : Nat} {c : Md.Cn} {vs : List Int} {bT bX bB bL bV : Nat} {w w' : World} (h : Laid2 base R c vs bT bX bB bL bV w) (hb : Below w.heap.size w w') : Laid2 base R c vs bT bX bB bL bV w' := by
  obtain ⟨S, F, hh⟩ := h.hold
  exact ⟨⟨S, F, hh.below hb⟩, h.cn.below hb, h.vals.below hb⟩

theorem laid2_of {base R : Nat} {S5 S6 : Lab} {F5 F6 : Nat → List Value} {w5 w6 : World} {c : Md.Cn} {vs : List Int} {bT bX bB bL bV cT cX cB cL cV : Nat} {D : List Row1} {M : List Nat}
    (hcost : costC c + vs.length ≤ 20000)
    (hR6 : RoomAt ety base R S6 F6 w6) (hA6 : Agree S5 S6 w5 w6)
    (dT : DataT S5 w5 bT c.terms 40) (dX : DataI S5 w5 bX c.xs 40) (dB : DataI S5 w5 bB c.table 40) (dL : DataL S5 w5 bL c.rows D M 40)
    (f0 : F5 0 = [.slice (some ⟨bX, 0, none⟩) (c.xs.length + 40) cX, .slice (some ⟨bB, 0, none⟩) (c.table.length + 40) cB] ++ D.map Row1.ent) (f1 : F5 1 = [.int .i64 (c.xs.length : Int), .int .i64 (c.table.length : Int)] ++ D.map Row1.at_)
    (f4 : F5 4 = [.slice (some ⟨bT, 0, none⟩) (c.terms.length + 40) cT]) (f5 : F5 5 = [.int .i64 (c.terms.length : Int)]) (f16 : F5 16 = [.slice (some ⟨bL, 0, none⟩) (c.rows.length + 40) cL]) (f17 : F5 17 = [.int .i64 (c.rows.length : Int)])
    (fn : ∀ j, j ≠ 0 → j ≠ 1 → j ≠ 4 → j ≠ 5 → j ≠ 16 → j ≠ 17 → F5 j = [])
    (g0 : F6 0 = F5 0 ++ [.slice (some ⟨bV, 0, none⟩) (vs.length + 40) cV]) (g1 : F6 1 = F5 1 ++ [.int .i64 (vs.length : Int)]) (gn : ∀ j, j ≠ 0 → j ≠ 1 → F6 j = F5 j)
    (hb6 : bV < w6.heap.size) (hl6 : S6 bV = 0) (hc6 : ∀ j u, (laidInts vs 40)[j]? = some u → w6.cell? ⟨bV, j, none⟩ = some u) : Laid2 base R c vs bT bX bB bL bV w6 := by
  obtain ⟨⟨l1, l2, l3, l4, l5⟩, l6, l7⟩ := costC_bounds hcost
  have dV : DataI S6 w6 bV vs 40 := ⟨hl6, hb6, hc6⟩
  have eT := dT.agree hA6
  have eX := dX.agree hA6
  have eB := dB.agree hA6
  have eL := dL.agree hA6
  have hDl : D.length = c.rows.length := by have := congrArg List.length eL.rows; simpa using this
  have hDr : ∀ r ∈ D, r.l.length ≤ 100000 := fun r hr => l5 _ (by rw [← eL.rows]; exact List.mem_map_of_mem hr)
  refine ⟨⟨S6, F6, ⟨hR6, ?_, ?_, ?_, ?_, ?_, ?_, ?_⟩⟩, ⟨eT.terms l1, eX.ints l2, fun a n cp h => by injection h with h1 h2 h3; omega, eB.ints l3, eL.rowsAt l4 l5⟩, dV.ints l6⟩
  · rw [g0, g1, f0, f1]
    refine All2.append (All2.append ⟨eX.ent l2 (by decide) _, eB.ent l3 (by decide) _, trivial⟩ (rows_ent eL.ok hDr)) ⟨dV.ent l6 (by decide) _, trivial⟩
  · rw [gn 4 (by decide) (by decide), gn 5 (by decide) (by decide), f4, f5]
    exact ⟨eT.ent l1 (by decide) _, trivial⟩
  · rw [gn 16 (by decide) (by decide), gn 17 (by decide) (by decide), f16, f17]
    exact ⟨eL.ent l4 (by decide) _, trivial⟩
  · rw [g0, f0]; simp; omega
  · rw [gn 4 (by decide) (by decide), f4]; simp
  · rw [gn 16 (by decide) (by decide), f16]; simp
  · intro j a0 a1 a4 a5 a16 a17
    rw [gn j a0 a1]; exact fn j a0 a1 a4 a5 a16 a17
end Go.Proofs.YtjanpglnahagdaaGreatDoor
