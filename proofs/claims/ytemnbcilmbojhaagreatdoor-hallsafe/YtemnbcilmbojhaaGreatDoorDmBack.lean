/-
  Package dom: Back.
-/
import Derived.Test.YtemnbcilmbojhaaGreatDoorDmMark
import Derived.Laws.CopyRow
namespace Go.Proofs.YtemnbcilmbojhaaGreatDoor
open Go.RowKit

def St.backB (s : St) (k : Int) : Bool := decide (0 ≤ k) && decide (k < (s.marks : Int))
def St.back (s : St) (k : Int) : St := if s.backB k then ⟨(s.noted.drop (k.toNat * s.now.length)).take s.now.length, s.noted.take (k.toNat * s.now.length), k.toNat⟩ else s
/-- What Back leaves. -/
def BackOut (B p : Nat) (nv mv : Value) (s : St) (k : Int) (w : World) (e : Ending) (w' : World) : Prop := ∃ mv', e = .returned (.bool (s.backB k)) ∧ StAt B w' p nv mv' (s.back k) ∧ Stp B p nv mv w w' ∧ ∀ g, mv'.ownBlock = some g → mv.ownBlock = some g

theorem dms_take (L : List Dm) (k : Nat) : dms (L.take k) = (dms L).take (k * 3) := by
  induction L generalizing k with
  | nil => simp [dms]
  | cons d L ih =>
    cases k with
    | zero => simp [dms]
    | succ k =>
      have e : ∀ (d : Dm) (L : List Dm), dms (d :: L) = .int .i64 d.f :: .int .u32 d.a :: .int .u32 d.b :: dms L := fun d L => by simp [dms, Dm.cells]
      rw [List.take_succ_cons, e, e, ih, show (k + 1) * 3 = k * 3 + 1 + 1 + 1 by omega, List.take_succ_cons, List.take_succ_cons, List.take_succ_cons]
theorem dms_drop (L : List Dm) (k : Nat) : dms (L.drop k) = (dms L).drop (k * 3) := by
  induction L generalizing k with
  | nil => simp [dms]
  | cons d L ih =>
    cases k with
    | zero => simp [dms]
    | succ k =>
      have e : ∀ (d : Dm) (L : List Dm), dms (d :: L) = .int .i64 d.f :: .int .u32 d.a :: .int .u32 d.b :: dms L := fun d L => by simp [dms, Dm.cells]
      rw [List.drop_succ_cons, e, ih, show (k + 1) * 3 = k * 3 + 1 + 1 + 1 by omega, List.drop_succ_cons, List.drop_succ_cons, List.drop_succ_cons]

end Go.Proofs.YtemnbcilmbojhaaGreatDoor
