/-
  Put together: MdIns, MdOpenM.
-/
import Derived.Test.YtchpapppkmnfnaaGreatDoorJ18
import Derived.Test.YtchpapppkmnfnaaGreatDoorMdRow
import Derived.Test.YtchpapppkmnfnaaGreatDoorMdOpen
import Derived.Deep.QuietTactic
import Derived.BigQuiet
namespace Go.Proofs.YtchpapppkmnfnaaGreatDoor
open Go.RowKit

theorem info3 : (Tryz.prog.info? 3).map (fun i => (i.zero, i.size, i.bytes)) = some (some (.int .i64 0), 1, 8) := by kernel_rfl
end Go.Proofs.YtchpapppkmnfnaaGreatDoor

namespace Go.Proofs.YtchpapppkmnfnaaGreatDoor
open Go.ChangeShapes Go.WideShapes Go.ChangeAt Go.RowKit Go.Deep

theorem und22 : Tryz.prog.underlying 22 = some (.slice 34) := by kernel_rfl
theorem und23 : Tryz.prog.underlying 23 = some (.slice 78) := by kernel_rfl

theorem und78 : Tryz.prog.underlying 34 = some (.struct #[⟨"Name", 9, 0, false, "", "", 0⟩, ⟨"Lo", 3, 1, false, "", "", 16⟩, ⟨"Hi", 3, 2, false, "", "", 24⟩]) := by kernel_rfl
theorem und26 : Tryz.prog.underlying 26 = some (.struct #[⟨"Vars", 22, 0, false, "", "", 0⟩, ⟨"Cons", 23, 1, false, "", "", 24⟩, ⟨"HasGoal", 4, 2, false, "", "", 48⟩, ⟨"Goal", 24, 3, false, "", "", 56⟩]) := by kernel_rfl
theorem cells78p : Tryz.prog.cellsOf 34 = 3 := by kernel_rfl
theorem cells26p : Tryz.prog.cellsOf 26 = 4 := by kernel_rfl
theorem cells9p : Tryz.prog.cellsOf 9 = 1 := by kernel_rfl
theorem cells4p : Tryz.prog.cellsOf 4 = 1 := by kernel_rfl
theorem cells22p : Tryz.prog.cellsOf 22 = 1 := by kernel_rfl
theorem cells23p : Tryz.prog.cellsOf 23 = 1 := by kernel_rfl

section
variable {H : Type} {enc : TypeId × Value → H} {w : World} {base : Nat} {spare : Nat → Bool} {held : Bool} {fuel : Nat} {cs : List Value} {x : DataW H × List MemPlace}

set_option maxRecDepth 100000 in
theorem vars_open (h : DataW.trod enc Tryz.prog w base spare held fuel 22 cs = some x) : ∃ v l, cs = [v] ∧ VarsAt w v l ∧ ∀ a n cp, v = .slice a n cp → n ≤ cp := by
  rcases open_slice und22 h with ⟨rfl, _⟩ | ⟨a, len, cap, m, n, D, Pl, rfl, _, hl, hm, hmm, _, hx⟩
  · exact ⟨_, [], rfl, ⟨none, 0, rfl, Nat.zero_le _, fun x hx => by simp at hx, fun h => absurd h (by decide)⟩, fun a n cp h => by injection h with h1 h2 h3; omega⟩
  · have hlm : len ≤ m := by rw [hmm]; split <;> omega
    have each : ∀ i, i < len → ∃ z : Md.Vr, (w.cell? (a.add (i * 3)) = some (.string z.name) ∧ w.cell? (a.add (i * 3 + 1)) = some (.int .i64 z.lo) ∧ w.cell? (a.add (i * 3 + 2)) = some (.int .i64 z.hi)) ∧ z.name.size ≤ maxLen := fun i hi => by
      obtain ⟨cs', h1, h2⟩ := hx i (by omega)
      rw [cells78p] at h1
      obtain ⟨xs, k, _, _, hl, hxl, hf⟩ := DataW.trod_struct und78 h2
      replace hl : cs'.length = 3 := hl.trans cells78p
      match cs', hl with
      | [v0, v1, v2], _ =>
        have g0 := hf 0 _ rfl
        have g1 := hf 1 _ rfl
        have g2 := hf 2 _ rfl
        simp [cells3p, cells9p] at g0 g1 g2
        have hx : ∀ i, i < 3 → ∃ y, xs[i]? = some y := fun i hi => ⟨xs[i]'(by rw [hxl]; exact hi), List.getElem?_eq_getElem _⟩
        obtain ⟨y0, e0⟩ := hx 0 (by decide)
        obtain ⟨y1, e1⟩ := hx 1 (by decide)
        obtain ⟨y2, e2⟩ := hx 2 (by decide)
        rw [e0] at g0; rw [e1] at g1; rw [e2] at g2
        obtain ⟨s, h0, _, hs⟩ := DataW.trod_string Tryz.underlying9 g0
        obtain ⟨n1, h1', _, _⟩ := DataW.trod_int Tryz.underlying3 g1
        obtain ⟨n2, h2', _, _⟩ := DataW.trod_int Tryz.underlying3 g2
        simp at h0 h1' h2'
        subst h0 h1' h2'
        obtain ⟨_, _, hcell⟩ := World.cells?_some h1
        have e0 := hcell 0 (by simp)
        have e1 := hcell 1 (by simp)
        have e2 := hcell 2 (by simp)
        rw [add_add] at e0 e1 e2
        exact ⟨⟨s, n1, n2⟩, ⟨by simpa using e0, by simpa using e1, by simpa using e2⟩, hs⟩
    haveI : Inhabited Md.Vr := ⟨⟨⟨#[]⟩, 0, 0⟩⟩
    obtain ⟨l, hll, hl2⟩ := list_of each
    refine ⟨_, l, rfl, ⟨some a, cap, by rw [hll], by omega, fun x hx => ?_, fun h0 => ?_⟩, fun a n cp h => by injection h with h1 h2 h3; omega⟩
    · obtain ⟨i, hi, rfl⟩ := List.getElem_of_mem hx
      exact (hl2 i hi).2
    · obtain ⟨b, off, spot⟩ := a
      have e0 := (hl2 0 h0).1.1
      have hspot : spot = none := World.cell?_spot e0
      subst hspot
      refine ⟨b, off, rfl, World.block_lt_of_cell? w _ e0, fun j hj => ?_⟩
      have := (hl2 j hj).1
      rw [addr_none, addr_none, addr_none] at this
      exact ⟨this.1, by rw [Nat.add_assoc]; exact this.2.1, by rw [Nat.add_assoc]; exact this.2.2⟩

end
end Go.Proofs.YtchpapppkmnfnaaGreatDoor
