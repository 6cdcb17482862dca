/-
  A row as it was written, as it comes in.
-/
import Derived.Test.YtjffbndiecjkjaaGreatDoorPbOfs
import Derived.Deep.Slices
import Derived.ChangeSame
import Derived.ChangeMaps
import Derived.WideShapes
import Derived.ProofKit
namespace Go.Proofs.YtjffbndiecjkjaaGreatDoor
open Go.ChangeShapes Go.WideShapes Go.ChangeAt Go.RowKit Go.Deep

theorem addr_none (b o j : Nat) : (⟨b, o, none⟩ : Addr).add j = ⟨b, o + j, none⟩ := by unfold Addr.add; split <;> simp_all
theorem list_of {α : Type} [Inhabited α] {n : Nat} {p : Nat → α → Prop} (h : ∀ i, i < n → ∃ a, p i a) : ∃ l : List α, l.length = n ∧ ∀ i (hi : i < l.length), p i l[i] := by
  obtain ⟨f, hf⟩ := choose_lt h
  exact ⟨(List.range n).map f, by simp, fun i hi => by simp only [List.getElem_map, List.getElem_range]; exact hf i (by simpa using hi)⟩
theorem und22o : Tryz.prog.underlying 22 = some (.slice 45) := by kernel_rfl
theorem und45o : Tryz.prog.underlying 45 = some (.struct #[⟨"C", 9, 0, false, "", "", 0⟩, ⟨"L", 3, 1, false, "", "", 16⟩]) := by kernel_rfl
theorem und24o : Tryz.prog.underlying 24 = some (.struct #[⟨"Pieces", 22, 0, false, "", "", 0⟩, ⟨"Degree", 9, 1, false, "", "", 24⟩]) := by kernel_rfl
theorem cells45p : Tryz.prog.cellsOf 45 = 2 := by kernel_rfl
theorem cells24p : Tryz.prog.cellsOf 24 = 2 := by kernel_rfl
theorem cells22p : Tryz.prog.cellsOf 22 = 1 := by kernel_rfl
theorem cells9p : Tryz.prog.cellsOf 9 = 1 := by kernel_rfl
theorem cells3p : Tryz.prog.cellsOf 3 = 1 := by kernel_rfl

section
variable {H : Type} {enc : TypeId × Value → H} {w : World} {base : Nat} {spare : Nat → Bool} {held : Bool} {fuel : Nat} {cs : List Value} {x : DataW H × List MemPlace}

set_option maxRecDepth 100000 in
theorem ap_open (h : DataW.trod enc Tryz.prog w base spare held fuel 22 cs = some x) : ∃ v l, cs = [v] ∧ ApAt w v l ∧ ∀ p ∈ l, p.1.size ≤ maxLen := by
  rcases open_slice und22o h with ⟨rfl, _⟩ | ⟨a, len, cap, m, n, D, Pl, rfl, _, hl, hm, hmm, _, hx⟩
  · exact ⟨_, [], rfl, ⟨none, 0, rfl, Nat.le_refl _, Nat.zero_le _, fun k h => absurd h (by simp)⟩, fun p h => by cases h⟩
  · have hlm : len ≤ m := by rw [hmm]; split <;> omega
    have each : ∀ i, i < len → ∃ z : ByteArray × Int, (w.cell? (a.add (i * 2)) = some (.string z.1) ∧ w.cell? (a.add (i * 2 + 1)) = some (.int .i64 z.2)) ∧ z.1.size ≤ maxLen := fun i hi => by
      obtain ⟨cs', h1, h2⟩ := hx i (by omega)
      rw [cells45p] at h1
      obtain ⟨xs, k, _, _, hl, hxl, hf⟩ := DataW.trod_struct und45o h2
      replace hl : cs'.length = 2 := hl.trans cells45p
      match cs', hl with
      | [v0, v1], _ =>
        have g0 := hf 0 _ rfl
        have g1 := hf 1 _ rfl
        simp [cells3p, cells9p] at g0 g1
        have hx : ∀ i, i < 2 → ∃ y, xs[i]? = some y := fun i hi => ⟨xs[i]'(by rw [hxl]; exact hi), List.getElem?_eq_getElem _⟩
        obtain ⟨y0, e0⟩ := hx 0 (by decide)
        obtain ⟨y1, e1⟩ := hx 1 (by decide)
        rw [e0] at g0; rw [e1] at g1
        obtain ⟨s, h0, _, hs⟩ := DataW.trod_string Tryz.underlying9 g0
        obtain ⟨n1, h1', _, _⟩ := DataW.trod_int Tryz.underlying3 g1
        simp at h0 h1'
        subst h0 h1'
        obtain ⟨_, _, hcell⟩ := World.cells?_some h1
        have e0 := hcell 0 (by simp)
        have e1 := hcell 1 (by simp)
        rw [add_add] at e0 e1
        exact ⟨⟨s, n1⟩, ⟨by simpa using e0, by simpa using e1⟩, hs⟩
    haveI : Inhabited (ByteArray × Int) := ⟨⟨⟨#[]⟩, 0⟩⟩
    obtain ⟨l, hll, hl2⟩ := list_of each
    refine ⟨_, l, rfl, ⟨some a, cap, by rw [hll], by omega, by omega, fun j hj => ?_⟩, fun x hx => ?_⟩
    · obtain ⟨b, off, spot⟩ := a
      have e0 := (hl2 0 (by omega)).1.1
      have hspot : spot = none := World.cell?_spot e0
      subst hspot
      have := (hl2 j hj).1
      rw [addr_none, addr_none] at this
      exact ⟨b, off, rfl, World.block_lt_of_cell? w _ this.1, this.1, by rw [Nat.add_assoc]; exact this.2⟩
    · obtain ⟨i, hi, rfl⟩ := List.getElem_of_mem hx
      exact (hl2 i hi).2

set_option maxRecDepth 100000 in
theorem row_open (h : DataW.trod enc Tryz.prog w base spare held fuel 24 cs = some x) : ∃ v l s, cs = [v, .string s] ∧ ApAt w v l ∧ (∀ p ∈ l, p.1.size ≤ maxLen) ∧ s.size ≤ maxLen := by
  obtain ⟨xs, k, _, _, hl, hxl, hf⟩ := DataW.trod_struct und24o h
  replace hl : cs.length = 2 := hl.trans cells24p
  match cs, hl with
  | [v0, v1], _ =>
    have g0 := hf 0 _ rfl
    have g1 := hf 1 _ rfl
    simp [cells22p, cells9p] at g0 g1
    have hx : ∀ i, i < 2 → ∃ y, xs[i]? = some y := fun i hi => ⟨xs[i]'(by rw [hxl]; exact hi), List.getElem?_eq_getElem _⟩
    obtain ⟨y0, e0⟩ := hx 0 (by decide)
    obtain ⟨y1, e1⟩ := hx 1 (by decide)
    rw [e0] at g0; rw [e1] at g1
    obtain ⟨u0, l0, h0, A0, S0⟩ := ap_open g0
    obtain ⟨s, h1, _, hs⟩ := DataW.trod_string Tryz.underlying9 g1
    simp at h0 h1
    subst h0 h1
    exact ⟨_, l0, s, rfl, A0, S0, hs⟩
end
end Go.Proofs.YtjffbndiecjkjaaGreatDoor
