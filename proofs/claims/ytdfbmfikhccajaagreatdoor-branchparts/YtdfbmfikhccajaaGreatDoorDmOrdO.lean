/-
  Cuts, as they come in.
-/
import Derived.Test.YtdfbmfikhccajaaGreatDoorDmOpenM
import Derived.Test.YtdfbmfikhccajaaGreatDoorJ41
namespace Go.Proofs.YtdfbmfikhccajaaGreatDoor
open Go.ChangeShapes Go.WideShapes Go.ChangeAt Go.RowKit Go.Deep

/-- Cuts in memory. -/
def CtsAt (w : World) (a : Option Addr) (L : List Ct) : Prop :=
  ∀ j (h : j < L.length), ∃ b off, a = some ⟨b, off, none⟩ ∧ w.cell? ⟨b, off + j * 3, none⟩ = some (.int .i64 L[j].k) ∧ w.cell? ⟨b, off + j * 3 + 1, none⟩ = some (.int .i64 L[j].x) ∧ w.cell? ⟨b, off + j * 3 + 2, none⟩ = some (.int .i64 L[j].v)
section
variable {H : Type} {enc : TypeId × Value → H} {w : World} {base : Nat} {spare : Nat → Bool} {held : Bool} {fuel : Nat} {cs : List Value} {x : DataW H × List MemPlace}
theorem und27c : Tryz.prog.underlying 27 = some (.slice 44) := by kernel_rfl
set_option maxRecDepth 100000 in
theorem cts_open (h : DataW.trod enc Tryz.prog w base spare held fuel 27 cs = some x) : ∃ a cap l, cs = [.slice a (List.length l) cap] ∧ l.length ≤ maxLen ∧ ∀ w', Below w.heap.size w w' → CtsAt w' a l := by
  rcases open_slice und27c h with ⟨rfl, _⟩ | ⟨a, len, cap, m, n, D, Pl, rfl, _, hl, hm, hmm, _, hx⟩
  · exact ⟨none, 0, [], rfl, Nat.zero_le _, fun w' _ j h => absurd h (Nat.not_lt_zero _)⟩
  · have hlm : len ≤ m := by rw [hmm]; split <;> omega
    have each : ∀ i, i < len → ∃ z : Ct, ∀ j u, [.int .i64 z.k, .int .i64 z.x, .int .i64 z.v][j]? = some u → w.cell? (a.add (i * 3 + j)) = some u := fun i hi => by
      obtain ⟨cs', h1, h2⟩ := hx i (by omega)
      rw [cells34p] at h1
      obtain ⟨zs, k2, _, _, hl, hzl, hf2⟩ := DataW.trod_struct und34 h2
      replace hl : cs'.length = 3 := hl.trans cells34p
      match cs', hl with
      | [v0, v1, v2], _ =>
        have q0 := hf2 0 _ rfl
        have q1 := hf2 1 _ rfl
        have q2 := hf2 2 _ rfl
        simp [cells3p] at q0 q1 q2
        have hz : ∀ i, i < 3 → ∃ y, zs[i]? = some y := fun i hi => ⟨zs[i]'(by rw [hzl]; exact hi), List.getElem?_eq_getElem _⟩
        obtain ⟨z0, r0⟩ := hz 0 (by decide)
        obtain ⟨z1, r1⟩ := hz 1 (by decide)
        obtain ⟨z2, r2⟩ := hz 2 (by decide)
        rw [r0] at q0; rw [r1] at q1; rw [r2] at q2
        obtain ⟨n1, h1', _, _⟩ := DataW.trod_int Tryz.underlying3 q0
        obtain ⟨n2, h2', _, _⟩ := DataW.trod_int Tryz.underlying3 q1
        obtain ⟨n3, h3', _, _⟩ := DataW.trod_int Tryz.underlying3 q2
        simp at h1' h2' h3'
        subst h1' h2' h3'
        obtain ⟨_, _, hcell⟩ := World.cells?_some h1
        refine ⟨⟨n1, n2, n3⟩, fun j u hj => ?_⟩
        have := hcell j (List.getElem?_eq_some_iff.1 hj).1
        rw [add_add] at this
        rw [this]; exact hj
    haveI : Inhabited Ct := ⟨⟨0, 0, 0⟩⟩
    obtain ⟨l, hll, hl2⟩ := list_of each
    refine ⟨some a, cap, l, by rw [hll], by omega, fun w' hb j hj => ?_⟩
    obtain ⟨b, off, spot⟩ := a
    have e0 := hl2 0 (Nat.lt_of_le_of_lt (Nat.zero_le _) hj) 0 _ rfl
    have hspot : spot = none := World.cell?_spot e0
    subst hspot
    have hbl : b < w.heap.size := World.block_lt_of_cell? w _ e0
    have he' : ∀ i u, [.int .i64 l[j].k, .int .i64 l[j].x, .int .i64 l[j].v][i]? = some u → w'.cell? ⟨b, off + j * 3 + i, none⟩ = some u := fun i u hu => by
      have := hl2 j hj i u hu
      rw [addr_none] at this
      rw [Nat.add_assoc]; exact (hb.cell (p := ⟨b, _, none⟩) hbl).trans this
    exact ⟨b, off, rfl, he' 0 _ rfl, he' 1 _ rfl, he' 2 _ rfl⟩
end
end Go.Proofs.YtdfbmfikhccajaaGreatDoor
