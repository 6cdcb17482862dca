/-
  A room: a struct of slices of the call's own, each with its label; what has no label stays.
-/
import Derived.Test.YtmhfabnpfkkbcaaGreatMdRow
namespace Go.Proofs.YtmhfabnpfkkbcaaGreat
open Go.RowKit

/-- Which blocks are the room's own: 0: not; 100: its struct; f + 1: the row of its field f. -/
abbrev Lab := Nat → Nat

/-- What has no label stays. -/
structure Agree (S S' : Lab) (w w' : World) : Prop where
  os : w'.os = w.os
  tape : w'.tape = w.tape
  output : w'.output = w.output
  size : w.heap.size ≤ w'.heap.size
  lab : ∀ k, k < w.heap.size → S' k = S k
  block : ∀ k, k < w.heap.size → S k = 0 → w'.heap[k]? = w.heap[k]?

theorem Agree.refl (S : Lab) (w : World) : Agree S S w w := ⟨rfl, rfl, rfl, Nat.le_refl _, fun _ _ => rfl, fun _ _ _ => rfl⟩
theorem Agree.trans {S1 S2 S3 : Lab} {w1 w2 w3 : World} (h : Agree S1 S2 w1 w2) (k : Agree S2 S3 w2 w3) : Agree S1 S3 w1 w3 :=
  ⟨k.os.trans h.os, k.tape.trans h.tape, k.output.trans h.output, Nat.le_trans h.size k.size, fun i hi => (k.lab i (Nat.lt_of_lt_of_le hi h.size)).trans (h.lab i hi),
    fun i hi h0 => (k.block i (Nat.lt_of_lt_of_le hi h.size) ((h.lab i hi).trans h0)).trans (h.block i hi h0)⟩
theorem Agree.of_below (S : Lab) {w w' : World} (hb : Below w.heap.size w w') : Agree S S w w' :=
  ⟨hb.os, hb.tape, hb.output, hb.size, fun _ _ => rfl, fun i hi _ => hb.block i hi⟩
theorem Agree.below {S S' : Lab} {w w' : World} {base : Nat} (h : Agree S S' w w') (hb : base ≤ w.heap.size) (h0 : ∀ k, k < base → S k = 0) : Below base w w' :=
  ⟨h.os, h.tape, h.output, h.size, fun i hi => h.block i (Nat.lt_of_lt_of_le hi hb) (h0 i hi)⟩
theorem Agree.cell {S S' : Lab} {w w' : World} (h : Agree S S' w w') {a : Addr} (ha : a.block < w.heap.size) (h0 : S a.block = 0) : w'.cell? a = w.cell? a :=
  World.cell?_of_block (h.block _ ha h0)

/-- The room: its struct lies in the block R; F tells what its rows have. -/
structure RoomAt (ety : Nat → TypeId) (base : Nat) (R : Nat) (S : Lab) (F : Nat → List Value) (w : World) : Prop where
  lab : S R = 100
  top : ∀ k, w.heap.size ≤ k → S k = 0
  low : ∀ k, k < base → S k = 0
  bas : base ≤ w.heap.size
  blk : ∃ cs t, w.heap[R]? = some (.cells cs t (0, 0)) ∧ cs.size = 28
  field : ∀ f, f < 28 → ∃ v, w.cell? ⟨R, f, none⟩ = some v ∧ w.ownsRow base (ety f) 1 v (F f).length (F f) ∧ ∀ g, v.ownBlock = some g → S g = f + 1

theorem RoomAt.lt {ety : Nat → TypeId} {base R : Nat} {S : Lab} {F : Nat → List Value} {w : World} (h : RoomAt ety base R S F w) : R < w.heap.size := by
  obtain ⟨cs, t, hb, _⟩ := h.blk
  exact (Array.getElem?_eq_some_iff.1 hb).1

theorem ownsRow_same {w w' : World} {base : Nat} {e : TypeId} {size : Nat} {v : Value} {n : Nat} {xs : List Value} (h : w.ownsRow base e size v n xs) (hb : ∀ g, v.ownBlock = some g → w'.heap[g]? = w.heap[g]?) : w'.ownsRow base e size v n xs := by
  refine ⟨h.1, ?_⟩
  rcases h.2 with hn | ⟨g, cap, cur, rfl, hbg, hgg, rest⟩
  · exact .inl hn
  · exact .inr ⟨g, cap, cur, rfl, hbg, (hb g rfl).trans hgg, rest⟩

/-- New blocks alone. -/
theorem RoomAt.kept {ety : Nat → TypeId} {base R : Nat} {S : Lab} {F : Nat → List Value} {w w' : World} (h : RoomAt ety base R S F w) (hb : Below w.heap.size w w') : RoomAt ety base R S F w' := by
  have hR := h.lt
  refine ⟨h.lab, fun k hk => h.top k (Nat.le_trans hb.size hk), h.low, Nat.le_trans h.bas hb.size, ?_, fun f hf => ?_⟩
  · obtain ⟨cs, t, h1, h2⟩ := h.blk
    exact ⟨cs, t, (hb.block R hR).trans h1, h2⟩
  · obtain ⟨v, h1, h2, h3⟩ := h.field f hf
    exact ⟨v, (hb.cell (p := ⟨R, f, none⟩) hR).trans h1, ownsRow_same h2 (fun g hg => hb.block g (h2.lt g hg).2), h3⟩

/-- The room's field, and what is written to it, behind an append that laid one cell more. -/
theorem RoomAt.push {ety : Nat → TypeId} {base R : Nat} {S : Lab} {F : Nat → List Value} {w W w' : World} {f : Nat} {v v' u : Value} (h : RoomAt ety base R S F w) (hf : f < 28) (hW : Below w.heap.size w W)
    (hv : w.cell? ⟨R, f, none⟩ = some v) (ho : w'.ownsRow base (ety f) 1 v' ((F f).length + 1) (F f ++ [u])) (hg : W.grownBy w' v.ownBlock) (hn : v'.ownBlock = v.ownBlock ∨ v'.ownBlock = some W.heap.size) :
    ∃ S', RoomAt ety base R S' (fun j => if j = f then F f ++ [u] else F j) (w'.setCell ⟨R, f, none⟩ v') ∧ Agree S S' w (w'.setCell ⟨R, f, none⟩ v') ∧ ∀ k, w.heap.size ≤ k → some k ≠ v'.ownBlock → S' k = 0 := by
  have hR := h.lt
  obtain ⟨v0, hv0, hov, hlv⟩ := h.field f hf
  have : v0 = v := by rw [hv] at hv0; injection hv0 with e; exact e.symm
  subst this
  have hvl : ∀ g, v0.ownBlock = some g → g < w.heap.size := fun g hg => (hov.lt g hg).2
  have hv'l := ho.lt
  have hneR : some R ≠ v0.ownBlock := fun he => by have h1 := hlv R he.symm; rw [h.lab] at h1; omega
  have hsz1 : w.heap.size ≤ W.heap.size := hW.size
  have blk1 : ∀ k, k < w.heap.size → some k ≠ v0.ownBlock → w'.heap[k]? = w.heap[k]? := fun k hk hne => (hg.block k (Nat.lt_of_lt_of_le hk hsz1) hne).trans (hW.block k hk)
  have blk2 : ∀ k, k < w.heap.size → some k ≠ v0.ownBlock → k ≠ R → (w'.setCell ⟨R, f, none⟩ v').heap[k]? = w.heap[k]? := fun k hk hne hkR => (Below.heap_setCell w' ⟨R, f, none⟩ v' k hkR).trans (blk1 k hk hne)
  have hsz2 : (w'.setCell ⟨R, f, none⟩ v').heap.size = w'.heap.size := by simp [World.setCell]
  have hRblk := blk1 R hR hneR
  obtain ⟨cs, t, hcs, hcsz⟩ := h.blk
  rw [hcs] at hRblk
  have hRnew : (w'.setCell ⟨R, f, none⟩ v').heap[R]? = some (.cells (cs.setIfInBounds f v') t (0, 0)) := by simp [World.setCell, Array.getElem?_modify, hRblk]
  have hv'R : v'.ownBlock ≠ some R := by
    rcases hn with e | e
    · rw [e]; exact fun he => hneR he.symm
    · rw [e]; intro he; injection he with he; omega
  refine ⟨fun k => if some k = v'.ownBlock then f + 1 else S k, ⟨?_, ?_, ?_, ?_, ?_, ?_⟩, ⟨?_, ?_, ?_, ?_, ?_, ?_⟩, ?_⟩
  · show (if some R = v'.ownBlock then f + 1 else S R) = 100
    rw [if_neg (fun he => hv'R he.symm)]; exact h.lab
  · intro k hk
    rw [hsz2] at hk
    show (if some k = v'.ownBlock then f + 1 else S k) = 0
    rw [if_neg (fun he => by have := (hv'l k he.symm).2; omega)]
    exact h.top k (by have := hg.size; omega)
  · intro k hk
    show (if some k = v'.ownBlock then f + 1 else S k) = 0
    rw [if_neg (fun he => by have := (hv'l k he.symm).1; omega)]
    exact h.low k hk
  · rw [hsz2]; exact Nat.le_trans h.bas (Nat.le_trans hsz1 hg.size)
  · exact ⟨_, t, hRnew, by simpa using hcsz⟩
  · intro j hj
    by_cases hjf : j = f
    · subst hjf
      refine ⟨v', ?_, ?_, ?_⟩
      · unfold World.cell?
        rw [hRnew]
        simp [hcsz, hj]
      · simp only [if_true]
        rw [List.length_append]
        refine ownsRow_same ho (fun g hg' => ?_)
        exact Below.heap_setCell w' ⟨R, j, none⟩ v' g (fun he => hv'R (by rw [hg', show g = R from he]))
      · intro g hg'
        show (if some g = v'.ownBlock then j + 1 else S g) = j + 1
        rw [if_pos hg'.symm]
    · obtain ⟨x, hx, hox, hlx⟩ := h.field j hj
      have hxlt := fun g hg => (hox.lt g hg).2
      have hxv : ∀ g, x.ownBlock = some g → some g ≠ v0.ownBlock := fun g hg he => by
        have h1 := hlx g hg
        have h2 := hlv g he.symm
        omega
      have hxR : ∀ g, x.ownBlock = some g → g ≠ R := fun g hg he => by
        have h1 := hlx g hg
        rw [he, h.lab] at h1; omega
      refine ⟨x, ?_, ?_, ?_⟩
      · have hx' : cs[j]? = some x := by
          have := hx
          unfold World.cell? at this
          rw [hcs] at this
          exact this
        unfold World.cell?
        rw [hRnew]
        show (cs.setIfInBounds f v')[j]? = some x
        rw [Array.getElem?_setIfInBounds_ne (fun he => hjf he.symm)]
        exact hx'
      · simp only [hjf, if_false]
        exact ownsRow_same hox (fun g hg => blk2 g (hxlt g hg) (hxv g hg) (hxR g hg))
      · intro g hg'
        show (if some g = v'.ownBlock then f + 1 else S g) = j + 1
        rw [if_neg ?_]
        · exact hlx g hg'
        · intro he
          rcases hn with e | e
          · exact hxv g hg' (he.trans e)
          · rw [e] at he
            injection he with he
            have := hxlt g hg'
            omega
  · exact (show (w'.setCell ⟨R, f, none⟩ v').os = w'.os from rfl).trans (hg.os.trans hW.os)
  · exact (show (w'.setCell ⟨R, f, none⟩ v').tape = w'.tape from rfl).trans (hg.tape.trans hW.tape)
  · exact (show (w'.setCell ⟨R, f, none⟩ v').output = w'.output from rfl).trans (hg.output.trans hW.output)
  · rw [hsz2]; exact Nat.le_trans hsz1 hg.size
  · intro k hk
    show (if some k = v'.ownBlock then f + 1 else S k) = S k
    split
    · rename_i he
      rcases hn with e | e
      · exact (hlv k (by rw [← e]; exact he.symm)).symm
      · rw [e] at he
        injection he with he
        omega
    · rfl
  · intro k hk h0
    refine blk2 k hk (fun he => ?_) (fun he => ?_)
    · have := hlv k he.symm; omega
    · rw [he, h.lab] at h0; omega
  · intro k hk hne
    show (if some k = v'.ownBlock then f + 1 else S k) = 0
    rw [if_neg hne]
    exact h.top k hk
/-- What has a label of 150 or more stays too. -/
theorem RoomAt.push_high {ety : Nat → TypeId} {base R : Nat} {S : Lab} {F : Nat → List Value} {w W w' : World} {f : Nat} {v v' : Value} (h : RoomAt ety base R S F w) (hf : f < 28) (hW : Below w.heap.size w W)
    (hv : w.cell? ⟨R, f, none⟩ = some v) (hg : W.grownBy w' v.ownBlock) : ∀ k, k < w.heap.size → 150 ≤ S k → (w'.setCell ⟨R, f, none⟩ v').heap[k]? = w.heap[k]? := by
  intro k hk hS
  obtain ⟨v0, hv0, hov, hlv⟩ := h.field f hf
  have : v0 = v := by rw [hv] at hv0; injection hv0 with e; exact e.symm
  subst this
  have h1 : some k ≠ v0.ownBlock := fun he => by have := hlv k he.symm; omega
  have h2 : k ≠ R := fun he => by rw [he, h.lab] at hS; omega
  exact (Below.heap_setCell w' ⟨R, f, none⟩ v' k h2).trans ((hg.block k (Nat.lt_of_lt_of_le hk hW.size) h1).trans (hW.block k hk))
end Go.Proofs.YtmhfabnpfkkbcaaGreat
