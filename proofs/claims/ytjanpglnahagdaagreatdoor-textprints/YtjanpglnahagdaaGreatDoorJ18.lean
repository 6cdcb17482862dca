/-
  Put together: MdHoldI, MdHoldN, MdLayK.
-/
import Derived.Test.YtjanpglnahagdaaGreatDoorJ13
import Derived.WalkSmall
import Derived.Test.YtjanpglnahagdaaGreatDoorJ10
import Derived.Test.YtjanpglnahagdaaGreatDoorMdFewM
namespace Go.Proofs.YtjanpglnahagdaaGreatDoor
open Go.RowKit

set_option maxRecDepth 10000 in
set_option maxHeartbeats 2000000 in
theorem holdInts_any (base R : Nat) (S : Lab) (F : Nat → List Value) (w : World) (hR : RoomAt ety base R S F w) (hG : All2 (EntI w) (F 0) (F 1)) (hlen : (F 0).length ≤ 1000000) :
    Calls Tryz.prog 28 #[.pointer (some ⟨R, 0, none⟩)] w fun e w' => e = .returned (.bool true) ∧ Below w.heap.size w w' := by
  obtain ⟨v0, hv0, ho0, _⟩ := hR.field 0 (by decide)
  obtain ⟨v1, hv1, ho1, _⟩ := hR.field 1 (by decide)
  have hl := hG.len
  have HG : Hid (All2 (EntI w) (F 0) (F 1)) := hG
  have hRl := hR.lt
  obtain ⟨X, hX⟩ : ∃ X, F 0 = X := ⟨_, rfl⟩
  obtain ⟨A, hA⟩ : ∃ A, F 1 = A := ⟨_, rfl⟩
  rw [hX] at HG ho0 hlen hl
  rw [hA] at HG ho1 hl
  obtain ⟨xa, xc, rfl⟩ := own_form ho0
  obtain ⟨aa, ac, rfl⟩ := own_form ho1
  have HOX : Hid (∀ i (hi : i < X.length), ∃ g, xa = some ⟨g, 0, none⟩ ∧ w.cell? ⟨g, i, none⟩ = some X[i]) := fun i hi => row_cell ho0 i hi
  have HOA : Hid (∀ i (hi : i < A.length), ∃ g, aa = some ⟨g, 0, none⟩ ∧ w.cell? ⟨g, i, none⟩ = some A[i]) := fun i hi => row_cell ho1 i hi
  rw [← hl] at hv1
  have HLE : Hid (X.length = A.length) := hl
  clear hR hG ho0 ho1 hX hA hl
  go_enter Tryz.func28, Tryz.ntmps28
  go_wp2_with fail
  go_loopw [3] (fun iv wr => ∃ k : Nat, iv = .int .i64 (k : Int) ∧ k ≤ X.length ∧ Hid (Below w.heap.size w wr)) (fun iv _ => X.length - (intOf iv).toNat)
  case atStart => exact ⟨0, rfl, Nat.zero_le _, Below.refl _ _⟩
  case round =>
    obtain ⟨k, rfl, hk, hB⟩ := hrel
    have r0 := (hB.out.cell (p := ⟨R, 0, none⟩) hRl).trans hv0
    have r1 := (hB.out.cell (p := ⟨R, 1, none⟩) hRl).trans hv1
    by_cases hlt : k < X.length
    · have hkI : (k : Int) < (X.length : Int) := by omega
      have hltA : k < A.length := by have := HLE.out; omega
      obtain ⟨gx, rfl, hcx⟩ := HOX.out k hlt
      obtain ⟨ga, rfl, hca⟩ := HOA.out k hltA
      obtain ⟨b, n, room, cap, hx, ha, hn, hroom, hmark⟩ := HG.out.get k hlt hltA
      rw [hx] at hcx
      rw [ha] at hca
      have hgx := World.block_lt_of_cell? w _ hcx
      have hga := World.block_lt_of_cell? w _ hca
      have s0 := (hB.out.cell (p := ⟨gx, k, none⟩) hgx).trans hcx
      have s1 := (hB.out.cell (p := ⟨ga, k, none⟩) hga).trans hca
      have HMK : Hid (∀ j, j < room → w.cell? ⟨b, n + j, none⟩ = some (.int .i64 (lotI j))) := hmark
      have HS0 : Hid (∀ w', Below w.heap.size w w' → w'.cell? ⟨gx, k, none⟩ = some (.slice (some ⟨b, 0, none⟩) (n + room) cap)) := fun w' hb => (hb.cell (p := ⟨gx, k, none⟩) hgx).trans hcx
      clear hx ha hcx hca hmark
      go_wp2_with fail
      go_loopw [5] (fun jv wq => ∃ j : Nat, jv = .int .i64 ((n : Int) + (j : Int)) ∧ j ≤ room ∧ Hid (Below w.heap.size w wq)) (fun jv _ => n + room - (intOf jv).toNat)
      case atStart => exact ⟨0, by simp, Nat.zero_le _, hB⟩
      case round =>
        obtain ⟨j, rfl, hj, hQ⟩ := hrel
        clear s0 s1 r0 r1
        have r0 := (hQ.out.cell (p := ⟨R, 0, none⟩) hRl).trans hv0
        have s0 := HS0.out _ hQ.out
        by_cases hjl : j < room
        · have hjI : (n : Int) + (j : Int) < (n : Int) + (room : Int) := by omega
          have hc := HMK.out j hjl
          have hbl := World.block_lt_of_cell? w _ hc
          have hcw := (hQ.out.cell (p := ⟨b, n + j, none⟩) hbl).trans hc
          have hbd : (n : Int) + (j : Int) ≤ 1000000 := by omega
          have hsub : (n : Int) + (j : Int) - (n : Int) = (j : Int) := by omega
          have HLOT : Hid (∀ w', Calls Tryz.prog 60 #[.int .i64 (j : Int)] w' fun e w'' => e = .returned (.int .i64 (lotI j)) ∧ w'' = w') := fun w' => lot_any j w'
          generalize lotI j = y at *
          go_wp2_with (go_at_call 60; refine calls_at (HLOT.out _) (by first | (with_reducible rfl) | (simp [hsub])) (by with_reducible rfl) ?_; rintro e w' ⟨rfl, hww⟩; rw [hww])
          go_roundw
          case rel => exact ⟨j + 1, by go_num, by omega, hQ⟩
          case measure => simp [intOf]; omega
        · have hjI : ¬ (n : Int) + (j : Int) < (n : Int) + (room : Int) := by omega
          go_wp2_with fail
          go_roundw
          case rel => exact ⟨k + 1, by go_num, by omega, hQ⟩
          case measure => simp [intOf]; omega
    · have hkI : ¬ (k : Int) < (X.length : Int) := by omega
      go_wp2_with fail
      go_ret
      exact ⟨rfl, hB.out⟩
end Go.Proofs.YtjanpglnahagdaaGreatDoor

namespace Go.Proofs.YtjanpglnahagdaaGreatDoor
open Go.RowKit

set_option maxRecDepth 10000 in
set_option maxHeartbeats 400000 in
theorem hold58 (base R : Nat) (S : Lab) (F : Nat → List Value) (w : World) (hR : RoomAt ety base R S F w) (hF : F 2 = []) : Calls Tryz.prog 29 #[.pointer (some ⟨R, 0, none⟩)] w fun e w' => e = .returned (.bool true) ∧ Below w.heap.size w w' := by
  obtain ⟨v0, hv0, ho0, _⟩ := hR.field 2 (by decide)
  rw [hF] at ho0
  obtain ⟨xa, xc, rfl⟩ := own_form ho0
  simp only [List.length_nil] at hv0
  clear hR ho0 hF
  go_enter Tryz.func29, Tryz.ntmps29
  go_wp2_with fail
  go_loop [3] (fun iv => iv = .int .i64 0) (fun _ => 0)
  case atStart => rfl
  case round =>
    subst hrel
    go_wp2_with fail
    go_ret
    exact ⟨rfl, Below.refl _ _⟩

set_option maxRecDepth 10000 in
set_option maxHeartbeats 400000 in
theorem hold60 (base R : Nat) (S : Lab) (F : Nat → List Value) (w : World) (hR : RoomAt ety base R S F w) (hF : F 6 = []) : Calls Tryz.prog 31 #[.pointer (some ⟨R, 0, none⟩)] w fun e w' => e = .returned (.bool true) ∧ Below w.heap.size w w' := by
  obtain ⟨v0, hv0, ho0, _⟩ := hR.field 6 (by decide)
  rw [hF] at ho0
  obtain ⟨xa, xc, rfl⟩ := own_form ho0
  simp only [List.length_nil] at hv0
  clear hR ho0 hF
  go_enter Tryz.func31, Tryz.ntmps31
  go_wp2_with fail
  go_loop [3] (fun iv => iv = .int .i64 0) (fun _ => 0)
  case atStart => rfl
  case round =>
    subst hrel
    go_wp2_with fail
    go_ret
    exact ⟨rfl, Below.refl _ _⟩

set_option maxRecDepth 10000 in
set_option maxHeartbeats 400000 in
theorem hold61 (base R : Nat) (S : Lab) (F : Nat → List Value) (w : World) (hR : RoomAt ety base R S F w) (hF : F 8 = []) : Calls Tryz.prog 32 #[.pointer (some ⟨R, 0, none⟩)] w fun e w' => e = .returned (.bool true) ∧ Below w.heap.size w w' := by
  obtain ⟨v0, hv0, ho0, _⟩ := hR.field 8 (by decide)
  rw [hF] at ho0
  obtain ⟨xa, xc, rfl⟩ := own_form ho0
  simp only [List.length_nil] at hv0
  clear hR ho0 hF
  go_enter Tryz.func32, Tryz.ntmps32
  go_wp2_with fail
  go_loop [3] (fun iv => iv = .int .i64 0) (fun _ => 0)
  case atStart => rfl
  case round =>
    subst hrel
    go_wp2_with fail
    go_ret
    exact ⟨rfl, Below.refl _ _⟩

set_option maxRecDepth 10000 in
set_option maxHeartbeats 400000 in
theorem hold62 (base R : Nat) (S : Lab) (F : Nat → List Value) (w : World) (hR : RoomAt ety base R S F w) (hF : F 10 = []) : Calls Tryz.prog 33 #[.pointer (some ⟨R, 0, none⟩)] w fun e w' => e = .returned (.bool true) ∧ Below w.heap.size w w' := by
  obtain ⟨v0, hv0, ho0, _⟩ := hR.field 10 (by decide)
  rw [hF] at ho0
  obtain ⟨xa, xc, rfl⟩ := own_form ho0
  simp only [List.length_nil] at hv0
  clear hR ho0 hF
  go_enter Tryz.func33, Tryz.ntmps33
  go_wp2_with fail
  go_loop [3] (fun iv => iv = .int .i64 0) (fun _ => 0)
  case atStart => rfl
  case round =>
    subst hrel
    go_wp2_with fail
    go_ret
    exact ⟨rfl, Below.refl _ _⟩

set_option maxRecDepth 10000 in
set_option maxHeartbeats 400000 in
theorem hold63 (base R : Nat) (S : Lab) (F : Nat → List Value) (w : World) (hR : RoomAt ety base R S F w) (hF : F 12 = []) : Calls Tryz.prog 34 #[.pointer (some ⟨R, 0, none⟩)] w fun e w' => e = .returned (.bool true) ∧ Below w.heap.size w w' := by
  obtain ⟨v0, hv0, ho0, _⟩ := hR.field 12 (by decide)
  rw [hF] at ho0
  obtain ⟨xa, xc, rfl⟩ := own_form ho0
  simp only [List.length_nil] at hv0
  clear hR ho0 hF
  go_enter Tryz.func34, Tryz.ntmps34
  go_wp2_with fail
  go_loop [3] (fun iv => iv = .int .i64 0) (fun _ => 0)
  case atStart => rfl
  case round =>
    subst hrel
    go_wp2_with fail
    go_ret
    exact ⟨rfl, Below.refl _ _⟩

set_option maxRecDepth 10000 in
set_option maxHeartbeats 400000 in
theorem hold64 (base R : Nat) (S : Lab) (F : Nat → List Value) (w : World) (hR : RoomAt ety base R S F w) (hF : F 14 = []) : Calls Tryz.prog 35 #[.pointer (some ⟨R, 0, none⟩)] w fun e w' => e = .returned (.bool true) ∧ Below w.heap.size w w' := by
  obtain ⟨v0, hv0, ho0, _⟩ := hR.field 14 (by decide)
  rw [hF] at ho0
  obtain ⟨xa, xc, rfl⟩ := own_form ho0
  simp only [List.length_nil] at hv0
  clear hR ho0 hF
  go_enter Tryz.func35, Tryz.ntmps35
  go_wp2_with fail
  go_loop [3] (fun iv => iv = .int .i64 0) (fun _ => 0)
  case atStart => rfl
  case round =>
    subst hrel
    go_wp2_with fail
    go_ret
    exact ⟨rfl, Below.refl _ _⟩

set_option maxRecDepth 10000 in
set_option maxHeartbeats 400000 in
theorem hold66 (base R : Nat) (S : Lab) (F : Nat → List Value) (w : World) (hR : RoomAt ety base R S F w) (hF : F 18 = []) : Calls Tryz.prog 37 #[.pointer (some ⟨R, 0, none⟩)] w fun e w' => e = .returned (.bool true) ∧ Below w.heap.size w w' := by
  obtain ⟨v0, hv0, ho0, _⟩ := hR.field 18 (by decide)
  rw [hF] at ho0
  obtain ⟨xa, xc, rfl⟩ := own_form ho0
  simp only [List.length_nil] at hv0
  clear hR ho0 hF
  go_enter Tryz.func37, Tryz.ntmps37
  go_wp2_with fail
  go_loop [3] (fun iv => iv = .int .i64 0) (fun _ => 0)
  case atStart => rfl
  case round =>
    subst hrel
    go_wp2_with fail
    go_ret
    exact ⟨rfl, Below.refl _ _⟩

set_option maxRecDepth 10000 in
set_option maxHeartbeats 400000 in
theorem hold67 (base R : Nat) (S : Lab) (F : Nat → List Value) (w : World) (hR : RoomAt ety base R S F w) (hF : F 20 = []) : Calls Tryz.prog 38 #[.pointer (some ⟨R, 0, none⟩)] w fun e w' => e = .returned (.bool true) ∧ Below w.heap.size w w' := by
  obtain ⟨v0, hv0, ho0, _⟩ := hR.field 20 (by decide)
  rw [hF] at ho0
  obtain ⟨xa, xc, rfl⟩ := own_form ho0
  simp only [List.length_nil] at hv0
  clear hR ho0 hF
  go_enter Tryz.func38, Tryz.ntmps38
  go_wp2_with fail
  go_loop [3] (fun iv => iv = .int .i64 0) (fun _ => 0)
  case atStart => rfl
  case round =>
    subst hrel
    go_wp2_with fail
    go_ret
    exact ⟨rfl, Below.refl _ _⟩

set_option maxRecDepth 10000 in
set_option maxHeartbeats 400000 in
theorem hold68 (base R : Nat) (S : Lab) (F : Nat → List Value) (w : World) (hR : RoomAt ety base R S F w) (hF : F 22 = []) : Calls Tryz.prog 39 #[.pointer (some ⟨R, 0, none⟩)] w fun e w' => e = .returned (.bool true) ∧ Below w.heap.size w w' := by
  obtain ⟨v0, hv0, ho0, _⟩ := hR.field 22 (by decide)
  rw [hF] at ho0
  obtain ⟨xa, xc, rfl⟩ := own_form ho0
  simp only [List.length_nil] at hv0
  clear hR ho0 hF
  go_enter Tryz.func39, Tryz.ntmps39
  go_wp2_with fail
  go_loop [3] (fun iv => iv = .int .i64 0) (fun _ => 0)
  case atStart => rfl
  case round =>
    subst hrel
    go_wp2_with fail
    go_ret
    exact ⟨rfl, Below.refl _ _⟩

set_option maxRecDepth 10000 in
set_option maxHeartbeats 400000 in
theorem hold69 (base R : Nat) (S : Lab) (F : Nat → List Value) (w : World) (hR : RoomAt ety base R S F w) (hF : F 24 = []) : Calls Tryz.prog 40 #[.pointer (some ⟨R, 0, none⟩)] w fun e w' => e = .returned (.bool true) ∧ Below w.heap.size w w' := by
  obtain ⟨v0, hv0, ho0, _⟩ := hR.field 24 (by decide)
  rw [hF] at ho0
  obtain ⟨xa, xc, rfl⟩ := own_form ho0
  simp only [List.length_nil] at hv0
  clear hR ho0 hF
  go_enter Tryz.func40, Tryz.ntmps40
  go_wp2_with fail
  go_loop [3] (fun iv => iv = .int .i64 0) (fun _ => 0)
  case atStart => rfl
  case round =>
    subst hrel
    go_wp2_with fail
    go_ret
    exact ⟨rfl, Below.refl _ _⟩

set_option maxRecDepth 10000 in
set_option maxHeartbeats 400000 in
theorem hold70 (base R : Nat) (S : Lab) (F : Nat → List Value) (w : World) (hR : RoomAt ety base R S F w) (hF : F 26 = []) : Calls Tryz.prog 41 #[.pointer (some ⟨R, 0, none⟩)] w fun e w' => e = .returned (.bool true) ∧ Below w.heap.size w w' := by
  obtain ⟨v0, hv0, ho0, _⟩ := hR.field 26 (by decide)
  rw [hF] at ho0
  obtain ⟨xa, xc, rfl⟩ := own_form ho0
  simp only [List.length_nil] at hv0
  clear hR ho0 hF
  go_enter Tryz.func41, Tryz.ntmps41
  go_wp2_with fail
  go_loop [3] (fun iv => iv = .int .i64 0) (fun _ => 0)
  case atStart => rfl
  case round =>
    subst hrel
    go_wp2_with fail
    go_ret
    exact ⟨rfl, Below.refl _ _⟩
end Go.Proofs.YtjanpglnahagdaaGreatDoor

namespace Go.Proofs.YtjanpglnahagdaaGreatDoor
open Go.RowKit

/-- A row of the call's own, with a label of its own, that grows. -/
theorem row_step {base R b0 : Nat} {S1 : Lab} {F1 : Nat → List Value} {w1 W1 w2 : World} {fv fv' : Value} (hR : RoomAt ety base R S1 F1 w1) (hl : ∀ g, fv.ownBlock = some g → S1 g = 160 ∧ b0 ≤ g ∧ g < w1.heap.size) (hbase : base ≤ b0)
    (hW : Below w1.heap.size w1 W1) (hg : W1.grownBy w2 fv.ownBlock) (hn : fv'.ownBlock = fv.ownBlock ∨ ∃ g, fv'.ownBlock = some g ∧ w1.heap.size ≤ g) (ho : ∀ g, fv'.ownBlock = some g → g < w2.heap.size) :
    ∃ S2 : Lab, RoomAt ety base R S2 F1 w2 ∧ Agree S1 S2 w1 w2 ∧ ∀ g, fv'.ownBlock = some g → S2 g = 160 := by
  have gw := grownBy_of_below hW hg
  have hsz := gw.size
  have hRl := hR.lt
  have hbs := hR.bas
  have key : ∀ k, fv'.ownBlock = some k → (S1 k = 160 ∧ b0 ≤ k) ∨ w1.heap.size ≤ k := fun k hk => by
    rcases hn with e | ⟨g, e, hge⟩
    · rw [e] at hk; exact .inl ⟨(hl k hk).1, (hl k hk).2.1⟩
    · rw [e] at hk; injection hk with hk; exact .inr (by omega)
  have kept : ∀ k, k < w1.heap.size → S1 k ≠ 160 → w2.heap[k]? = w1.heap[k]? := fun k hk hS => gw.block k hk (fun e => hS (hl k e.symm).1)
  refine ⟨fun k => if fv'.ownBlock = some k then 160 else S1 k, ⟨?_, fun k hk => ?_, fun k hk => ?_, Nat.le_trans hbs hsz, ?_, fun f hf => ?_⟩, ⟨gw.os, gw.tape, gw.output, hsz, fun k hk => ?_, fun k hk h0 => kept k hk (by rw [h0]; decide)⟩, fun g hg' => by simp [hg']⟩
  · have : fv'.ownBlock ≠ some R := fun h => by
      rcases key R h with h1 | h1
      · rw [hR.lab] at h1; omega
      · omega
    simp [this, hR.lab]
  · have : fv'.ownBlock ≠ some k := fun h => by have := ho k h; omega
    simp [this]
    exact hR.top k (by omega)
  · have : fv'.ownBlock ≠ some k := fun h => by
      rcases key k h with h1 | h1 <;> omega
    simp [this]
    exact hR.low k hk
  · obtain ⟨cs, t, h1, h2⟩ := hR.blk
    exact ⟨cs, t, (kept R hRl (by rw [hR.lab]; decide)).trans h1, h2⟩
  · obtain ⟨v, h1, h2, h3⟩ := hR.field f hf
    refine ⟨v, (World.cell?_of_block (a := ⟨R, f, none⟩) (kept R hRl (by rw [hR.lab]; decide))).trans h1, ownsRow_same h2 (fun g hg' => kept g (h2.lt g hg').2 (by rw [h3 g hg']; omega)), fun g hg' => ?_⟩
    have : fv'.ownBlock ≠ some g := fun h => by
      have a := h3 g hg'
      have b := (h2.lt g hg').2
      rcases key g h with h1 | h1 <;> omega
    simp [this]
    exact h3 g hg'
  · by_cases h : fv'.ownBlock = some k
    · simp [h]
      rcases key k h with h1 | h1
      · exact h1.1.symm
      · omega
    · simp [h]
/-- A label that is taken back. -/
theorem RoomAt.free {base R b : Nat} {S : Lab} {F : Nat → List Value} {w : World} (h : RoomAt ety base R S F w) (hb : S b = 160) : RoomAt ety base R (fun k => if k = b then 0 else S k) F w := by
  refine ⟨?_, fun k hk => ?_, fun k hk => ?_, h.bas, h.blk, fun f hf => ?_⟩
  · have : R ≠ b := fun e => by rw [← e, h.lab] at hb; omega
    simp [this, h.lab]
  · by_cases e : k = b
    · simp [e]
    · simp [e]; exact h.top k hk
  · by_cases e : k = b
    · simp [e]
    · simp [e]; exact h.low k hk
  · obtain ⟨v, h1, h2, h3⟩ := h.field f hf
    refine ⟨v, h1, h2, fun g hg => ?_⟩
    have a := h3 g hg
    have : g ≠ b := fun e => by rw [← e, a] at hb; omega
    simp [this, a]

/-- A constraint that was laid within a list. -/
structure Con1 where
  bT : Nat
  bX : Nat
  bB : Nat
  bL : Nat
  cT : Nat
  cX : Nat
  cB : Nat
  cL : Nat
  D : List Row1
  M : List Nat
  c : Md.Cn
def Con1.cells (d : Con1) : List Value := [.int .i64 d.c.kind, .int .i64 d.c.op, .slice (some ⟨d.bT, 0, none⟩) d.c.terms.length (d.c.terms.length + 4), .int .i64 d.c.k, .int .i64 d.c.v, .int .i64 d.c.x, .int .i64 d.c.y, .slice (some ⟨d.bX, 0, none⟩) d.c.xs.length (d.c.xs.length + 4), .slice (some ⟨d.bB, 0, none⟩) d.c.table.length (d.c.table.length + 4), .slice (some ⟨d.bL, 0, none⟩) d.c.rows.length (d.c.rows.length + 4)]
def consCells (D : List Con1) : List Value := D.flatMap Con1.cells
def Con1.entI (d : Con1) : List Value := [.slice (some ⟨d.bX, 0, none⟩) (d.c.xs.length + 4) d.cX, .slice (some ⟨d.bB, 0, none⟩) (d.c.table.length + 4) d.cB] ++ d.D.map Row1.ent
def Con1.atI (d : Con1) : List Value := [.int .i64 (d.c.xs.length : Int), .int .i64 (d.c.table.length : Int)] ++ d.D.map Row1.at_
def Con1.entT (d : Con1) : Value := .slice (some ⟨d.bT, 0, none⟩) (d.c.terms.length + 4) d.cT
def Con1.atT (d : Con1) : Value := .int .i64 (d.c.terms.length : Int)
def Con1.entL (d : Con1) : Value := .slice (some ⟨d.bL, 0, none⟩) (d.c.rows.length + 4) d.cL
def Con1.atL (d : Con1) : Value := .int .i64 (d.c.rows.length : Int)
structure Con1.Ok (S : Lab) (w : World) (d : Con1) : Prop where
  t : DataT S w d.bT d.c.terms 4
  x : DataI S w d.bX d.c.xs 4
  b : DataI S w d.bB d.c.table 4
  l : DataL S w d.bL d.c.rows d.D d.M 4
theorem Con1.Ok.agree {S S' : Lab} {w w' : World} {d : Con1} (h : d.Ok S w) (ha : Agree S S' w w') : d.Ok S' w' := ⟨h.t.agree ha, h.x.agree ha, h.b.agree ha, h.l.agree ha⟩
theorem DataI.free {S S' : Lab} {w : World} {b : Nat} {l : List Int} {room : Nat} (h : DataI S w b l room) (hs : ∀ k, S k = 0 → S' k = 0) : DataI S' w b l room := ⟨hs _ h.lab, h.lt, h.cells⟩
theorem Con1.Ok.free {S S' : Lab} {w : World} {d : Con1} (h : d.Ok S w) (hs : ∀ k, S k = 0 → S' k = 0) : d.Ok S' w :=
  ⟨⟨hs _ h.t.lab, h.t.lt, h.t.cells⟩, h.x.free hs, h.b.free hs, ⟨hs _ h.l.lab, h.l.lt, h.l.rows, fun r hr => (h.l.ok r hr).free hs, h.l.len, fun i hi => ⟨hs _ (h.l.marks i hi).1, (h.l.marks i hi).2⟩, h.l.cells⟩⟩

/-- How many entries there are. -/
theorem ents_le : ∀ D : List Con1, (∀ d ∈ D, d.D.length = d.c.rows.length) → (D.flatMap Con1.entI).length ≤ 2 * costK (D.map Con1.c) ∧ (D.flatMap Con1.atI).length ≤ 2 * costK (D.map Con1.c) ∧ D.length ≤ costK (D.map Con1.c)
  | [], _ => by simp
  | d :: D, h => by
    have ih := ents_le D (fun x hx => h x (by simp [hx]))
    have hd := h d (by simp)
    have hr : d.c.rows.length ≤ costL d.c.rows := by
      generalize d.c.rows = l
      induction l with
      | nil => simp
      | cons r l ih => simp only [costL, List.length_cons]; omega
    simp only [List.flatMap_cons, List.length_append, Con1.entI, Con1.atI, List.length_cons, List.length_nil, List.length_map, List.map_cons, costK, costC] at *
    omega
theorem costK_take (l : List Md.Cn) (k : Nat) : costK (l.take k) ≤ costK l := by
  have h := costK_append (l.take k) (l.drop k)
  rw [List.take_append_drop] at h
  omega

/-- Where the first loop of layCons stands. -/
structure LK1 (base R : Nat) (S0 : Lab) (F0 : Nat → List Value) (w : World) (l : List Md.Cn) (k : Nat) (fv : Value) (S : Lab) (F : Nat → List Value) (D : List Con1) (wr : World) : Prop where
  room : RoomAt ety base R S F wr
  agree : Agree S0 S w wr
  own : wr.ownsRow w.heap.size 64 10 fv D.length (consCells D)
  lab : ∀ g, fv.ownBlock = some g → S g = 160
  rows : D.map Con1.c = l.take k
  ok : ∀ d ∈ D, d.Ok S wr
  f0 : F 0 = F0 0 ++ D.flatMap Con1.entI
  f1 : F 1 = F0 1 ++ D.flatMap Con1.atI
  f4 : F 4 = F0 4 ++ D.map Con1.entT
  f5 : F 5 = F0 5 ++ D.map Con1.atT
  f16 : F 16 = F0 16 ++ D.map Con1.entL
  f17 : F 17 = F0 17 ++ D.map Con1.atL
  f : ∀ j, j ≠ 0 → j ≠ 1 → j ≠ 4 → j ≠ 5 → j ≠ 16 → j ≠ 17 → F j = F0 j
  high : ∀ k, k < w.heap.size → 150 ≤ S0 k → wr.heap[k]? = w.heap[k]?
theorem LK1.len {base R : Nat} {S0 : Lab} {F0 : Nat → List Value} {w : World} {l : List Md.Cn} {k : Nat} {fv : Value} {S : Lab} {F : Nat → List Value} {D : List Con1} {wr : World} (h : LK1 base R S0 F0 w l k fv S F D wr) (hk : k ≤ l.length) : D.length = k := by
  have := congrArg List.length h.rows
  simp at this
  omega
theorem LK1.sizes {base R : Nat} {S0 : Lab} {F0 : Nat → List Value} {w : World} {l : List Md.Cn} {k : Nat} {fv : Value} {S : Lab} {F : Nat → List Value} {D : List Con1} {wr : World} (h : LK1 base R S0 F0 w l k fv S F D wr) (hc : costK l ≤ 20000) : (D.flatMap Con1.entI).length ≤ 40000 ∧ (D.flatMap Con1.atI).length ≤ 40000 ∧ D.length ≤ 20000 := by
  have h1 := ents_le D (fun d hd => by have := congrArg List.length (h.ok d hd).l.rows; simpa using this)
  rw [h.rows] at h1
  have := costK_take l k
  omega

/-- One constraint more. -/
theorem LK1.next {base R : Nat} {S0 : Lab} {F0 : Nat → List Value} {w : World} {l : List Md.Cn} {k : Nat} {fv fv' : Value} {S S1 : Lab} {F F1 : Nat → List Value} {D : List Con1} {wr w1 W1 w2 : World} {d : Con1} (h : LK1 base R S0 F0 w l k fv S F D wr) (hk : k < l.length) (hdc : d.c = l[k])
    (hR1 : RoomAt ety base R S1 F1 w1) (hA : Agree S S1 wr w1) (hd : d.Ok S1 w1) (h0 : F1 0 = F 0 ++ d.entI) (h1 : F1 1 = F 1 ++ d.atI) (h4 : F1 4 = F 4 ++ [d.entT]) (h5 : F1 5 = F 5 ++ [d.atT]) (h16 : F1 16 = F 16 ++ [d.entL]) (h17 : F1 17 = F 17 ++ [d.atL])
    (hF : ∀ j, j ≠ 0 → j ≠ 1 → j ≠ 4 → j ≠ 5 → j ≠ 16 → j ≠ 17 → F1 j = F j) (hh : ∀ k, k < wr.heap.size → 150 ≤ S k → w1.heap[k]? = wr.heap[k]?) (hbase : base ≤ w.heap.size)
    (hW : Below w1.heap.size w1 W1) (ho : w2.ownsRow w.heap.size 64 10 fv' (D.length + 1) (consCells D ++ d.cells)) (hg : W1.grownBy w2 fv.ownBlock) (hn : fv'.ownBlock = fv.ownBlock ∨ ∃ g, fv'.ownBlock = some g ∧ w1.heap.size ≤ g) :
    ∃ S2, LK1 base R S0 F0 w l (k + 1) fv' S2 F1 (D ++ [d]) w2 := by
  have hlt : ∀ g, fv.ownBlock = some g → w.heap.size ≤ g ∧ g < wr.heap.size := h.own.lt
  have hl1 : ∀ g, fv.ownBlock = some g → S1 g = 160 ∧ w.heap.size ≤ g ∧ g < w1.heap.size := fun g hg' => ⟨(hA.lab g (hlt g hg').2).trans (h.lab g hg'), (hlt g hg').1, Nat.lt_of_lt_of_le (hlt g hg').2 hA.size⟩
  obtain ⟨S2, hR2, hA2, hL2⟩ := row_step hR1 hl1 hbase hW hg hn (fun g hg' => (ho.lt g hg').2)
  have gw := grownBy_of_below hW hg
  refine ⟨S2, hR2, (h.agree.trans hA).trans hA2, ?_, hL2, ?_, ?_, ?_, ?_, ?_, ?_, ?_, ?_, fun j a0 a1 a4 a5 a16 a17 => (hF j a0 a1 a4 a5 a16 a17).trans (h.f j a0 a1 a4 a5 a16 a17), fun q hq hS => ?_⟩
  · simpa [consCells] using ho
  · rw [List.map_append, h.rows, List.take_succ_eq_append_getElem hk]; simp [hdc]
  · intro x hx
    rcases List.mem_append.1 hx with hx | hx
    · exact ((h.ok x hx).agree hA).agree hA2
    · rw [List.mem_singleton.1 hx]; exact hd.agree hA2
  · rw [h0, h.f0]; simp
  · rw [h1, h.f1]; simp
  · rw [h4, h.f4]; simp
  · rw [h5, h.f5]; simp
  · rw [h16, h.f16]; simp
  · rw [h17, h.f17]; simp
  · have hq1 : q < wr.heap.size := Nat.lt_of_lt_of_le hq h.agree.size
    exact (gw.block q (Nat.lt_of_lt_of_le hq1 hA.size) (fun he => by have := (hlt q he.symm).1; omega)).trans ((hh q hq1 (by rw [h.agree.lab q hq]; exact hS)).trans (h.high q hq hS))

/-- A mark of a list of constraints. -/
def kMark (j : Nat) : List Value := [.int .i64 0, .int .i64 0, .slice none 0 0, .int .i64 0, .int .i64 0, .int .i64 (lotI j), .int .i64 0, .slice none 0 0, .slice none 0 0, .slice none 0 0]
def kMarks (k : Nat) : List Value := (List.range k).flatMap kMark
theorem kMarks_next (k : Nat) : kMarks (k + 1) = kMarks k ++ kMark k := by unfold kMarks; rw [List.range_succ]; simp
/-- Where the second loop stands. -/
structure LK2 (base R : Nat) (S0 : Lab) (w : World) (l : List Md.Cn) (k : Nat) (fv : Value) (S : Lab) (F : Nat → List Value) (D : List Con1) (wr : World) : Prop where
  room : RoomAt ety base R S F wr
  agree : Agree S0 S w wr
  own : wr.ownsRow w.heap.size 64 10 fv (l.length + k) (consCells D ++ kMarks k)
  lab : ∀ g, fv.ownBlock = some g → S g = 160
  ok : ∀ d ∈ D, d.Ok S wr
  high : ∀ k, k < w.heap.size → 150 ≤ S0 k → wr.heap[k]? = w.heap[k]?
theorem LK2.next {base R : Nat} {S0 : Lab} {w : World} {l : List Md.Cn} {k : Nat} {fv fv' : Value} {S : Lab} {F : Nat → List Value} {D : List Con1} {wr W1 w2 : World} (h : LK2 base R S0 w l k fv S F D wr) (hbase : base ≤ w.heap.size)
    (hW : Below wr.heap.size wr W1) (ho : w2.ownsRow w.heap.size 64 10 fv' (l.length + k + 1) (consCells D ++ kMarks k ++ kMark k)) (hg : W1.grownBy w2 fv.ownBlock) (hn : fv'.ownBlock = fv.ownBlock ∨ ∃ g, fv'.ownBlock = some g ∧ wr.heap.size ≤ g) :
    ∃ S2, LK2 base R S0 w l (k + 1) fv' S2 F D w2 := by
  have hlt : ∀ g, fv.ownBlock = some g → w.heap.size ≤ g ∧ g < wr.heap.size := h.own.lt
  obtain ⟨S2, hR2, hA2, hL2⟩ := row_step h.room (fun g hg' => ⟨h.lab g hg', hlt g hg'⟩) hbase hW hg hn (fun g hg' => (ho.lt g hg').2)
  have gw := grownBy_of_below hW hg
  refine ⟨S2, hR2, h.agree.trans hA2, ?_, hL2, fun d hd => (h.ok d hd).agree hA2, fun q hq hS => (gw.block q (Nat.lt_of_lt_of_le hq h.agree.size) (fun he => by have := (hlt q he.symm).1; omega)).trans (h.high q hq hS)⟩
  rw [kMarks_next, ← List.append_assoc, ← Nat.add_assoc]; exact ho
end Go.Proofs.YtjanpglnahagdaaGreatDoor
