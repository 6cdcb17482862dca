/-
  Put together: MdHoldN, MdHoldI, MdHoldT, MdHoldL, MdHoldAll.
-/
import Derived.Test.YtjanpglnahagdaaGreatDoorJ29
import Derived.WalkSmall
namespace Go.Proofs.YtjanpglnahagdaaGreatDoor
open Go.RowKit

set_option maxRecDepth 10000 in
set_option maxHeartbeats 400000 in
theorem hold58 (base R : Nat) (S : Lab) (F : Nat → List Value) (w : World) (hR : RoomAt ety base R S F w) (hF : F 2 = []) : Calls Tryz.prog 29 #[.pointer (some ⟨R, 0, none⟩)] w fun e w' => e = .returned (.bool true) ∧ Below w.heap.size w w' := by
  obtain ⟨v0, hv0, ho0, _⟩ := hR.field 2 (by decide)
  rw [hF] at ho0
  obtain ⟨xa, xc, rfl⟩ := own_form ho0
  simp only [List.length_nil] at hv0
  clear hR ho0 hF
  go_enter Tryz.func29, Tryz.ntmps29
  go_wp2_with fail
  go_loop [3] (fun iv => iv = .int .i64 0) (fun _ => 0)
  case atStart => rfl
  case round =>
    subst hrel
    go_wp2_with fail
    go_ret
    exact ⟨rfl, Below.refl _ _⟩

set_option maxRecDepth 10000 in
set_option maxHeartbeats 400000 in
theorem hold60 (base R : Nat) (S : Lab) (F : Nat → List Value) (w : World) (hR : RoomAt ety base R S F w) (hF : F 6 = []) : Calls Tryz.prog 31 #[.pointer (some ⟨R, 0, none⟩)] w fun e w' => e = .returned (.bool true) ∧ Below w.heap.size w w' := by
  obtain ⟨v0, hv0, ho0, _⟩ := hR.field 6 (by decide)
  rw [hF] at ho0
  obtain ⟨xa, xc, rfl⟩ := own_form ho0
  simp only [List.length_nil] at hv0
  clear hR ho0 hF
  go_enter Tryz.func31, Tryz.ntmps31
  go_wp2_with fail
  go_loop [3] (fun iv => iv = .int .i64 0) (fun _ => 0)
  case atStart => rfl
  case round =>
    subst hrel
    go_wp2_with fail
    go_ret
    exact ⟨rfl, Below.refl _ _⟩

set_option maxRecDepth 10000 in
set_option maxHeartbeats 400000 in
theorem hold61 (base R : Nat) (S : Lab) (F : Nat → List Value) (w : World) (hR : RoomAt ety base R S F w) (hF : F 8 = []) : Calls Tryz.prog 32 #[.pointer (some ⟨R, 0, none⟩)] w fun e w' => e = .returned (.bool true) ∧ Below w.heap.size w w' := by
  obtain ⟨v0, hv0, ho0, _⟩ := hR.field 8 (by decide)
  rw [hF] at ho0
  obtain ⟨xa, xc, rfl⟩ := own_form ho0
  simp only [List.length_nil] at hv0
  clear hR ho0 hF
  go_enter Tryz.func32, Tryz.ntmps32
  go_wp2_with fail
  go_loop [3] (fun iv => iv = .int .i64 0) (fun _ => 0)
  case atStart => rfl
  case round =>
    subst hrel
    go_wp2_with fail
    go_ret
    exact ⟨rfl, Below.refl _ _⟩

set_option maxRecDepth 10000 in
set_option maxHeartbeats 400000 in
theorem hold62 (base R : Nat) (S : Lab) (F : Nat → List Value) (w : World) (hR : RoomAt ety base R S F w) (hF : F 10 = []) : Calls Tryz.prog 33 #[.pointer (some ⟨R, 0, none⟩)] w fun e w' => e = .returned (.bool true) ∧ Below w.heap.size w w' := by
  obtain ⟨v0, hv0, ho0, _⟩ := hR.field 10 (by decide)
  rw [hF] at ho0
  obtain ⟨xa, xc, rfl⟩ := own_form ho0
  simp only [List.length_nil] at hv0
  clear hR ho0 hF
  go_enter Tryz.func33, Tryz.ntmps33
  go_wp2_with fail
  go_loop [3] (fun iv => iv = .int .i64 0) (fun _ => 0)
  case atStart => rfl
  case round =>
    subst hrel
    go_wp2_with fail
    go_ret
    exact ⟨rfl, Below.refl _ _⟩

set_option maxRecDepth 10000 in
set_option maxHeartbeats 400000 in
theorem hold63 (base R : Nat) (S : Lab) (F : Nat → List Value) (w : World) (hR : RoomAt ety base R S F w) (hF : F 12 = []) : Calls Tryz.prog 34 #[.pointer (some ⟨R, 0, none⟩)] w fun e w' => e = .returned (.bool true) ∧ Below w.heap.size w w' := by
  obtain ⟨v0, hv0, ho0, _⟩ := hR.field 12 (by decide)
  rw [hF] at ho0
  obtain ⟨xa, xc, rfl⟩ := own_form ho0
  simp only [List.length_nil] at hv0
  clear hR ho0 hF
  go_enter Tryz.func34, Tryz.ntmps34
  go_wp2_with fail
  go_loop [3] (fun iv => iv = .int .i64 0) (fun _ => 0)
  case atStart => rfl
  case round =>
    subst hrel
    go_wp2_with fail
    go_ret
    exact ⟨rfl, Below.refl _ _⟩

set_option maxRecDepth 10000 in
set_option maxHeartbeats 400000 in
theorem hold64 (base R : Nat) (S : Lab) (F : Nat → List Value) (w : World) (hR : RoomAt ety base R S F w) (hF : F 14 = []) : Calls Tryz.prog 35 #[.pointer (some ⟨R, 0, none⟩)] w fun e w' => e = .returned (.bool true) ∧ Below w.heap.size w w' := by
  obtain ⟨v0, hv0, ho0, _⟩ := hR.field 14 (by decide)
  rw [hF] at ho0
  obtain ⟨xa, xc, rfl⟩ := own_form ho0
  simp only [List.length_nil] at hv0
  clear hR ho0 hF
  go_enter Tryz.func35, Tryz.ntmps35
  go_wp2_with fail
  go_loop [3] (fun iv => iv = .int .i64 0) (fun _ => 0)
  case atStart => rfl
  case round =>
    subst hrel
    go_wp2_with fail
    go_ret
    exact ⟨rfl, Below.refl _ _⟩

set_option maxRecDepth 10000 in
set_option maxHeartbeats 400000 in
theorem hold66 (base R : Nat) (S : Lab) (F : Nat → List Value) (w : World) (hR : RoomAt ety base R S F w) (hF : F 18 = []) : Calls Tryz.prog 37 #[.pointer (some ⟨R, 0, none⟩)] w fun e w' => e = .returned (.bool true) ∧ Below w.heap.size w w' := by
  obtain ⟨v0, hv0, ho0, _⟩ := hR.field 18 (by decide)
  rw [hF] at ho0
  obtain ⟨xa, xc, rfl⟩ := own_form ho0
  simp only [List.length_nil] at hv0
  clear hR ho0 hF
  go_enter Tryz.func37, Tryz.ntmps37
  go_wp2_with fail
  go_loop [3] (fun iv => iv = .int .i64 0) (fun _ => 0)
  case atStart => rfl
  case round =>
    subst hrel
    go_wp2_with fail
    go_ret
    exact ⟨rfl, Below.refl _ _⟩

set_option maxRecDepth 10000 in
set_option maxHeartbeats 400000 in
theorem hold67 (base R : Nat) (S : Lab) (F : Nat → List Value) (w : World) (hR : RoomAt ety base R S F w) (hF : F 20 = []) : Calls Tryz.prog 38 #[.pointer (some ⟨R, 0, none⟩)] w fun e w' => e = .returned (.bool true) ∧ Below w.heap.size w w' := by
  obtain ⟨v0, hv0, ho0, _⟩ := hR.field 20 (by decide)
  rw [hF] at ho0
  obtain ⟨xa, xc, rfl⟩ := own_form ho0
  simp only [List.length_nil] at hv0
  clear hR ho0 hF
  go_enter Tryz.func38, Tryz.ntmps38
  go_wp2_with fail
  go_loop [3] (fun iv => iv = .int .i64 0) (fun _ => 0)
  case atStart => rfl
  case round =>
    subst hrel
    go_wp2_with fail
    go_ret
    exact ⟨rfl, Below.refl _ _⟩

set_option maxRecDepth 10000 in
set_option maxHeartbeats 400000 in
theorem hold68 (base R : Nat) (S : Lab) (F : Nat → List Value) (w : World) (hR : RoomAt ety base R S F w) (hF : F 22 = []) : Calls Tryz.prog 39 #[.pointer (some ⟨R, 0, none⟩)] w fun e w' => e = .returned (.bool true) ∧ Below w.heap.size w w' := by
  obtain ⟨v0, hv0, ho0, _⟩ := hR.field 22 (by decide)
  rw [hF] at ho0
  obtain ⟨xa, xc, rfl⟩ := own_form ho0
  simp only [List.length_nil] at hv0
  clear hR ho0 hF
  go_enter Tryz.func39, Tryz.ntmps39
  go_wp2_with fail
  go_loop [3] (fun iv => iv = .int .i64 0) (fun _ => 0)
  case atStart => rfl
  case round =>
    subst hrel
    go_wp2_with fail
    go_ret
    exact ⟨rfl, Below.refl _ _⟩

set_option maxRecDepth 10000 in
set_option maxHeartbeats 400000 in
theorem hold69 (base R : Nat) (S : Lab) (F : Nat → List Value) (w : World) (hR : RoomAt ety base R S F w) (hF : F 24 = []) : Calls Tryz.prog 40 #[.pointer (some ⟨R, 0, none⟩)] w fun e w' => e = .returned (.bool true) ∧ Below w.heap.size w w' := by
  obtain ⟨v0, hv0, ho0, _⟩ := hR.field 24 (by decide)
  rw [hF] at ho0
  obtain ⟨xa, xc, rfl⟩ := own_form ho0
  simp only [List.length_nil] at hv0
  clear hR ho0 hF
  go_enter Tryz.func40, Tryz.ntmps40
  go_wp2_with fail
  go_loop [3] (fun iv => iv = .int .i64 0) (fun _ => 0)
  case atStart => rfl
  case round =>
    subst hrel
    go_wp2_with fail
    go_ret
    exact ⟨rfl, Below.refl _ _⟩

set_option maxRecDepth 10000 in
set_option maxHeartbeats 400000 in
theorem hold70 (base R : Nat) (S : Lab) (F : Nat → List Value) (w : World) (hR : RoomAt ety base R S F w) (hF : F 26 = []) : Calls Tryz.prog 41 #[.pointer (some ⟨R, 0, none⟩)] w fun e w' => e = .returned (.bool true) ∧ Below w.heap.size w w' := by
  obtain ⟨v0, hv0, ho0, _⟩ := hR.field 26 (by decide)
  rw [hF] at ho0
  obtain ⟨xa, xc, rfl⟩ := own_form ho0
  simp only [List.length_nil] at hv0
  clear hR ho0 hF
  go_enter Tryz.func41, Tryz.ntmps41
  go_wp2_with fail
  go_loop [3] (fun iv => iv = .int .i64 0) (fun _ => 0)
  case atStart => rfl
  case round =>
    subst hrel
    go_wp2_with fail
    go_ret
    exact ⟨rfl, Below.refl _ _⟩
end Go.Proofs.YtjanpglnahagdaaGreatDoor

namespace Go.Proofs.YtjanpglnahagdaaGreatDoor
open Go.RowKit

set_option maxRecDepth 10000 in
set_option maxHeartbeats 2000000 in
theorem holdInts_any (base R : Nat) (S : Lab) (F : Nat → List Value) (w : World) (hR : RoomAt ety base R S F w) (hG : All2 (EntI w) (F 0) (F 1)) (hlen : (F 0).length ≤ 1000000) :
    Calls Tryz.prog 28 #[.pointer (some ⟨R, 0, none⟩)] w fun e w' => e = .returned (.bool true) ∧ Below w.heap.size w w' := by
  obtain ⟨v0, hv0, ho0, _⟩ := hR.field 0 (by decide)
  obtain ⟨v1, hv1, ho1, _⟩ := hR.field 1 (by decide)
  have hl := hG.len
  have HG : Hid (All2 (EntI w) (F 0) (F 1)) := hG
  have hRl := hR.lt
  obtain ⟨X, hX⟩ : ∃ X, F 0 = X := ⟨_, rfl⟩
  obtain ⟨A, hA⟩ : ∃ A, F 1 = A := ⟨_, rfl⟩
  rw [hX] at HG ho0 hlen hl
  rw [hA] at HG ho1 hl
  obtain ⟨xa, xc, rfl⟩ := own_form ho0
  obtain ⟨aa, ac, rfl⟩ := own_form ho1
  have HOX : Hid (∀ i (hi : i < X.length), ∃ g, xa = some ⟨g, 0, none⟩ ∧ w.cell? ⟨g, i, none⟩ = some X[i]) := fun i hi => row_cell ho0 i hi
  have HOA : Hid (∀ i (hi : i < A.length), ∃ g, aa = some ⟨g, 0, none⟩ ∧ w.cell? ⟨g, i, none⟩ = some A[i]) := fun i hi => row_cell ho1 i hi
  rw [← hl] at hv1
  have HLE : Hid (X.length = A.length) := hl
  clear hR hG ho0 ho1 hX hA hl
  go_enter Tryz.func28, Tryz.ntmps28
  go_wp2_with fail
  go_loopw [3] (fun iv wr => ∃ k : Nat, iv = .int .i64 (k : Int) ∧ k ≤ X.length ∧ Hid (Below w.heap.size w wr)) (fun iv _ => X.length - (intOf iv).toNat)
  case atStart => exact ⟨0, rfl, Nat.zero_le _, Below.refl _ _⟩
  case round =>
    obtain ⟨k, rfl, hk, hB⟩ := hrel
    have r0 := (hB.out.cell (p := ⟨R, 0, none⟩) hRl).trans hv0
    have r1 := (hB.out.cell (p := ⟨R, 1, none⟩) hRl).trans hv1
    by_cases hlt : k < X.length
    · have hkI : (k : Int) < (X.length : Int) := by omega
      have hltA : k < A.length := by have := HLE.out; omega
      obtain ⟨gx, rfl, hcx⟩ := HOX.out k hlt
      obtain ⟨ga, rfl, hca⟩ := HOA.out k hltA
      obtain ⟨b, n, room, cap, hx, ha, hn, hroom, hmark⟩ := HG.out.get k hlt hltA
      rw [hx] at hcx
      rw [ha] at hca
      have hgx := World.block_lt_of_cell? w _ hcx
      have hga := World.block_lt_of_cell? w _ hca
      have s0 := (hB.out.cell (p := ⟨gx, k, none⟩) hgx).trans hcx
      have s1 := (hB.out.cell (p := ⟨ga, k, none⟩) hga).trans hca
      have HMK : Hid (∀ j, j < room → w.cell? ⟨b, n + j, none⟩ = some (.int .i64 (lotI j))) := hmark
      have HS0 : Hid (∀ w', Below w.heap.size w w' → w'.cell? ⟨gx, k, none⟩ = some (.slice (some ⟨b, 0, none⟩) (n + room) cap)) := fun w' hb => (hb.cell (p := ⟨gx, k, none⟩) hgx).trans hcx
      clear hx ha hcx hca hmark
      go_wp2_with fail
      go_loopw [5] (fun jv wq => ∃ j : Nat, jv = .int .i64 ((n : Int) + (j : Int)) ∧ j ≤ room ∧ Hid (Below w.heap.size w wq)) (fun jv _ => n + room - (intOf jv).toNat)
      case atStart => exact ⟨0, by simp, Nat.zero_le _, hB⟩
      case round =>
        obtain ⟨j, rfl, hj, hQ⟩ := hrel
        clear s0 s1 r0 r1
        have r0 := (hQ.out.cell (p := ⟨R, 0, none⟩) hRl).trans hv0
        have s0 := HS0.out _ hQ.out
        by_cases hjl : j < room
        · have hjI : (n : Int) + (j : Int) < (n : Int) + (room : Int) := by omega
          have hc := HMK.out j hjl
          have hbl := World.block_lt_of_cell? w _ hc
          have hcw := (hQ.out.cell (p := ⟨b, n + j, none⟩) hbl).trans hc
          have hbd : (n : Int) + (j : Int) ≤ 1000000 := by omega
          have hsub : (n : Int) + (j : Int) - (n : Int) = (j : Int) := by omega
          have HLOT : Hid (∀ w', Calls Tryz.prog 60 #[.int .i64 (j : Int)] w' fun e w'' => e = .returned (.int .i64 (lotI j)) ∧ w'' = w') := fun w' => lot_any j w'
          generalize lotI j = y at *
          go_wp2_with (go_at_call 60; refine calls_at (HLOT.out _) (by first | (with_reducible rfl) | (simp [hsub])) (by with_reducible rfl) ?_; rintro e w' ⟨rfl, hww⟩; rw [hww])
          go_roundw
          case rel => exact ⟨j + 1, by go_num, by omega, hQ⟩
          case measure => simp [intOf]; omega
        · have hjI : ¬ (n : Int) + (j : Int) < (n : Int) + (room : Int) := by omega
          go_wp2_with fail
          go_roundw
          case rel => exact ⟨k + 1, by go_num, by omega, hQ⟩
          case measure => simp [intOf]; omega
    · have hkI : ¬ (k : Int) < (X.length : Int) := by omega
      go_wp2_with fail
      go_ret
      exact ⟨rfl, hB.out⟩
end Go.Proofs.YtjanpglnahagdaaGreatDoor

namespace Go.Proofs.YtjanpglnahagdaaGreatDoor
open Go.RowKit

set_option maxRecDepth 10000 in
set_option maxHeartbeats 2000000 in
theorem holdTerms_any (base R : Nat) (S : Lab) (F : Nat → List Value) (w : World) (hR : RoomAt ety base R S F w) (hG : All2 (EntT w) (F 4) (F 5)) (hlen : (F 4).length ≤ 1000000) :
    Calls Tryz.prog 30 #[.pointer (some ⟨R, 0, none⟩)] w fun e w' => e = .returned (.bool true) ∧ Below w.heap.size w w' := by
  obtain ⟨v0, hv0, ho0, _⟩ := hR.field 4 (by decide)
  obtain ⟨v1, hv1, ho1, _⟩ := hR.field 5 (by decide)
  have hl := hG.len
  have HG : Hid (All2 (EntT w) (F 4) (F 5)) := hG
  have hRl := hR.lt
  obtain ⟨X, hX⟩ : ∃ X, F 4 = X := ⟨_, rfl⟩
  obtain ⟨A, hA⟩ : ∃ A, F 5 = A := ⟨_, rfl⟩
  rw [hX] at HG ho0 hlen hl
  rw [hA] at HG ho1 hl
  obtain ⟨xa, xc, rfl⟩ := own_form ho0
  obtain ⟨aa, ac, rfl⟩ := own_form ho1
  have HOX : Hid (∀ i (hi : i < X.length), ∃ g, xa = some ⟨g, 0, none⟩ ∧ w.cell? ⟨g, i, none⟩ = some X[i]) := fun i hi => row_cell ho0 i hi
  have HOA : Hid (∀ i (hi : i < A.length), ∃ g, aa = some ⟨g, 0, none⟩ ∧ w.cell? ⟨g, i, none⟩ = some A[i]) := fun i hi => row_cell ho1 i hi
  rw [← hl] at hv1
  have HLE : Hid (X.length = A.length) := hl
  clear hR hG ho0 ho1 hX hA hl
  go_enter Tryz.func30, Tryz.ntmps30
  go_wp2_with fail
  go_loopw [3] (fun iv wr => ∃ k : Nat, iv = .int .i64 (k : Int) ∧ k ≤ X.length ∧ Hid (Below w.heap.size w wr)) (fun iv _ => X.length - (intOf iv).toNat)
  case atStart => exact ⟨0, rfl, Nat.zero_le _, Below.refl _ _⟩
  case round =>
    obtain ⟨k, rfl, hk, hB⟩ := hrel
    have r0 := (hB.out.cell (p := ⟨R, 4, none⟩) hRl).trans hv0
    have r1 := (hB.out.cell (p := ⟨R, 5, none⟩) hRl).trans hv1
    by_cases hlt : k < X.length
    · have hkI : (k : Int) < (X.length : Int) := by omega
      have hltA : k < A.length := by have := HLE.out; omega
      obtain ⟨gx, rfl, hcx⟩ := HOX.out k hlt
      obtain ⟨ga, rfl, hca⟩ := HOA.out k hltA
      obtain ⟨b, n, room, cap, hx, ha, hn, hroom, hmark⟩ := HG.out.get k hlt hltA
      rw [hx] at hcx
      rw [ha] at hca
      have hgx := World.block_lt_of_cell? w _ hcx
      have hga := World.block_lt_of_cell? w _ hca
      have s0 := (hB.out.cell (p := ⟨gx, k, none⟩) hgx).trans hcx
      have s1 := (hB.out.cell (p := ⟨ga, k, none⟩) hga).trans hca
      have HMK : Hid (∀ j, j < room → w.cell? ⟨b, (n + j) * 2, none⟩ = some (.int .i64 (lotI j)) ∧ w.cell? ⟨b, (n + j) * 2 + 1, none⟩ = some (.int .i64 0)) := hmark
      have HS0 : Hid (∀ w', Below w.heap.size w w' → w'.cell? ⟨gx, k, none⟩ = some (.slice (some ⟨b, 0, none⟩) (n + room) cap)) := fun w' hb => (hb.cell (p := ⟨gx, k, none⟩) hgx).trans hcx
      clear hx ha hcx hca hmark
      go_wp2_with fail
      go_loopw [5] (fun jv wq => ∃ j : Nat, jv = .int .i64 ((n : Int) + (j : Int)) ∧ j ≤ room ∧ Hid (Below w.heap.size w wq)) (fun jv _ => n + room - (intOf jv).toNat)
      case atStart => exact ⟨0, by simp, Nat.zero_le _, hB⟩
      case round =>
        obtain ⟨j, rfl, hj, hQ⟩ := hrel
        clear s0 s1 r0 r1
        have r0 := (hQ.out.cell (p := ⟨R, 4, none⟩) hRl).trans hv0
        have s0 := HS0.out _ hQ.out
        by_cases hjl : j < room
        · have hjI : (n : Int) + (j : Int) < (n : Int) + (room : Int) := by omega
          obtain ⟨hc, hc2⟩ := HMK.out j hjl
          have hbl := World.block_lt_of_cell? w _ hc
          have hcw := (hQ.out.cell (p := ⟨b, (n + j) * 2, none⟩) hbl).trans hc
          have hcw2 := (hQ.out.cell (p := ⟨b, (n + j) * 2 + 1, none⟩) hbl).trans hc2
          have hbd : (n : Int) + (j : Int) ≤ 1000000 := by omega
          have hsub : IntKind.i64.wrap ((n : Int) + (j : Int) - (n : Int)) = (j : Int) := by rw [IntKind.wrap_i64]; omega
          have hsub2 : (n : Int) + (j : Int) - (n : Int) = (j : Int) := by omega
          have hbin : ∀ w', (binOp .neq 101 (.agg #[.int .i64 (lotI j), .int .i64 0]) (.agg #[.int .i64 (lotI j), .int .i64 0])).run Tryz.prog w' = .ok (.bool false) w' := fun w' => by rw [term_neq]; simp
          rename World => wq
          have hBV : Hid (Below w.heap.size w (wq.alloc (.cells #[.int .i64 (lotI j), .int .i64 0] 101))) := hQ.out.alloc hQ.out.size _
          have HLOT : Hid (∀ w', Calls Tryz.prog 60 #[.int .i64 (j : Int)] w' fun e w'' => e = .returned (.int .i64 (lotI j)) ∧ w'' = w') := fun w' => lot_any j w'
          generalize lotI j = y at *
          go_wp2_with fail
          go_quiet ((go_at_call 60; exact Calls.quiet_of_same (HLOT.out _)))
          go_wp2_with fail
          go_roundw
          case rel => exact ⟨j + 1, by go_num, by omega, below_drewN hBV.out _⟩
          case measure => simp [intOf]; omega
        · have hjI : ¬ (n : Int) + (j : Int) < (n : Int) + (room : Int) := by omega
          go_wp2_with fail
          go_roundw
          case rel => exact ⟨k + 1, by go_num, by omega, hQ⟩
          case measure => simp [intOf]; omega
    · have hkI : ¬ (k : Int) < (X.length : Int) := by omega
      go_wp2_with fail
      go_ret
      exact ⟨rfl, hB.out⟩
end Go.Proofs.YtjanpglnahagdaaGreatDoor

namespace Go.Proofs.YtjanpglnahagdaaGreatDoor
open Go.RowKit

set_option maxRecDepth 10000 in
set_option maxHeartbeats 2000000 in
theorem holdLists_any (base R : Nat) (S : Lab) (F : Nat → List Value) (w : World) (hR : RoomAt ety base R S F w) (hG : All2 (EntL w) (F 16) (F 17)) (hlen : (F 16).length ≤ 1000000) :
    Calls Tryz.prog 36 #[.pointer (some ⟨R, 0, none⟩)] w fun e w' => e = .returned (.bool true) ∧ Below w.heap.size w w' := by
  obtain ⟨v0, hv0, ho0, _⟩ := hR.field 16 (by decide)
  obtain ⟨v1, hv1, ho1, _⟩ := hR.field 17 (by decide)
  have hl := hG.len
  have HG : Hid (All2 (EntL w) (F 16) (F 17)) := hG
  have hRl := hR.lt
  obtain ⟨X, hX⟩ : ∃ X, F 16 = X := ⟨_, rfl⟩
  obtain ⟨A, hA⟩ : ∃ A, F 17 = A := ⟨_, rfl⟩
  rw [hX] at HG ho0 hlen hl
  rw [hA] at HG ho1 hl
  obtain ⟨xa, xc, rfl⟩ := own_form ho0
  obtain ⟨aa, ac, rfl⟩ := own_form ho1
  have HOX : Hid (∀ i (hi : i < X.length), ∃ g, xa = some ⟨g, 0, none⟩ ∧ w.cell? ⟨g, i, none⟩ = some X[i]) := fun i hi => row_cell ho0 i hi
  have HOA : Hid (∀ i (hi : i < A.length), ∃ g, aa = some ⟨g, 0, none⟩ ∧ w.cell? ⟨g, i, none⟩ = some A[i]) := fun i hi => row_cell ho1 i hi
  rw [← hl] at hv1
  have HLE : Hid (X.length = A.length) := hl
  clear hR hG ho0 ho1 hX hA hl
  go_enter Tryz.func36, Tryz.ntmps36
  go_wp2_with fail
  go_loopw [3] (fun iv wr => ∃ k : Nat, iv = .int .i64 (k : Int) ∧ k ≤ X.length ∧ Hid (Below w.heap.size w wr)) (fun iv _ => X.length - (intOf iv).toNat)
  case atStart => exact ⟨0, rfl, Nat.zero_le _, Below.refl _ _⟩
  case round =>
    obtain ⟨k, rfl, hk, hB⟩ := hrel
    have r0 := (hB.out.cell (p := ⟨R, 16, none⟩) hRl).trans hv0
    have r1 := (hB.out.cell (p := ⟨R, 17, none⟩) hRl).trans hv1
    by_cases hlt : k < X.length
    · have hkI : (k : Int) < (X.length : Int) := by omega
      have hltA : k < A.length := by have := HLE.out; omega
      obtain ⟨gx, rfl, hcx⟩ := HOX.out k hlt
      obtain ⟨ga, rfl, hca⟩ := HOA.out k hltA
      obtain ⟨b, n, room, cap, hx, ha, hn, hroom, hmark⟩ := HG.out.get k hlt hltA
      rw [hx] at hcx
      rw [ha] at hca
      have hgx := World.block_lt_of_cell? w _ hcx
      have hga := World.block_lt_of_cell? w _ hca
      have s0 := (hB.out.cell (p := ⟨gx, k, none⟩) hgx).trans hcx
      have s1 := (hB.out.cell (p := ⟨ga, k, none⟩) hga).trans hca
      have HMK : Hid (∀ j, j < room → ∃ m, w.cell? ⟨b, n + j, none⟩ = some (.slice (some ⟨m, 0, none⟩) 1 1) ∧ w.cell? ⟨m, 0, none⟩ = some (.int .i64 (lotI j))) := hmark
      have HS0 : Hid (∀ w', Below w.heap.size w w' → w'.cell? ⟨gx, k, none⟩ = some (.slice (some ⟨b, 0, none⟩) (n + room) cap)) := fun w' hb => (hb.cell (p := ⟨gx, k, none⟩) hgx).trans hcx
      clear hx ha hcx hca hmark
      go_wp2_with fail
      go_loopw [5] (fun jv wq => ∃ j : Nat, jv = .int .i64 ((n : Int) + (j : Int)) ∧ j ≤ room ∧ Hid (Below w.heap.size w wq)) (fun jv _ => n + room - (intOf jv).toNat)
      case atStart => exact ⟨0, by simp, Nat.zero_le _, hB⟩
      case round =>
        obtain ⟨j, rfl, hj, hQ⟩ := hrel
        clear s0 s1 r0 r1
        have r0 := (hQ.out.cell (p := ⟨R, 16, none⟩) hRl).trans hv0
        have s0 := HS0.out _ hQ.out
        by_cases hjl : j < room
        · have hjI : (n : Int) + (j : Int) < (n : Int) + (room : Int) := by omega
          obtain ⟨m, hc, hc2⟩ := HMK.out j hjl
          have hbl := World.block_lt_of_cell? w _ hc
          have hbl2 := World.block_lt_of_cell? w _ hc2
          have hcw := (hQ.out.cell (p := ⟨b, n + j, none⟩) hbl).trans hc
          have hcw2 := (hQ.out.cell (p := ⟨m, 0, none⟩) hbl2).trans hc2
          have hbd : (n : Int) + (j : Int) ≤ 1000000 := by omega
          have hsub : IntKind.i64.wrap ((n : Int) + (j : Int) - (n : Int)) = (j : Int) := by rw [IntKind.wrap_i64]; omega
          have hsub2 : (n : Int) + (j : Int) - (n : Int) = (j : Int) := by omega
          have HLOT : Hid (∀ w', Calls Tryz.prog 60 #[.int .i64 (j : Int)] w' fun e w'' => e = .returned (.int .i64 (lotI j)) ∧ w'' = w') := fun w' => lot_any j w'
          generalize lotI j = y at *
          go_wp2_with fail
          go_quiet ((go_at_call 60; exact Calls.quiet_of_same (HLOT.out _)))
          go_wp2_with fail
          go_roundw
          case rel => exact ⟨j + 1, by go_num, by omega, below_drewN hQ.out _⟩
          case measure => simp [intOf]; omega
        · have hjI : ¬ (n : Int) + (j : Int) < (n : Int) + (room : Int) := by omega
          go_wp2_with fail
          go_roundw
          case rel => exact ⟨k + 1, by go_num, by omega, hQ⟩
          case measure => simp [intOf]; omega
    · have hkI : ¬ (k : Int) < (X.length : Int) := by omega
      go_wp2_with fail
      go_ret
      exact ⟨rfl, hB.out⟩
end Go.Proofs.YtjanpglnahagdaaGreatDoor

namespace Go.Proofs.YtjanpglnahagdaaGreatDoor
open Go.RowKit

theorem cell_lt {w : World} {a : Addr} {u : Value} (h : w.cell? a = some u) : a.block < w.heap.size := by
  rcases Nat.lt_or_ge a.block w.heap.size with hl | hl
  · exact hl
  · unfold World.cell? at h
    rw [Array.getElem?_eq_none hl] at h
    cases h
theorem cell_below {w w' : World} (hb : Below w.heap.size w w') {a : Addr} {u : Value} (h : w.cell? a = some u) : w'.cell? a = some u := (hb.cell (p := a) (cell_lt h)).trans h
theorem EntI.below {w w' : World} (hb : Below w.heap.size w w') (x a : Value) (h : EntI w x a) : EntI w' x a := by
  obtain ⟨b, n, room, cap, h1, h2, h3, h4, h5⟩ := h
  exact ⟨b, n, room, cap, h1, h2, h3, h4, fun j hj => cell_below hb (h5 j hj)⟩
theorem EntT.below {w w' : World} (hb : Below w.heap.size w w') (x a : Value) (h : EntT w x a) : EntT w' x a := by
  obtain ⟨b, n, room, cap, h1, h2, h3, h4, h5⟩ := h
  exact ⟨b, n, room, cap, h1, h2, h3, h4, fun j hj => ⟨cell_below hb (h5 j hj).1, cell_below hb (h5 j hj).2⟩⟩
theorem EntL.below {w w' : World} (hb : Below w.heap.size w w') (x a : Value) (h : EntL w x a) : EntL w' x a := by
  obtain ⟨b, n, room, cap, h1, h2, h3, h4, h5⟩ := h
  refine ⟨b, n, room, cap, h1, h2, h3, h4, fun j hj => ?_⟩
  obtain ⟨m, k1, k2⟩ := h5 j hj
  exact ⟨m, cell_below hb k1, cell_below hb k2⟩

/-- All that Hold looks at. -/
structure HoldOk (base R : Nat) (S : Lab) (F : Nat → List Value) (w : World) : Prop where
  room : RoomAt ety base R S F w
  gi : All2 (EntI w) (F 0) (F 1)
  gt : All2 (EntT w) (F 4) (F 5)
  gl : All2 (EntL w) (F 16) (F 17)
  li : (F 0).length ≤ 1000000
  lt : (F 4).length ≤ 1000000
  ll : (F 16).length ≤ 1000000
  nil : ∀ j, j ≠ 0 → j ≠ 1 → j ≠ 4 → j ≠ 5 → j ≠ 16 → j ≠ 17 → F j = []
theorem HoldOk.below {base R : Nat} {S : Lab} {F : Nat → List Value} {w w' : World} (h : HoldOk base R S F w) (hb : Below w.heap.size w w') : HoldOk base R S F w' :=
  ⟨h.room.kept hb, h.gi.imp (EntI.below hb), h.gt.imp (EntT.below hb), h.gl.imp (EntL.below hb), h.li, h.lt, h.ll, h.nil⟩
theorem HoldOk.next {base R : Nat} {S : Lab} {F : Nat → List Value} {w w1 w2 : World} (h : HoldOk base R S F w1 ∧ Below w.heap.size w w1) (hb : Below w1.heap.size w1 w2) : HoldOk base R S F w2 ∧ Below w.heap.size w w2 :=
  ⟨h.1.below hb, h.2.trans (hb.mono h.2.size)⟩

set_option maxRecDepth 10000 in
set_option maxHeartbeats 1000000 in
theorem holdAll_any (base R : Nat) (S : Lab) (F : Nat → List Value) (w : World) (h : HoldOk base R S F w) : Calls Tryz.prog 11 #[.pointer (some ⟨R, 0, none⟩)] w fun e w' => e = .returned (.bool true) ∧ Below w.heap.size w w' := by
  have K0 : Hid (HoldOk base R S F w ∧ Below w.heap.size w w) := ⟨h, Below.refl _ _⟩
  clear h
  go_enter Tryz.func11, Tryz.ntmps11
  go_wp2_with (first
    | (go_at_call 28; refine calls_at (holdInts_any base R S F _ K0.out.1.room K0.out.1.gi K0.out.1.li) (by with_reducible rfl) (by with_reducible rfl) ?_; rintro e w1 ⟨rfl, hb⟩; have K1 : Hid (HoldOk base R S F w1 ∧ Below w.heap.size w w1) := HoldOk.next K0.out hb; clear hb)
    | (go_at_call 29; refine calls_at (hold58 base R S F _ K1.out.1.room (K1.out.1.nil 2 (by decide) (by decide) (by decide) (by decide) (by decide) (by decide))) (by with_reducible rfl) (by with_reducible rfl) ?_; rintro e w2 ⟨rfl, hb⟩; have K2 : Hid (HoldOk base R S F w2 ∧ Below w.heap.size w w2) := HoldOk.next K1.out hb; clear hb)
    | (go_at_call 30; refine calls_at (holdTerms_any base R S F _ K2.out.1.room K2.out.1.gt K2.out.1.lt) (by with_reducible rfl) (by with_reducible rfl) ?_; rintro e w3 ⟨rfl, hb⟩; have K3 : Hid (HoldOk base R S F w3 ∧ Below w.heap.size w w3) := HoldOk.next K2.out hb; clear hb)
    | (go_at_call 31; refine calls_at (hold60 base R S F _ K3.out.1.room (K3.out.1.nil 6 (by decide) (by decide) (by decide) (by decide) (by decide) (by decide))) (by with_reducible rfl) (by with_reducible rfl) ?_; rintro e w4 ⟨rfl, hb⟩; have K4 : Hid (HoldOk base R S F w4 ∧ Below w.heap.size w w4) := HoldOk.next K3.out hb; clear hb)
    | (go_at_call 32; refine calls_at (hold61 base R S F _ K4.out.1.room (K4.out.1.nil 8 (by decide) (by decide) (by decide) (by decide) (by decide) (by decide))) (by with_reducible rfl) (by with_reducible rfl) ?_; rintro e w5 ⟨rfl, hb⟩; have K5 : Hid (HoldOk base R S F w5 ∧ Below w.heap.size w w5) := HoldOk.next K4.out hb; clear hb)
    | (go_at_call 33; refine calls_at (hold62 base R S F _ K5.out.1.room (K5.out.1.nil 10 (by decide) (by decide) (by decide) (by decide) (by decide) (by decide))) (by with_reducible rfl) (by with_reducible rfl) ?_; rintro e w6 ⟨rfl, hb⟩; have K6 : Hid (HoldOk base R S F w6 ∧ Below w.heap.size w w6) := HoldOk.next K5.out hb; clear hb)
    | (go_at_call 34; refine calls_at (hold63 base R S F _ K6.out.1.room (K6.out.1.nil 12 (by decide) (by decide) (by decide) (by decide) (by decide) (by decide))) (by with_reducible rfl) (by with_reducible rfl) ?_; rintro e w7 ⟨rfl, hb⟩; have K7 : Hid (HoldOk base R S F w7 ∧ Below w.heap.size w w7) := HoldOk.next K6.out hb; clear hb)
    | (go_at_call 35; refine calls_at (hold64 base R S F _ K7.out.1.room (K7.out.1.nil 14 (by decide) (by decide) (by decide) (by decide) (by decide) (by decide))) (by with_reducible rfl) (by with_reducible rfl) ?_; rintro e w8 ⟨rfl, hb⟩; have K8 : Hid (HoldOk base R S F w8 ∧ Below w.heap.size w w8) := HoldOk.next K7.out hb; clear hb)
    | (go_at_call 36; refine calls_at (holdLists_any base R S F _ K8.out.1.room K8.out.1.gl K8.out.1.ll) (by with_reducible rfl) (by with_reducible rfl) ?_; rintro e w9 ⟨rfl, hb⟩; have K9 : Hid (HoldOk base R S F w9 ∧ Below w.heap.size w w9) := HoldOk.next K8.out hb; clear hb)
    | (go_at_call 37; refine calls_at (hold66 base R S F _ K9.out.1.room (K9.out.1.nil 18 (by decide) (by decide) (by decide) (by decide) (by decide) (by decide))) (by with_reducible rfl) (by with_reducible rfl) ?_; rintro e w10 ⟨rfl, hb⟩; have K10 : Hid (HoldOk base R S F w10 ∧ Below w.heap.size w w10) := HoldOk.next K9.out hb; clear hb)
    | (go_at_call 38; refine calls_at (hold67 base R S F _ K10.out.1.room (K10.out.1.nil 20 (by decide) (by decide) (by decide) (by decide) (by decide) (by decide))) (by with_reducible rfl) (by with_reducible rfl) ?_; rintro e w11 ⟨rfl, hb⟩; have K11 : Hid (HoldOk base R S F w11 ∧ Below w.heap.size w w11) := HoldOk.next K10.out hb; clear hb)
    | (go_at_call 39; refine calls_at (hold68 base R S F _ K11.out.1.room (K11.out.1.nil 22 (by decide) (by decide) (by decide) (by decide) (by decide) (by decide))) (by with_reducible rfl) (by with_reducible rfl) ?_; rintro e w12 ⟨rfl, hb⟩; have K12 : Hid (HoldOk base R S F w12 ∧ Below w.heap.size w w12) := HoldOk.next K11.out hb; clear hb)
    | (go_at_call 40; refine calls_at (hold69 base R S F _ K12.out.1.room (K12.out.1.nil 24 (by decide) (by decide) (by decide) (by decide) (by decide) (by decide))) (by with_reducible rfl) (by with_reducible rfl) ?_; rintro e w13 ⟨rfl, hb⟩; have K13 : Hid (HoldOk base R S F w13 ∧ Below w.heap.size w w13) := HoldOk.next K12.out hb; clear hb)
    | (go_at_call 41; refine calls_at (hold70 base R S F _ K13.out.1.room (K13.out.1.nil 26 (by decide) (by decide) (by decide) (by decide) (by decide) (by decide))) (by with_reducible rfl) (by with_reducible rfl) ?_; rintro e w14 ⟨rfl, hb⟩; have K14 : Hid (HoldOk base R S F w14 ∧ Below w.heap.size w w14) := HoldOk.next K13.out hb; clear hb))
  go_ret
  exact ⟨rfl, K14.out.2⟩

end Go.Proofs.YtjanpglnahagdaaGreatDoor
