/-
  Put together: MdHoldL, MdHoldT, MdHoldI, MdHoldN.
-/
import Derived.Test.YtmhfabnpfkkbcaaGreatMdGood
import Derived.WalkSmall
namespace Go.Proofs.YtmhfabnpfkkbcaaGreat
open Go.RowKit

set_option maxRecDepth 10000 in
set_option maxHeartbeats 2000000 in
theorem holdLists_any (base R : Nat) (S : Lab) (F : Nat → List Value) (w : World) (hR : RoomAt ety base R S F w) (hG : All2 (EntL w) (F 16) (F 17)) (hlen : (F 16).length ≤ 1000000) :
    Calls Tryz.prog 65 #[.pointer (some ⟨R, 0, none⟩)] w fun e w' => e = .returned (.bool true) ∧ Below w.heap.size w w' := by
  obtain ⟨v0, hv0, ho0, _⟩ := hR.field 16 (by decide)
  obtain ⟨v1, hv1, ho1, _⟩ := hR.field 17 (by decide)
  have hl := hG.len
  have HG : Hid (All2 (EntL w) (F 16) (F 17)) := hG
  have hRl := hR.lt
  obtain ⟨X, hX⟩ : ∃ X, F 16 = X := ⟨_, rfl⟩
  obtain ⟨A, hA⟩ : ∃ A, F 17 = A := ⟨_, rfl⟩
  rw [hX] at HG ho0 hlen hl
  rw [hA] at HG ho1 hl
  obtain ⟨xa, xc, rfl⟩ := own_form ho0
  obtain ⟨aa, ac, rfl⟩ := own_form ho1
  have HOX : Hid (∀ i (hi : i < X.length), ∃ g, xa = some ⟨g, 0, none⟩ ∧ w.cell? ⟨g, i, none⟩ = some X[i]) := fun i hi => row_cell ho0 i hi
  have HOA : Hid (∀ i (hi : i < A.length), ∃ g, aa = some ⟨g, 0, none⟩ ∧ w.cell? ⟨g, i, none⟩ = some A[i]) := fun i hi => row_cell ho1 i hi
  rw [← hl] at hv1
  have HLE : Hid (X.length = A.length) := hl
  clear hR hG ho0 ho1 hX hA hl
  go_enter Tryz.func65, Tryz.ntmps65
  go_wp2_with fail
  go_loopw [3] (fun iv wr => ∃ k : Nat, iv = .int .i64 (k : Int) ∧ k ≤ X.length ∧ Hid (Below w.heap.size w wr)) (fun iv _ => X.length - (intOf iv).toNat)
  case atStart => exact ⟨0, rfl, Nat.zero_le _, Below.refl _ _⟩
  case round =>
    obtain ⟨k, rfl, hk, hB⟩ := hrel
    have r0 := (hB.out.cell (p := ⟨R, 16, none⟩) hRl).trans hv0
    have r1 := (hB.out.cell (p := ⟨R, 17, none⟩) hRl).trans hv1
    by_cases hlt : k < X.length
    · have hkI : (k : Int) < (X.length : Int) := by omega
      have hltA : k < A.length := by have := HLE.out; omega
      obtain ⟨gx, rfl, hcx⟩ := HOX.out k hlt
      obtain ⟨ga, rfl, hca⟩ := HOA.out k hltA
      obtain ⟨b, n, room, cap, hx, ha, hn, hroom, hmark⟩ := HG.out.get k hlt hltA
      rw [hx] at hcx
      rw [ha] at hca
      have hgx := World.block_lt_of_cell? w _ hcx
      have hga := World.block_lt_of_cell? w _ hca
      have s0 := (hB.out.cell (p := ⟨gx, k, none⟩) hgx).trans hcx
      have s1 := (hB.out.cell (p := ⟨ga, k, none⟩) hga).trans hca
      have HMK : Hid (∀ j, j < room → ∃ m, w.cell? ⟨b, n + j, none⟩ = some (.slice (some ⟨m, 0, none⟩) 1 1) ∧ w.cell? ⟨m, 0, none⟩ = some (.int .i64 (lotI j))) := hmark
      have HS0 : Hid (∀ w', Below w.heap.size w w' → w'.cell? ⟨gx, k, none⟩ = some (.slice (some ⟨b, 0, none⟩) (n + room) cap)) := fun w' hb => (hb.cell (p := ⟨gx, k, none⟩) hgx).trans hcx
      clear hx ha hcx hca hmark
      go_wp2_with fail
      go_loopw [5] (fun jv wq => ∃ j : Nat, jv = .int .i64 ((n : Int) + (j : Int)) ∧ j ≤ room ∧ Hid (Below w.heap.size w wq)) (fun jv _ => n + room - (intOf jv).toNat)
      case atStart => exact ⟨0, by simp, Nat.zero_le _, hB⟩
      case round =>
        obtain ⟨j, rfl, hj, hQ⟩ := hrel
        clear s0 s1 r0 r1
        have r0 := (hQ.out.cell (p := ⟨R, 16, none⟩) hRl).trans hv0
        have s0 := HS0.out _ hQ.out
        by_cases hjl : j < room
        · have hjI : (n : Int) + (j : Int) < (n : Int) + (room : Int) := by omega
          obtain ⟨m, hc, hc2⟩ := HMK.out j hjl
          have hbl := World.block_lt_of_cell? w _ hc
          have hbl2 := World.block_lt_of_cell? w _ hc2
          have hcw := (hQ.out.cell (p := ⟨b, n + j, none⟩) hbl).trans hc
          have hcw2 := (hQ.out.cell (p := ⟨m, 0, none⟩) hbl2).trans hc2
          have hbd : (n : Int) + (j : Int) ≤ 1000000 := by omega
          have hsub : IntKind.i64.wrap ((n : Int) + (j : Int) - (n : Int)) = (j : Int) := by rw [IntKind.wrap_i64]; omega
          have hsub2 : (n : Int) + (j : Int) - (n : Int) = (j : Int) := by omega
          have HLOT : Hid (∀ w', Calls Tryz.prog 82 #[.int .i64 (j : Int)] w' fun e w'' => e = .returned (.int .i64 (lotI j)) ∧ w'' = w') := fun w' => lot_any j w'
          generalize lotI j = y at *
          go_wp2_with fail
          go_quiet ((go_at_call 82; exact Calls.quiet_of_same (HLOT.out _)))
          go_wp2_with fail
          go_roundw
          case rel => exact ⟨j + 1, by go_num, by omega, below_drewN hQ.out _⟩
          case measure => simp [intOf]; omega
        · have hjI : ¬ (n : Int) + (j : Int) < (n : Int) + (room : Int) := by omega
          go_wp2_with fail
          go_roundw
          case rel => exact ⟨k + 1, by go_num, by omega, hQ⟩
          case measure => simp [intOf]; omega
    · have hkI : ¬ (k : Int) < (X.length : Int) := by omega
      go_wp2_with fail
      go_ret
      exact ⟨rfl, hB.out⟩
end Go.Proofs.YtmhfabnpfkkbcaaGreat

namespace Go.Proofs.YtmhfabnpfkkbcaaGreat
open Go.RowKit

set_option maxRecDepth 10000 in
set_option maxHeartbeats 2000000 in
theorem holdTerms_any (base R : Nat) (S : Lab) (F : Nat → List Value) (w : World) (hR : RoomAt ety base R S F w) (hG : All2 (EntT w) (F 4) (F 5)) (hlen : (F 4).length ≤ 1000000) :
    Calls Tryz.prog 59 #[.pointer (some ⟨R, 0, none⟩)] w fun e w' => e = .returned (.bool true) ∧ Below w.heap.size w w' := by
  obtain ⟨v0, hv0, ho0, _⟩ := hR.field 4 (by decide)
  obtain ⟨v1, hv1, ho1, _⟩ := hR.field 5 (by decide)
  have hl := hG.len
  have HG : Hid (All2 (EntT w) (F 4) (F 5)) := hG
  have hRl := hR.lt
  obtain ⟨X, hX⟩ : ∃ X, F 4 = X := ⟨_, rfl⟩
  obtain ⟨A, hA⟩ : ∃ A, F 5 = A := ⟨_, rfl⟩
  rw [hX] at HG ho0 hlen hl
  rw [hA] at HG ho1 hl
  obtain ⟨xa, xc, rfl⟩ := own_form ho0
  obtain ⟨aa, ac, rfl⟩ := own_form ho1
  have HOX : Hid (∀ i (hi : i < X.length), ∃ g, xa = some ⟨g, 0, none⟩ ∧ w.cell? ⟨g, i, none⟩ = some X[i]) := fun i hi => row_cell ho0 i hi
  have HOA : Hid (∀ i (hi : i < A.length), ∃ g, aa = some ⟨g, 0, none⟩ ∧ w.cell? ⟨g, i, none⟩ = some A[i]) := fun i hi => row_cell ho1 i hi
  rw [← hl] at hv1
  have HLE : Hid (X.length = A.length) := hl
  clear hR hG ho0 ho1 hX hA hl
  go_enter Tryz.func59, Tryz.ntmps59
  go_wp2_with fail
  go_loopw [3] (fun iv wr => ∃ k : Nat, iv = .int .i64 (k : Int) ∧ k ≤ X.length ∧ Hid (Below w.heap.size w wr)) (fun iv _ => X.length - (intOf iv).toNat)
  case atStart => exact ⟨0, rfl, Nat.zero_le _, Below.refl _ _⟩
  case round =>
    obtain ⟨k, rfl, hk, hB⟩ := hrel
    have r0 := (hB.out.cell (p := ⟨R, 4, none⟩) hRl).trans hv0
    have r1 := (hB.out.cell (p := ⟨R, 5, none⟩) hRl).trans hv1
    by_cases hlt : k < X.length
    · have hkI : (k : Int) < (X.length : Int) := by omega
      have hltA : k < A.length := by have := HLE.out; omega
      obtain ⟨gx, rfl, hcx⟩ := HOX.out k hlt
      obtain ⟨ga, rfl, hca⟩ := HOA.out k hltA
      obtain ⟨b, n, room, cap, hx, ha, hn, hroom, hmark⟩ := HG.out.get k hlt hltA
      rw [hx] at hcx
      rw [ha] at hca
      have hgx := World.block_lt_of_cell? w _ hcx
      have hga := World.block_lt_of_cell? w _ hca
      have s0 := (hB.out.cell (p := ⟨gx, k, none⟩) hgx).trans hcx
      have s1 := (hB.out.cell (p := ⟨ga, k, none⟩) hga).trans hca
      have HMK : Hid (∀ j, j < room → w.cell? ⟨b, (n + j) * 2, none⟩ = some (.int .i64 (lotI j)) ∧ w.cell? ⟨b, (n + j) * 2 + 1, none⟩ = some (.int .i64 0)) := hmark
      have HS0 : Hid (∀ w', Below w.heap.size w w' → w'.cell? ⟨gx, k, none⟩ = some (.slice (some ⟨b, 0, none⟩) (n + room) cap)) := fun w' hb => (hb.cell (p := ⟨gx, k, none⟩) hgx).trans hcx
      clear hx ha hcx hca hmark
      go_wp2_with fail
      go_loopw [5] (fun jv wq => ∃ j : Nat, jv = .int .i64 ((n : Int) + (j : Int)) ∧ j ≤ room ∧ Hid (Below w.heap.size w wq)) (fun jv _ => n + room - (intOf jv).toNat)
      case atStart => exact ⟨0, by simp, Nat.zero_le _, hB⟩
      case round =>
        obtain ⟨j, rfl, hj, hQ⟩ := hrel
        clear s0 s1 r0 r1
        have r0 := (hQ.out.cell (p := ⟨R, 4, none⟩) hRl).trans hv0
        have s0 := HS0.out _ hQ.out
        by_cases hjl : j < room
        · have hjI : (n : Int) + (j : Int) < (n : Int) + (room : Int) := by omega
          obtain ⟨hc, hc2⟩ := HMK.out j hjl
          have hbl := World.block_lt_of_cell? w _ hc
          have hcw := (hQ.out.cell (p := ⟨b, (n + j) * 2, none⟩) hbl).trans hc
          have hcw2 := (hQ.out.cell (p := ⟨b, (n + j) * 2 + 1, none⟩) hbl).trans hc2
          have hbd : (n : Int) + (j : Int) ≤ 1000000 := by omega
          have hsub : IntKind.i64.wrap ((n : Int) + (j : Int) - (n : Int)) = (j : Int) := by rw [IntKind.wrap_i64]; omega
          have hsub2 : (n : Int) + (j : Int) - (n : Int) = (j : Int) := by omega
          have hbin : ∀ w', (binOp .neq 107 (.agg #[.int .i64 (lotI j), .int .i64 0]) (.agg #[.int .i64 (lotI j), .int .i64 0])).run Tryz.prog w' = .ok (.bool false) w' := fun w' => by rw [term_neq]; simp
          rename World => wq
          have hBV : Hid (Below w.heap.size w (wq.alloc (.cells #[.int .i64 (lotI j), .int .i64 0] 107))) := hQ.out.alloc hQ.out.size _
          have HLOT : Hid (∀ w', Calls Tryz.prog 82 #[.int .i64 (j : Int)] w' fun e w'' => e = .returned (.int .i64 (lotI j)) ∧ w'' = w') := fun w' => lot_any j w'
          generalize lotI j = y at *
          go_wp2_with fail
          go_quiet ((go_at_call 82; exact Calls.quiet_of_same (HLOT.out _)))
          go_wp2_with fail
          go_roundw
          case rel => exact ⟨j + 1, by go_num, by omega, below_drewN hBV.out _⟩
          case measure => simp [intOf]; omega
        · have hjI : ¬ (n : Int) + (j : Int) < (n : Int) + (room : Int) := by omega
          go_wp2_with fail
          go_roundw
          case rel => exact ⟨k + 1, by go_num, by omega, hQ⟩
          case measure => simp [intOf]; omega
    · have hkI : ¬ (k : Int) < (X.length : Int) := by omega
      go_wp2_with fail
      go_ret
      exact ⟨rfl, hB.out⟩
end Go.Proofs.YtmhfabnpfkkbcaaGreat

namespace Go.Proofs.YtmhfabnpfkkbcaaGreat
open Go.RowKit

set_option maxRecDepth 10000 in
set_option maxHeartbeats 2000000 in
theorem holdInts_any (base R : Nat) (S : Lab) (F : Nat → List Value) (w : World) (hR : RoomAt ety base R S F w) (hG : All2 (EntI w) (F 0) (F 1)) (hlen : (F 0).length ≤ 1000000) :
    Calls Tryz.prog 57 #[.pointer (some ⟨R, 0, none⟩)] w fun e w' => e = .returned (.bool true) ∧ Below w.heap.size w w' := by
  obtain ⟨v0, hv0, ho0, _⟩ := hR.field 0 (by decide)
  obtain ⟨v1, hv1, ho1, _⟩ := hR.field 1 (by decide)
  have hl := hG.len
  have HG : Hid (All2 (EntI w) (F 0) (F 1)) := hG
  have hRl := hR.lt
  obtain ⟨X, hX⟩ : ∃ X, F 0 = X := ⟨_, rfl⟩
  obtain ⟨A, hA⟩ : ∃ A, F 1 = A := ⟨_, rfl⟩
  rw [hX] at HG ho0 hlen hl
  rw [hA] at HG ho1 hl
  obtain ⟨xa, xc, rfl⟩ := own_form ho0
  obtain ⟨aa, ac, rfl⟩ := own_form ho1
  have HOX : Hid (∀ i (hi : i < X.length), ∃ g, xa = some ⟨g, 0, none⟩ ∧ w.cell? ⟨g, i, none⟩ = some X[i]) := fun i hi => row_cell ho0 i hi
  have HOA : Hid (∀ i (hi : i < A.length), ∃ g, aa = some ⟨g, 0, none⟩ ∧ w.cell? ⟨g, i, none⟩ = some A[i]) := fun i hi => row_cell ho1 i hi
  rw [← hl] at hv1
  have HLE : Hid (X.length = A.length) := hl
  clear hR hG ho0 ho1 hX hA hl
  go_enter Tryz.func57, Tryz.ntmps57
  go_wp2_with fail
  go_loopw [3] (fun iv wr => ∃ k : Nat, iv = .int .i64 (k : Int) ∧ k ≤ X.length ∧ Hid (Below w.heap.size w wr)) (fun iv _ => X.length - (intOf iv).toNat)
  case atStart => exact ⟨0, rfl, Nat.zero_le _, Below.refl _ _⟩
  case round =>
    obtain ⟨k, rfl, hk, hB⟩ := hrel
    have r0 := (hB.out.cell (p := ⟨R, 0, none⟩) hRl).trans hv0
    have r1 := (hB.out.cell (p := ⟨R, 1, none⟩) hRl).trans hv1
    by_cases hlt : k < X.length
    · have hkI : (k : Int) < (X.length : Int) := by omega
      have hltA : k < A.length := by have := HLE.out; omega
      obtain ⟨gx, rfl, hcx⟩ := HOX.out k hlt
      obtain ⟨ga, rfl, hca⟩ := HOA.out k hltA
      obtain ⟨b, n, room, cap, hx, ha, hn, hroom, hmark⟩ := HG.out.get k hlt hltA
      rw [hx] at hcx
      rw [ha] at hca
      have hgx := World.block_lt_of_cell? w _ hcx
      have hga := World.block_lt_of_cell? w _ hca
      have s0 := (hB.out.cell (p := ⟨gx, k, none⟩) hgx).trans hcx
      have s1 := (hB.out.cell (p := ⟨ga, k, none⟩) hga).trans hca
      have HMK : Hid (∀ j, j < room → w.cell? ⟨b, n + j, none⟩ = some (.int .i64 (lotI j))) := hmark
      have HS0 : Hid (∀ w', Below w.heap.size w w' → w'.cell? ⟨gx, k, none⟩ = some (.slice (some ⟨b, 0, none⟩) (n + room) cap)) := fun w' hb => (hb.cell (p := ⟨gx, k, none⟩) hgx).trans hcx
      clear hx ha hcx hca hmark
      go_wp2_with fail
      go_loopw [5] (fun jv wq => ∃ j : Nat, jv = .int .i64 ((n : Int) + (j : Int)) ∧ j ≤ room ∧ Hid (Below w.heap.size w wq)) (fun jv _ => n + room - (intOf jv).toNat)
      case atStart => exact ⟨0, by simp, Nat.zero_le _, hB⟩
      case round =>
        obtain ⟨j, rfl, hj, hQ⟩ := hrel
        clear s0 s1 r0 r1
        have r0 := (hQ.out.cell (p := ⟨R, 0, none⟩) hRl).trans hv0
        have s0 := HS0.out _ hQ.out
        by_cases hjl : j < room
        · have hjI : (n : Int) + (j : Int) < (n : Int) + (room : Int) := by omega
          have hc := HMK.out j hjl
          have hbl := World.block_lt_of_cell? w _ hc
          have hcw := (hQ.out.cell (p := ⟨b, n + j, none⟩) hbl).trans hc
          have hbd : (n : Int) + (j : Int) ≤ 1000000 := by omega
          have hsub : (n : Int) + (j : Int) - (n : Int) = (j : Int) := by omega
          have HLOT : Hid (∀ w', Calls Tryz.prog 82 #[.int .i64 (j : Int)] w' fun e w'' => e = .returned (.int .i64 (lotI j)) ∧ w'' = w') := fun w' => lot_any j w'
          generalize lotI j = y at *
          go_wp2_with (go_at_call 82; refine calls_at (HLOT.out _) (by first | (with_reducible rfl) | (simp [hsub])) (by with_reducible rfl) ?_; rintro e w' ⟨rfl, hww⟩; rw [hww])
          go_roundw
          case rel => exact ⟨j + 1, by go_num, by omega, hQ⟩
          case measure => simp [intOf]; omega
        · have hjI : ¬ (n : Int) + (j : Int) < (n : Int) + (room : Int) := by omega
          go_wp2_with fail
          go_roundw
          case rel => exact ⟨k + 1, by go_num, by omega, hQ⟩
          case measure => simp [intOf]; omega
    · have hkI : ¬ (k : Int) < (X.length : Int) := by omega
      go_wp2_with fail
      go_ret
      exact ⟨rfl, hB.out⟩
end Go.Proofs.YtmhfabnpfkkbcaaGreat

namespace Go.Proofs.YtmhfabnpfkkbcaaGreat
open Go.RowKit

set_option maxRecDepth 10000 in
set_option maxHeartbeats 400000 in
theorem hold58 (base R : Nat) (S : Lab) (F : Nat → List Value) (w : World) (hR : RoomAt ety base R S F w) (hF : F 2 = []) : Calls Tryz.prog 58 #[.pointer (some ⟨R, 0, none⟩)] w fun e w' => e = .returned (.bool true) ∧ Below w.heap.size w w' := by
  obtain ⟨v0, hv0, ho0, _⟩ := hR.field 2 (by decide)
  rw [hF] at ho0
  obtain ⟨xa, xc, rfl⟩ := own_form ho0
  simp only [List.length_nil] at hv0
  clear hR ho0 hF
  go_enter Tryz.func58, Tryz.ntmps58
  go_wp2_with fail
  go_loop [3] (fun iv => iv = .int .i64 0) (fun _ => 0)
  case atStart => rfl
  case round =>
    subst hrel
    go_wp2_with fail
    go_ret
    exact ⟨rfl, Below.refl _ _⟩

set_option maxRecDepth 10000 in
set_option maxHeartbeats 400000 in
theorem hold60 (base R : Nat) (S : Lab) (F : Nat → List Value) (w : World) (hR : RoomAt ety base R S F w) (hF : F 6 = []) : Calls Tryz.prog 60 #[.pointer (some ⟨R, 0, none⟩)] w fun e w' => e = .returned (.bool true) ∧ Below w.heap.size w w' := by
  obtain ⟨v0, hv0, ho0, _⟩ := hR.field 6 (by decide)
  rw [hF] at ho0
  obtain ⟨xa, xc, rfl⟩ := own_form ho0
  simp only [List.length_nil] at hv0
  clear hR ho0 hF
  go_enter Tryz.func60, Tryz.ntmps60
  go_wp2_with fail
  go_loop [3] (fun iv => iv = .int .i64 0) (fun _ => 0)
  case atStart => rfl
  case round =>
    subst hrel
    go_wp2_with fail
    go_ret
    exact ⟨rfl, Below.refl _ _⟩

set_option maxRecDepth 10000 in
set_option maxHeartbeats 400000 in
theorem hold61 (base R : Nat) (S : Lab) (F : Nat → List Value) (w : World) (hR : RoomAt ety base R S F w) (hF : F 8 = []) : Calls Tryz.prog 61 #[.pointer (some ⟨R, 0, none⟩)] w fun e w' => e = .returned (.bool true) ∧ Below w.heap.size w w' := by
  obtain ⟨v0, hv0, ho0, _⟩ := hR.field 8 (by decide)
  rw [hF] at ho0
  obtain ⟨xa, xc, rfl⟩ := own_form ho0
  simp only [List.length_nil] at hv0
  clear hR ho0 hF
  go_enter Tryz.func61, Tryz.ntmps61
  go_wp2_with fail
  go_loop [3] (fun iv => iv = .int .i64 0) (fun _ => 0)
  case atStart => rfl
  case round =>
    subst hrel
    go_wp2_with fail
    go_ret
    exact ⟨rfl, Below.refl _ _⟩

set_option maxRecDepth 10000 in
set_option maxHeartbeats 400000 in
theorem hold62 (base R : Nat) (S : Lab) (F : Nat → List Value) (w : World) (hR : RoomAt ety base R S F w) (hF : F 10 = []) : Calls Tryz.prog 62 #[.pointer (some ⟨R, 0, none⟩)] w fun e w' => e = .returned (.bool true) ∧ Below w.heap.size w w' := by
  obtain ⟨v0, hv0, ho0, _⟩ := hR.field 10 (by decide)
  rw [hF] at ho0
  obtain ⟨xa, xc, rfl⟩ := own_form ho0
  simp only [List.length_nil] at hv0
  clear hR ho0 hF
  go_enter Tryz.func62, Tryz.ntmps62
  go_wp2_with fail
  go_loop [3] (fun iv => iv = .int .i64 0) (fun _ => 0)
  case atStart => rfl
  case round =>
    subst hrel
    go_wp2_with fail
    go_ret
    exact ⟨rfl, Below.refl _ _⟩

set_option maxRecDepth 10000 in
set_option maxHeartbeats 400000 in
theorem hold63 (base R : Nat) (S : Lab) (F : Nat → List Value) (w : World) (hR : RoomAt ety base R S F w) (hF : F 12 = []) : Calls Tryz.prog 63 #[.pointer (some ⟨R, 0, none⟩)] w fun e w' => e = .returned (.bool true) ∧ Below w.heap.size w w' := by
  obtain ⟨v0, hv0, ho0, _⟩ := hR.field 12 (by decide)
  rw [hF] at ho0
  obtain ⟨xa, xc, rfl⟩ := own_form ho0
  simp only [List.length_nil] at hv0
  clear hR ho0 hF
  go_enter Tryz.func63, Tryz.ntmps63
  go_wp2_with fail
  go_loop [3] (fun iv => iv = .int .i64 0) (fun _ => 0)
  case atStart => rfl
  case round =>
    subst hrel
    go_wp2_with fail
    go_ret
    exact ⟨rfl, Below.refl _ _⟩

set_option maxRecDepth 10000 in
set_option maxHeartbeats 400000 in
theorem hold64 (base R : Nat) (S : Lab) (F : Nat → List Value) (w : World) (hR : RoomAt ety base R S F w) (hF : F 14 = []) : Calls Tryz.prog 64 #[.pointer (some ⟨R, 0, none⟩)] w fun e w' => e = .returned (.bool true) ∧ Below w.heap.size w w' := by
  obtain ⟨v0, hv0, ho0, _⟩ := hR.field 14 (by decide)
  rw [hF] at ho0
  obtain ⟨xa, xc, rfl⟩ := own_form ho0
  simp only [List.length_nil] at hv0
  clear hR ho0 hF
  go_enter Tryz.func64, Tryz.ntmps64
  go_wp2_with fail
  go_loop [3] (fun iv => iv = .int .i64 0) (fun _ => 0)
  case atStart => rfl
  case round =>
    subst hrel
    go_wp2_with fail
    go_ret
    exact ⟨rfl, Below.refl _ _⟩

set_option maxRecDepth 10000 in
set_option maxHeartbeats 400000 in
theorem hold66 (base R : Nat) (S : Lab) (F : Nat → List Value) (w : World) (hR : RoomAt ety base R S F w) (hF : F 18 = []) : Calls Tryz.prog 66 #[.pointer (some ⟨R, 0, none⟩)] w fun e w' => e = .returned (.bool true) ∧ Below w.heap.size w w' := by
  obtain ⟨v0, hv0, ho0, _⟩ := hR.field 18 (by decide)
  rw [hF] at ho0
  obtain ⟨xa, xc, rfl⟩ := own_form ho0
  simp only [List.length_nil] at hv0
  clear hR ho0 hF
  go_enter Tryz.func66, Tryz.ntmps66
  go_wp2_with fail
  go_loop [3] (fun iv => iv = .int .i64 0) (fun _ => 0)
  case atStart => rfl
  case round =>
    subst hrel
    go_wp2_with fail
    go_ret
    exact ⟨rfl, Below.refl _ _⟩

set_option maxRecDepth 10000 in
set_option maxHeartbeats 400000 in
theorem hold67 (base R : Nat) (S : Lab) (F : Nat → List Value) (w : World) (hR : RoomAt ety base R S F w) (hF : F 20 = []) : Calls Tryz.prog 67 #[.pointer (some ⟨R, 0, none⟩)] w fun e w' => e = .returned (.bool true) ∧ Below w.heap.size w w' := by
  obtain ⟨v0, hv0, ho0, _⟩ := hR.field 20 (by decide)
  rw [hF] at ho0
  obtain ⟨xa, xc, rfl⟩ := own_form ho0
  simp only [List.length_nil] at hv0
  clear hR ho0 hF
  go_enter Tryz.func67, Tryz.ntmps67
  go_wp2_with fail
  go_loop [3] (fun iv => iv = .int .i64 0) (fun _ => 0)
  case atStart => rfl
  case round =>
    subst hrel
    go_wp2_with fail
    go_ret
    exact ⟨rfl, Below.refl _ _⟩

set_option maxRecDepth 10000 in
set_option maxHeartbeats 400000 in
theorem hold68 (base R : Nat) (S : Lab) (F : Nat → List Value) (w : World) (hR : RoomAt ety base R S F w) (hF : F 22 = []) : Calls Tryz.prog 68 #[.pointer (some ⟨R, 0, none⟩)] w fun e w' => e = .returned (.bool true) ∧ Below w.heap.size w w' := by
  obtain ⟨v0, hv0, ho0, _⟩ := hR.field 22 (by decide)
  rw [hF] at ho0
  obtain ⟨xa, xc, rfl⟩ := own_form ho0
  simp only [List.length_nil] at hv0
  clear hR ho0 hF
  go_enter Tryz.func68, Tryz.ntmps68
  go_wp2_with fail
  go_loop [3] (fun iv => iv = .int .i64 0) (fun _ => 0)
  case atStart => rfl
  case round =>
    subst hrel
    go_wp2_with fail
    go_ret
    exact ⟨rfl, Below.refl _ _⟩

set_option maxRecDepth 10000 in
set_option maxHeartbeats 400000 in
theorem hold69 (base R : Nat) (S : Lab) (F : Nat → List Value) (w : World) (hR : RoomAt ety base R S F w) (hF : F 24 = []) : Calls Tryz.prog 69 #[.pointer (some ⟨R, 0, none⟩)] w fun e w' => e = .returned (.bool true) ∧ Below w.heap.size w w' := by
  obtain ⟨v0, hv0, ho0, _⟩ := hR.field 24 (by decide)
  rw [hF] at ho0
  obtain ⟨xa, xc, rfl⟩ := own_form ho0
  simp only [List.length_nil] at hv0
  clear hR ho0 hF
  go_enter Tryz.func69, Tryz.ntmps69
  go_wp2_with fail
  go_loop [3] (fun iv => iv = .int .i64 0) (fun _ => 0)
  case atStart => rfl
  case round =>
    subst hrel
    go_wp2_with fail
    go_ret
    exact ⟨rfl, Below.refl _ _⟩

set_option maxRecDepth 10000 in
set_option maxHeartbeats 400000 in
theorem hold70 (base R : Nat) (S : Lab) (F : Nat → List Value) (w : World) (hR : RoomAt ety base R S F w) (hF : F 26 = []) : Calls Tryz.prog 70 #[.pointer (some ⟨R, 0, none⟩)] w fun e w' => e = .returned (.bool true) ∧ Below w.heap.size w w' := by
  obtain ⟨v0, hv0, ho0, _⟩ := hR.field 26 (by decide)
  rw [hF] at ho0
  obtain ⟨xa, xc, rfl⟩ := own_form ho0
  simp only [List.length_nil] at hv0
  clear hR ho0 hF
  go_enter Tryz.func70, Tryz.ntmps70
  go_wp2_with fail
  go_loop [3] (fun iv => iv = .int .i64 0) (fun _ => 0)
  case atStart => rfl
  case round =>
    subst hrel
    go_wp2_with fail
    go_ret
    exact ⟨rfl, Below.refl _ _⟩
end Go.Proofs.YtmhfabnpfkkbcaaGreat
