/-
  A room holds its marks: variables, constraints.
-/
import Derived.Test.YtmhfabnpfkkbcaaGreatMdLayVK
import Derived.Test.YtmhfabnpfkkbcaaGreatMdDb
import Derived.WalkSmall
namespace Go.Proofs.YtmhfabnpfkkbcaaGreat
open Go.RowKit

def EntV (w : World) (x a : Value) : Prop := ∃ b n room cap : Nat, x = .slice (some ⟨b, 0, none⟩) (n + room) cap ∧ a = .int .i64 (n : Int) ∧ n ≤ 100000 ∧ room ≤ 40 ∧ ∀ j, j < room → w.cell? ⟨b, (n + j) * 3, none⟩ = some (.string ⟨#[]⟩) ∧ w.cell? ⟨b, (n + j) * 3 + 1, none⟩ = some (.int .i64 (lotI j)) ∧ w.cell? ⟨b, (n + j) * 3 + 2, none⟩ = some (.int .i64 0)
def EntK (w : World) (x a : Value) : Prop := ∃ b n room cap : Nat, x = .slice (some ⟨b, 0, none⟩) (n + room) cap ∧ a = .int .i64 (n : Int) ∧ n ≤ 100000 ∧ room ≤ 40 ∧ ∀ j, j < room → w.cell? ⟨b, (n + j) * 10, none⟩ = some (.int .i64 0) ∧ w.cell? ⟨b, (n + j) * 10 + 1, none⟩ = some (.int .i64 0) ∧ w.cell? ⟨b, (n + j) * 10 + 2, none⟩ = some (.slice none 0 0) ∧ w.cell? ⟨b, (n + j) * 10 + 3, none⟩ = some (.int .i64 0) ∧ w.cell? ⟨b, (n + j) * 10 + 4, none⟩ = some (.int .i64 0) ∧ w.cell? ⟨b, (n + j) * 10 + 5, none⟩ = some (.int .i64 (lotI j)) ∧ w.cell? ⟨b, (n + j) * 10 + 6, none⟩ = some (.int .i64 0) ∧ w.cell? ⟨b, (n + j) * 10 + 7, none⟩ = some (.slice none 0 0) ∧ w.cell? ⟨b, (n + j) * 10 + 8, none⟩ = some (.slice none 0 0) ∧ w.cell? ⟨b, (n + j) * 10 + 9, none⟩ = some (.slice none 0 0)

set_option maxRecDepth 10000 in
set_option maxHeartbeats 2000000 in
theorem holdVars_any (base R : Nat) (S : Lab) (F : Nat → List Value) (w : World) (hR : RoomAt ety base R S F w) (hG : All2 (EntV w) (F 6) (F 7)) (hlen : (F 6).length ≤ 1000000) :
    Calls Tryz.prog 60 #[.pointer (some ⟨R, 0, none⟩)] w fun e w' => e = .returned (.bool true) ∧ Below w.heap.size w w' := by
  obtain ⟨v0, hv0, ho0, _⟩ := hR.field 6 (by decide)
  obtain ⟨v1, hv1, ho1, _⟩ := hR.field 7 (by decide)
  have hl := hG.len
  have HG : Hid (All2 (EntV w) (F 6) (F 7)) := hG
  have hRl := hR.lt
  obtain ⟨X, hX⟩ : ∃ X, F 6 = X := ⟨_, rfl⟩
  obtain ⟨A, hA⟩ : ∃ A, F 7 = A := ⟨_, rfl⟩
  rw [hX] at HG ho0 hlen hl
  rw [hA] at HG ho1 hl
  obtain ⟨xa, xc, rfl⟩ := own_form ho0
  obtain ⟨aa, ac, rfl⟩ := own_form ho1
  have HOX : Hid (∀ i (hi : i < X.length), ∃ g, xa = some ⟨g, 0, none⟩ ∧ w.cell? ⟨g, i, none⟩ = some X[i]) := fun i hi => row_cell ho0 i hi
  have HOA : Hid (∀ i (hi : i < A.length), ∃ g, aa = some ⟨g, 0, none⟩ ∧ w.cell? ⟨g, i, none⟩ = some A[i]) := fun i hi => row_cell ho1 i hi
  rw [← hl] at hv1
  have HLE : Hid (X.length = A.length) := hl
  clear hR hG ho0 ho1 hX hA hl
  go_enter Tryz.func60, Tryz.ntmps60
  go_wp2_with fail
  go_loopw [3] (fun iv wr => ∃ k : Nat, iv = .int .i64 (k : Int) ∧ k ≤ X.length ∧ Hid (Below w.heap.size w wr)) (fun iv _ => X.length - (intOf iv).toNat)
  case atStart => exact ⟨0, rfl, Nat.zero_le _, Below.refl _ _⟩
  case round =>
    obtain ⟨k, rfl, hk, hB⟩ := hrel
    have r0 := (hB.out.cell (p := ⟨R, 6, none⟩) hRl).trans hv0
    have r1 := (hB.out.cell (p := ⟨R, 7, none⟩) hRl).trans hv1
    by_cases hlt : k < X.length
    · have hkI : (k : Int) < (X.length : Int) := by omega
      have hltA : k < A.length := by have := HLE.out; omega
      obtain ⟨gx, rfl, hcx⟩ := HOX.out k hlt
      obtain ⟨ga, rfl, hca⟩ := HOA.out k hltA
      obtain ⟨b, n, room, cap, hx, ha, hn, hroom, hmark⟩ := HG.out.get k hlt hltA
      rw [hx] at hcx
      rw [ha] at hca
      have hgx := World.block_lt_of_cell? w _ hcx
      have hga := World.block_lt_of_cell? w _ hca
      have s0 := (hB.out.cell (p := ⟨gx, k, none⟩) hgx).trans hcx
      have s1 := (hB.out.cell (p := ⟨ga, k, none⟩) hga).trans hca
      have HMK : Hid (∀ j, j < room → w.cell? ⟨b, (n + j) * 3, none⟩ = some (.string ⟨#[]⟩) ∧ w.cell? ⟨b, (n + j) * 3 + 1, none⟩ = some (.int .i64 (lotI j)) ∧ w.cell? ⟨b, (n + j) * 3 + 2, none⟩ = some (.int .i64 0)) := hmark
      have HS0 : Hid (∀ w', Below w.heap.size w w' → w'.cell? ⟨gx, k, none⟩ = some (.slice (some ⟨b, 0, none⟩) (n + room) cap)) := fun w' hb => (hb.cell (p := ⟨gx, k, none⟩) hgx).trans hcx
      clear hx ha hcx hca hmark
      go_wp2_with fail
      go_loopw [5] (fun jv wq => ∃ j : Nat, jv = .int .i64 ((n : Int) + (j : Int)) ∧ j ≤ room ∧ Hid (Below w.heap.size w wq)) (fun jv _ => n + room - (intOf jv).toNat)
      case atStart => exact ⟨0, by simp, Nat.zero_le _, hB⟩
      case round =>
        obtain ⟨j, rfl, hj, hQ⟩ := hrel
        clear s0 s1 r0 r1
        have r0 := (hQ.out.cell (p := ⟨R, 6, none⟩) hRl).trans hv0
        have s0 := HS0.out _ hQ.out
        by_cases hjl : j < room
        · have hjI : (n : Int) + (j : Int) < (n : Int) + (room : Int) := by omega
          obtain ⟨hc, hc2, hc3⟩ := HMK.out j hjl
          have hbl := World.block_lt_of_cell? w _ hc
          have hcw := (hQ.out.cell (p := ⟨b, (n + j) * 3, none⟩) hbl).trans hc
          have hcw2 := (hQ.out.cell (p := ⟨b, (n + j) * 3 + 1, none⟩) hbl).trans hc2
          have hcw3 := (hQ.out.cell (p := ⟨b, (n + j) * 3 + 2, none⟩) hbl).trans hc3
          have hbd : (n : Int) + (j : Int) ≤ 1000000 := by omega
          have hsub : IntKind.i64.wrap ((n : Int) + (j : Int) - (n : Int)) = (j : Int) := by rw [IntKind.wrap_i64]; omega
          have hsub2 : (n : Int) + (j : Int) - (n : Int) = (j : Int) := by omega
          have hbin : ∀ w', (binOp .neq 78 (.agg #[.string ⟨#[]⟩, .int .i64 (lotI j), .int .i64 0]) (.agg #[.string ⟨#[]⟩, .int .i64 (lotI j), .int .i64 0])).run Tryz.prog w' = .ok (.bool false) w' := fun w' => var_neq _ _ _ w'
          rename World => wq
          have hBV : Hid (Below w.heap.size w (wq.alloc (.cells #[.string ⟨#[]⟩, .int .i64 (lotI j), .int .i64 0] 78))) := hQ.out.alloc hQ.out.size _
          have HLOT : Hid (∀ w', Calls Tryz.prog 82 #[.int .i64 (j : Int)] w' fun e w'' => e = .returned (.int .i64 (lotI j)) ∧ w'' = w') := fun w' => lot_any j w'
          generalize lotI j = y at *
          go_wp2_with fail
          go_quiet ((go_at_call 82; exact Calls.quiet_of_same (HLOT.out _)))
          go_wp2_with fail
          go_roundw
          case rel => exact ⟨j + 1, by go_num, by omega, below_drewN hBV.out _⟩
          case measure => simp [intOf]; omega
        · have hjI : ¬ (n : Int) + (j : Int) < (n : Int) + (room : Int) := by omega
          go_wp2_with fail
          go_roundw
          case rel => exact ⟨k + 1, by go_num, by omega, hQ⟩
          case measure => simp [intOf]; omega
    · have hkI : ¬ (k : Int) < (X.length : Int) := by omega
      go_wp2_with fail
      go_ret
      exact ⟨rfl, hB.out⟩

set_option maxRecDepth 10000 in
set_option maxHeartbeats 2000000 in
theorem holdCons_any (base R : Nat) (S : Lab) (F : Nat → List Value) (w : World) (hR : RoomAt ety base R S F w) (hG : All2 (EntK w) (F 18) (F 19)) (hlen : (F 18).length ≤ 1000000) :
    Calls Tryz.prog 66 #[.pointer (some ⟨R, 0, none⟩)] w fun e w' => e = .returned (.bool true) ∧ Below w.heap.size w w' := by
  obtain ⟨v0, hv0, ho0, _⟩ := hR.field 18 (by decide)
  obtain ⟨v1, hv1, ho1, _⟩ := hR.field 19 (by decide)
  have hl := hG.len
  have HG : Hid (All2 (EntK w) (F 18) (F 19)) := hG
  have hRl := hR.lt
  obtain ⟨X, hX⟩ : ∃ X, F 18 = X := ⟨_, rfl⟩
  obtain ⟨A, hA⟩ : ∃ A, F 19 = A := ⟨_, rfl⟩
  rw [hX] at HG ho0 hlen hl
  rw [hA] at HG ho1 hl
  obtain ⟨xa, xc, rfl⟩ := own_form ho0
  obtain ⟨aa, ac, rfl⟩ := own_form ho1
  have HOX : Hid (∀ i (hi : i < X.length), ∃ g, xa = some ⟨g, 0, none⟩ ∧ w.cell? ⟨g, i, none⟩ = some X[i]) := fun i hi => row_cell ho0 i hi
  have HOA : Hid (∀ i (hi : i < A.length), ∃ g, aa = some ⟨g, 0, none⟩ ∧ w.cell? ⟨g, i, none⟩ = some A[i]) := fun i hi => row_cell ho1 i hi
  rw [← hl] at hv1
  have HLE : Hid (X.length = A.length) := hl
  clear hR hG ho0 ho1 hX hA hl
  go_enter Tryz.func66, Tryz.ntmps66
  go_wp2_with fail
  go_loopw [3] (fun iv wr => ∃ k : Nat, iv = .int .i64 (k : Int) ∧ k ≤ X.length ∧ Hid (Below w.heap.size w wr)) (fun iv _ => X.length - (intOf iv).toNat)
  case atStart => exact ⟨0, rfl, Nat.zero_le _, Below.refl _ _⟩
  case round =>
    obtain ⟨k, rfl, hk, hB⟩ := hrel
    have r0 := (hB.out.cell (p := ⟨R, 18, none⟩) hRl).trans hv0
    have r1 := (hB.out.cell (p := ⟨R, 19, none⟩) hRl).trans hv1
    by_cases hlt : k < X.length
    · have hkI : (k : Int) < (X.length : Int) := by omega
      have hltA : k < A.length := by have := HLE.out; omega
      obtain ⟨gx, rfl, hcx⟩ := HOX.out k hlt
      obtain ⟨ga, rfl, hca⟩ := HOA.out k hltA
      obtain ⟨b, n, room, cap, hx, ha, hn, hroom, hmark⟩ := HG.out.get k hlt hltA
      rw [hx] at hcx
      rw [ha] at hca
      have hgx := World.block_lt_of_cell? w _ hcx
      have hga := World.block_lt_of_cell? w _ hca
      have s0 := (hB.out.cell (p := ⟨gx, k, none⟩) hgx).trans hcx
      have s1 := (hB.out.cell (p := ⟨ga, k, none⟩) hga).trans hca
      have HMK : Hid (∀ j, j < room → w.cell? ⟨b, (n + j) * 10, none⟩ = some (.int .i64 0) ∧ w.cell? ⟨b, (n + j) * 10 + 1, none⟩ = some (.int .i64 0) ∧ w.cell? ⟨b, (n + j) * 10 + 2, none⟩ = some (.slice none 0 0) ∧ w.cell? ⟨b, (n + j) * 10 + 3, none⟩ = some (.int .i64 0) ∧ w.cell? ⟨b, (n + j) * 10 + 4, none⟩ = some (.int .i64 0) ∧ w.cell? ⟨b, (n + j) * 10 + 5, none⟩ = some (.int .i64 (lotI j)) ∧ w.cell? ⟨b, (n + j) * 10 + 6, none⟩ = some (.int .i64 0) ∧ w.cell? ⟨b, (n + j) * 10 + 7, none⟩ = some (.slice none 0 0) ∧ w.cell? ⟨b, (n + j) * 10 + 8, none⟩ = some (.slice none 0 0) ∧ w.cell? ⟨b, (n + j) * 10 + 9, none⟩ = some (.slice none 0 0)) := hmark
      have HS0 : Hid (∀ w', Below w.heap.size w w' → w'.cell? ⟨gx, k, none⟩ = some (.slice (some ⟨b, 0, none⟩) (n + room) cap)) := fun w' hb => (hb.cell (p := ⟨gx, k, none⟩) hgx).trans hcx
      clear hx ha hcx hca hmark
      go_wp2_with fail
      go_loopw [5] (fun jv wq => ∃ j : Nat, jv = .int .i64 ((n : Int) + (j : Int)) ∧ j ≤ room ∧ Hid (Below w.heap.size w wq)) (fun jv _ => n + room - (intOf jv).toNat)
      case atStart => exact ⟨0, by simp, Nat.zero_le _, hB⟩
      case round =>
        obtain ⟨j, rfl, hj, hQ⟩ := hrel
        clear s0 s1 r0 r1
        have r0 := (hQ.out.cell (p := ⟨R, 18, none⟩) hRl).trans hv0
        have s0 := HS0.out _ hQ.out
        by_cases hjl : j < room
        · have hjI : (n : Int) + (j : Int) < (n : Int) + (room : Int) := by omega
          obtain ⟨hc, hc1, hc2, hc3, hc4, hc5, hc6, hc7, hc8, hc9⟩ := HMK.out j hjl
          have hbl := World.block_lt_of_cell? w _ hc
          have hcw := (hQ.out.cell (p := ⟨b, (n + j) * 10, none⟩) hbl).trans hc
          have hcw1 := (hQ.out.cell (p := ⟨b, (n + j) * 10 + 1, none⟩) hbl).trans hc1
          have hcw2 := (hQ.out.cell (p := ⟨b, (n + j) * 10 + 2, none⟩) hbl).trans hc2
          have hcw3 := (hQ.out.cell (p := ⟨b, (n + j) * 10 + 3, none⟩) hbl).trans hc3
          have hcw4 := (hQ.out.cell (p := ⟨b, (n + j) * 10 + 4, none⟩) hbl).trans hc4
          have hcw5 := (hQ.out.cell (p := ⟨b, (n + j) * 10 + 5, none⟩) hbl).trans hc5
          have hcw6 := (hQ.out.cell (p := ⟨b, (n + j) * 10 + 6, none⟩) hbl).trans hc6
          have hcw7 := (hQ.out.cell (p := ⟨b, (n + j) * 10 + 7, none⟩) hbl).trans hc7
          have hcw8 := (hQ.out.cell (p := ⟨b, (n + j) * 10 + 8, none⟩) hbl).trans hc8
          have hcw9 := (hQ.out.cell (p := ⟨b, (n + j) * 10 + 9, none⟩) hbl).trans hc9
          have hbd : (n : Int) + (j : Int) ≤ 1000000 := by omega
          have hsub : IntKind.i64.wrap ((n : Int) + (j : Int) - (n : Int)) = (j : Int) := by rw [IntKind.wrap_i64]; omega
          have hsub2 : (n : Int) + (j : Int) - (n : Int) = (j : Int) := by omega
          have hself : (lotI j != lotI j) = false := by simp
          rename World => wq
          have hBV : Hid (Below w.heap.size w (wq.alloc (.cells #[.int .i64 0, .int .i64 0, .slice none 0 0, .int .i64 0, .int .i64 0, .int .i64 (lotI j), .int .i64 0, .slice none 0 0, .slice none 0 0, .slice none 0 0] 62))) := hQ.out.alloc hQ.out.size _
          have HLOT : Hid (∀ w', Calls Tryz.prog 82 #[.int .i64 (j : Int)] w' fun e w'' => e = .returned (.int .i64 (lotI j)) ∧ w'' = w') := fun w' => lot_any j w'
          generalize lotI j = y at *
          go_wp2_with fail
          go_quiet ((go_at_call 82; exact Calls.quiet_of_same (HLOT.out _)))
          go_wp2_with fail
          go_roundw
          case rel => exact ⟨j + 1, by go_num, by omega, below_drewN hBV.out _⟩
          case measure => simp [intOf]; omega
        · have hjI : ¬ (n : Int) + (j : Int) < (n : Int) + (room : Int) := by omega
          go_wp2_with fail
          go_roundw
          case rel => exact ⟨k + 1, by go_num, by omega, hQ⟩
          case measure => simp [intOf]; omega
    · have hkI : ¬ (k : Int) < (X.length : Int) := by omega
      go_wp2_with fail
      go_ret
      exact ⟨rfl, hB.out⟩
end Go.Proofs.YtmhfabnpfkkbcaaGreat
