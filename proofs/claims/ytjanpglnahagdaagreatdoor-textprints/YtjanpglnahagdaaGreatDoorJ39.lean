/-
  Put together: MdHoldV, MdRoomM.
-/
import Derived.Test.YtjanpglnahagdaaGreatDoorMdLayKW
import Derived.Test.YtjanpglnahagdaaGreatDoorMdD5
import Derived.WalkSmall
namespace Go.Proofs.YtjanpglnahagdaaGreatDoor
open Go.RowKit

def EntV (w : World) (x a : Value) : Prop := ∃ b n room cap : Nat, x = .slice (some ⟨b, 0, none⟩) (n + room) cap ∧ a = .int .i64 (n : Int) ∧ n ≤ 100000 ∧ room ≤ 40 ∧ ∀ j, j < room → w.cell? ⟨b, (n + j) * 3, none⟩ = some (.string ⟨#[]⟩) ∧ w.cell? ⟨b, (n + j) * 3 + 1, none⟩ = some (.int .i64 (lotI j)) ∧ w.cell? ⟨b, (n + j) * 3 + 2, none⟩ = some (.int .i64 0)
def EntK (w : World) (x a : Value) : Prop := ∃ b n room cap : Nat, x = .slice (some ⟨b, 0, none⟩) (n + room) cap ∧ a = .int .i64 (n : Int) ∧ n ≤ 100000 ∧ room ≤ 40 ∧ ∀ j, j < room → w.cell? ⟨b, (n + j) * 10, none⟩ = some (.int .i64 0) ∧ w.cell? ⟨b, (n + j) * 10 + 1, none⟩ = some (.int .i64 0) ∧ w.cell? ⟨b, (n + j) * 10 + 2, none⟩ = some (.slice none 0 0) ∧ w.cell? ⟨b, (n + j) * 10 + 3, none⟩ = some (.int .i64 0) ∧ w.cell? ⟨b, (n + j) * 10 + 4, none⟩ = some (.int .i64 0) ∧ w.cell? ⟨b, (n + j) * 10 + 5, none⟩ = some (.int .i64 (lotI j)) ∧ w.cell? ⟨b, (n + j) * 10 + 6, none⟩ = some (.int .i64 0) ∧ w.cell? ⟨b, (n + j) * 10 + 7, none⟩ = some (.slice none 0 0) ∧ w.cell? ⟨b, (n + j) * 10 + 8, none⟩ = some (.slice none 0 0) ∧ w.cell? ⟨b, (n + j) * 10 + 9, none⟩ = some (.slice none 0 0)

set_option maxRecDepth 10000 in
set_option maxHeartbeats 2000000 in
theorem holdVars_any (base R : Nat) (S : Lab) (F : Nat → List Value) (w : World) (hR : RoomAt ety base R S F w) (hG : All2 (EntV w) (F 6) (F 7)) (hlen : (F 6).length ≤ 1000000) :
    Calls Tryz.prog 31 #[.pointer (some ⟨R, 0, none⟩)] w fun e w' => e = .returned (.bool true) ∧ Below w.heap.size w w' := by
  obtain ⟨v0, hv0, ho0, _⟩ := hR.field 6 (by decide)
  obtain ⟨v1, hv1, ho1, _⟩ := hR.field 7 (by decide)
  have hl := hG.len
  have HG : Hid (All2 (EntV w) (F 6) (F 7)) := hG
  have hRl := hR.lt
  obtain ⟨X, hX⟩ : ∃ X, F 6 = X := ⟨_, rfl⟩
  obtain ⟨A, hA⟩ : ∃ A, F 7 = A := ⟨_, rfl⟩
  rw [hX] at HG ho0 hlen hl
  rw [hA] at HG ho1 hl
  obtain ⟨xa, xc, rfl⟩ := own_form ho0
  obtain ⟨aa, ac, rfl⟩ := own_form ho1
  have HOX : Hid (∀ i (hi : i < X.length), ∃ g, xa = some ⟨g, 0, none⟩ ∧ w.cell? ⟨g, i, none⟩ = some X[i]) := fun i hi => row_cell ho0 i hi
  have HOA : Hid (∀ i (hi : i < A.length), ∃ g, aa = some ⟨g, 0, none⟩ ∧ w.cell? ⟨g, i, none⟩ = some A[i]) := fun i hi => row_cell ho1 i hi
  rw [← hl] at hv1
  have HLE : Hid (X.length = A.length) := hl
  clear hR hG ho0 ho1 hX hA hl
  go_enter Tryz.func31, Tryz.ntmps31
  go_wp2_with fail
  go_loopw [3] (fun iv wr => ∃ k : Nat, iv = .int .i64 (k : Int) ∧ k ≤ X.length ∧ Hid (Below w.heap.size w wr)) (fun iv _ => X.length - (intOf iv).toNat)
  case atStart => exact ⟨0, rfl, Nat.zero_le _, Below.refl _ _⟩
  case round =>
    obtain ⟨k, rfl, hk, hB⟩ := hrel
    have r0 := (hB.out.cell (p := ⟨R, 6, none⟩) hRl).trans hv0
    have r1 := (hB.out.cell (p := ⟨R, 7, none⟩) hRl).trans hv1
    by_cases hlt : k < X.length
    · have hkI : (k : Int) < (X.length : Int) := by omega
      have hltA : k < A.length := by have := HLE.out; omega
      obtain ⟨gx, rfl, hcx⟩ := HOX.out k hlt
      obtain ⟨ga, rfl, hca⟩ := HOA.out k hltA
      obtain ⟨b, n, room, cap, hx, ha, hn, hroom, hmark⟩ := HG.out.get k hlt hltA
      rw [hx] at hcx
      rw [ha] at hca
      have hgx := World.block_lt_of_cell? w _ hcx
      have hga := World.block_lt_of_cell? w _ hca
      have s0 := (hB.out.cell (p := ⟨gx, k, none⟩) hgx).trans hcx
      have s1 := (hB.out.cell (p := ⟨ga, k, none⟩) hga).trans hca
      have HMK : Hid (∀ j, j < room → w.cell? ⟨b, (n + j) * 3, none⟩ = some (.string ⟨#[]⟩) ∧ w.cell? ⟨b, (n + j) * 3 + 1, none⟩ = some (.int .i64 (lotI j)) ∧ w.cell? ⟨b, (n + j) * 3 + 2, none⟩ = some (.int .i64 0)) := hmark
      have HS0 : Hid (∀ w', Below w.heap.size w w' → w'.cell? ⟨gx, k, none⟩ = some (.slice (some ⟨b, 0, none⟩) (n + room) cap)) := fun w' hb => (hb.cell (p := ⟨gx, k, none⟩) hgx).trans hcx
      clear hx ha hcx hca hmark
      go_wp2_with fail
      go_loopw [5] (fun jv wq => ∃ j : Nat, jv = .int .i64 ((n : Int) + (j : Int)) ∧ j ≤ room ∧ Hid (Below w.heap.size w wq)) (fun jv _ => n + room - (intOf jv).toNat)
      case atStart => exact ⟨0, by simp, Nat.zero_le _, hB⟩
      case round =>
        obtain ⟨j, rfl, hj, hQ⟩ := hrel
        clear s0 s1 r0 r1
        have r0 := (hQ.out.cell (p := ⟨R, 6, none⟩) hRl).trans hv0
        have s0 := HS0.out _ hQ.out
        by_cases hjl : j < room
        · have hjI : (n : Int) + (j : Int) < (n : Int) + (room : Int) := by omega
          obtain ⟨hc, hc2, hc3⟩ := HMK.out j hjl
          have hbl := World.block_lt_of_cell? w _ hc
          have hcw := (hQ.out.cell (p := ⟨b, (n + j) * 3, none⟩) hbl).trans hc
          have hcw2 := (hQ.out.cell (p := ⟨b, (n + j) * 3 + 1, none⟩) hbl).trans hc2
          have hcw3 := (hQ.out.cell (p := ⟨b, (n + j) * 3 + 2, none⟩) hbl).trans hc3
          have hbd : (n : Int) + (j : Int) ≤ 1000000 := by omega
          have hsub : IntKind.i64.wrap ((n : Int) + (j : Int) - (n : Int)) = (j : Int) := by rw [IntKind.wrap_i64]; omega
          have hsub2 : (n : Int) + (j : Int) - (n : Int) = (j : Int) := by omega
          have hbin : ∀ w', (binOp .neq 61 (.agg #[.string ⟨#[]⟩, .int .i64 (lotI j), .int .i64 0]) (.agg #[.string ⟨#[]⟩, .int .i64 (lotI j), .int .i64 0])).run Tryz.prog w' = .ok (.bool false) w' := fun w' => var_neq _ _ _ w'
          rename World => wq
          have hBV : Hid (Below w.heap.size w (wq.alloc (.cells #[.string ⟨#[]⟩, .int .i64 (lotI j), .int .i64 0] 61))) := hQ.out.alloc hQ.out.size _
          have HLOT : Hid (∀ w', Calls Tryz.prog 60 #[.int .i64 (j : Int)] w' fun e w'' => e = .returned (.int .i64 (lotI j)) ∧ w'' = w') := fun w' => lot_any j w'
          generalize lotI j = y at *
          go_wp2_with fail
          go_quiet ((go_at_call 60; exact Calls.quiet_of_same (HLOT.out _)))
          go_wp2_with fail
          go_roundw
          case rel => exact ⟨j + 1, by go_num, by omega, below_drewN hBV.out _⟩
          case measure => simp [intOf]; omega
        · have hjI : ¬ (n : Int) + (j : Int) < (n : Int) + (room : Int) := by omega
          go_wp2_with fail
          go_roundw
          case rel => exact ⟨k + 1, by go_num, by omega, hQ⟩
          case measure => simp [intOf]; omega
    · have hkI : ¬ (k : Int) < (X.length : Int) := by omega
      go_wp2_with fail
      go_ret
      exact ⟨rfl, hB.out⟩

set_option maxRecDepth 10000 in
set_option maxHeartbeats 2000000 in
theorem holdCons_any (base R : Nat) (S : Lab) (F : Nat → List Value) (w : World) (hR : RoomAt ety base R S F w) (hG : All2 (EntK w) (F 18) (F 19)) (hlen : (F 18).length ≤ 1000000) :
    Calls Tryz.prog 37 #[.pointer (some ⟨R, 0, none⟩)] w fun e w' => e = .returned (.bool true) ∧ Below w.heap.size w w' := by
  obtain ⟨v0, hv0, ho0, _⟩ := hR.field 18 (by decide)
  obtain ⟨v1, hv1, ho1, _⟩ := hR.field 19 (by decide)
  have hl := hG.len
  have HG : Hid (All2 (EntK w) (F 18) (F 19)) := hG
  have hRl := hR.lt
  obtain ⟨X, hX⟩ : ∃ X, F 18 = X := ⟨_, rfl⟩
  obtain ⟨A, hA⟩ : ∃ A, F 19 = A := ⟨_, rfl⟩
  rw [hX] at HG ho0 hlen hl
  rw [hA] at HG ho1 hl
  obtain ⟨xa, xc, rfl⟩ := own_form ho0
  obtain ⟨aa, ac, rfl⟩ := own_form ho1
  have HOX : Hid (∀ i (hi : i < X.length), ∃ g, xa = some ⟨g, 0, none⟩ ∧ w.cell? ⟨g, i, none⟩ = some X[i]) := fun i hi => row_cell ho0 i hi
  have HOA : Hid (∀ i (hi : i < A.length), ∃ g, aa = some ⟨g, 0, none⟩ ∧ w.cell? ⟨g, i, none⟩ = some A[i]) := fun i hi => row_cell ho1 i hi
  rw [← hl] at hv1
  have HLE : Hid (X.length = A.length) := hl
  clear hR hG ho0 ho1 hX hA hl
  go_enter Tryz.func37, Tryz.ntmps37
  go_wp2_with fail
  go_loopw [3] (fun iv wr => ∃ k : Nat, iv = .int .i64 (k : Int) ∧ k ≤ X.length ∧ Hid (Below w.heap.size w wr)) (fun iv _ => X.length - (intOf iv).toNat)
  case atStart => exact ⟨0, rfl, Nat.zero_le _, Below.refl _ _⟩
  case round =>
    obtain ⟨k, rfl, hk, hB⟩ := hrel
    have r0 := (hB.out.cell (p := ⟨R, 18, none⟩) hRl).trans hv0
    have r1 := (hB.out.cell (p := ⟨R, 19, none⟩) hRl).trans hv1
    by_cases hlt : k < X.length
    · have hkI : (k : Int) < (X.length : Int) := by omega
      have hltA : k < A.length := by have := HLE.out; omega
      obtain ⟨gx, rfl, hcx⟩ := HOX.out k hlt
      obtain ⟨ga, rfl, hca⟩ := HOA.out k hltA
      obtain ⟨b, n, room, cap, hx, ha, hn, hroom, hmark⟩ := HG.out.get k hlt hltA
      rw [hx] at hcx
      rw [ha] at hca
      have hgx := World.block_lt_of_cell? w _ hcx
      have hga := World.block_lt_of_cell? w _ hca
      have s0 := (hB.out.cell (p := ⟨gx, k, none⟩) hgx).trans hcx
      have s1 := (hB.out.cell (p := ⟨ga, k, none⟩) hga).trans hca
      have HMK : Hid (∀ j, j < room → w.cell? ⟨b, (n + j) * 10, none⟩ = some (.int .i64 0) ∧ w.cell? ⟨b, (n + j) * 10 + 1, none⟩ = some (.int .i64 0) ∧ w.cell? ⟨b, (n + j) * 10 + 2, none⟩ = some (.slice none 0 0) ∧ w.cell? ⟨b, (n + j) * 10 + 3, none⟩ = some (.int .i64 0) ∧ w.cell? ⟨b, (n + j) * 10 + 4, none⟩ = some (.int .i64 0) ∧ w.cell? ⟨b, (n + j) * 10 + 5, none⟩ = some (.int .i64 (lotI j)) ∧ w.cell? ⟨b, (n + j) * 10 + 6, none⟩ = some (.int .i64 0) ∧ w.cell? ⟨b, (n + j) * 10 + 7, none⟩ = some (.slice none 0 0) ∧ w.cell? ⟨b, (n + j) * 10 + 8, none⟩ = some (.slice none 0 0) ∧ w.cell? ⟨b, (n + j) * 10 + 9, none⟩ = some (.slice none 0 0)) := hmark
      have HS0 : Hid (∀ w', Below w.heap.size w w' → w'.cell? ⟨gx, k, none⟩ = some (.slice (some ⟨b, 0, none⟩) (n + room) cap)) := fun w' hb => (hb.cell (p := ⟨gx, k, none⟩) hgx).trans hcx
      clear hx ha hcx hca hmark
      go_wp2_with fail
      go_loopw [5] (fun jv wq => ∃ j : Nat, jv = .int .i64 ((n : Int) + (j : Int)) ∧ j ≤ room ∧ Hid (Below w.heap.size w wq)) (fun jv _ => n + room - (intOf jv).toNat)
      case atStart => exact ⟨0, by simp, Nat.zero_le _, hB⟩
      case round =>
        obtain ⟨j, rfl, hj, hQ⟩ := hrel
        clear s0 s1 r0 r1
        have r0 := (hQ.out.cell (p := ⟨R, 18, none⟩) hRl).trans hv0
        have s0 := HS0.out _ hQ.out
        by_cases hjl : j < room
        · have hjI : (n : Int) + (j : Int) < (n : Int) + (room : Int) := by omega
          obtain ⟨hc, hc1, hc2, hc3, hc4, hc5, hc6, hc7, hc8, hc9⟩ := HMK.out j hjl
          have hbl := World.block_lt_of_cell? w _ hc
          have hcw := (hQ.out.cell (p := ⟨b, (n + j) * 10, none⟩) hbl).trans hc
          have hcw1 := (hQ.out.cell (p := ⟨b, (n + j) * 10 + 1, none⟩) hbl).trans hc1
          have hcw2 := (hQ.out.cell (p := ⟨b, (n + j) * 10 + 2, none⟩) hbl).trans hc2
          have hcw3 := (hQ.out.cell (p := ⟨b, (n + j) * 10 + 3, none⟩) hbl).trans hc3
          have hcw4 := (hQ.out.cell (p := ⟨b, (n + j) * 10 + 4, none⟩) hbl).trans hc4
          have hcw5 := (hQ.out.cell (p := ⟨b, (n + j) * 10 + 5, none⟩) hbl).trans hc5
          have hcw6 := (hQ.out.cell (p := ⟨b, (n + j) * 10 + 6, none⟩) hbl).trans hc6
          have hcw7 := (hQ.out.cell (p := ⟨b, (n + j) * 10 + 7, none⟩) hbl).trans hc7
          have hcw8 := (hQ.out.cell (p := ⟨b, (n + j) * 10 + 8, none⟩) hbl).trans hc8
          have hcw9 := (hQ.out.cell (p := ⟨b, (n + j) * 10 + 9, none⟩) hbl).trans hc9
          have hbd : (n : Int) + (j : Int) ≤ 1000000 := by omega
          have hsub : IntKind.i64.wrap ((n : Int) + (j : Int) - (n : Int)) = (j : Int) := by rw [IntKind.wrap_i64]; omega
          have hsub2 : (n : Int) + (j : Int) - (n : Int) = (j : Int) := by omega
          have hself : (lotI j != lotI j) = false := by simp
          rename World => wq
          have hBV : Hid (Below w.heap.size w (wq.alloc (.cells #[.int .i64 0, .int .i64 0, .slice none 0 0, .int .i64 0, .int .i64 0, .int .i64 (lotI j), .int .i64 0, .slice none 0 0, .slice none 0 0, .slice none 0 0] 64))) := hQ.out.alloc hQ.out.size _
          have HLOT : Hid (∀ w', Calls Tryz.prog 60 #[.int .i64 (j : Int)] w' fun e w'' => e = .returned (.int .i64 (lotI j)) ∧ w'' = w') := fun w' => lot_any j w'
          generalize lotI j = y at *
          go_wp2_with fail
          go_quiet ((go_at_call 60; exact Calls.quiet_of_same (HLOT.out _)))
          go_wp2_with fail
          go_roundw
          case rel => exact ⟨j + 1, by go_num, by omega, below_drewN hBV.out _⟩
          case measure => simp [intOf]; omega
        · have hjI : ¬ (n : Int) + (j : Int) < (n : Int) + (room : Int) := by omega
          go_wp2_with fail
          go_roundw
          case rel => exact ⟨k + 1, by go_num, by omega, hQ⟩
          case measure => simp [intOf]; omega
    · have hkI : ¬ (k : Int) < (X.length : Int) := by omega
      go_wp2_with fail
      go_ret
      exact ⟨rfl, hB.out⟩
end Go.Proofs.YtjanpglnahagdaaGreatDoor

namespace Go.Proofs.YtjanpglnahagdaaGreatDoor
open Go.RowKit

theorem box_step {t : TypeId} {base R N : Nat} {S S1 S2 : Lab} {F2 : Nat → List Value} {w W w2 : World} {cs : Array Value} {z : Obj} (hA1 : Agree S S1 w W) (hA2 : Agree S1 S2 W w2) (hR2 : RoomAt ety base R S2 F2 w2) (hh2 : ∀ k, k < W.heap.size → 150 ≤ S1 k → w2.heap[k]? = W.heap[k]?)
    (hN : W.heap[N]? = some (.cells cs t (0, 0))) (hZ : W.heap[N + 1]? = some z) (hL : 150 ≤ S1 N ∧ 150 ≤ S1 (N + 1)) (i : Nat) (v : Value) {V : World} (hV : w2.setCell ⟨N, i, none⟩ v = V) :
    w2.heap[N]? = some (.cells cs t (0, 0)) ∧ RoomAt ety base R S2 F2 V ∧ Agree S S2 w V ∧ Agree S2 S2 w2 V ∧ Agree S1 S2 W V ∧ V.heap[N]? = some (.cells (cs.setIfInBounds i v) t (0, 0)) ∧ V.heap[N + 1]? = some z ∧ (150 ≤ S2 N ∧ 150 ≤ S2 (N + 1)) := by
  subst hV
  have hNl : N < W.heap.size := (Array.getElem?_eq_some_iff.1 hN).1
  have hZl : N + 1 < W.heap.size := (Array.getElem?_eq_some_iff.1 hZ).1
  have hL2 : 150 ≤ S2 N ∧ 150 ≤ S2 (N + 1) := ⟨by rw [hA2.lab N hNl]; exact hL.1, by rw [hA2.lab _ hZl]; exact hL.2⟩
  have h1 : w2.heap[N]? = some (.cells cs t (0, 0)) := (hh2 N hNl hL.1).trans hN
  have h2 : w2.heap[N + 1]? = some z := (hh2 _ hZl hL.2).trans hZ
  refine ⟨h1, hR2.set hL2.1 i v, (hA1.trans hA2).set hL2.1 i v, (Agree.refl _ _).set hL2.1 i v, hA2.set hL2.1 i v, ?_, ?_, hL2⟩
  · simp [World.setCell, Array.getElem?_modify, h1]
  · exact (Below.heap_setCell w2 ⟨N, i, none⟩ v (N + 1) (by simp)).trans h2

/-- Variables that were laid with room. -/
structure DataV (S : Lab) (w : World) (b : Nat) (l : List Md.Vr) (room : Nat) : Prop where
  lab : S b = 0
  lt : b < w.heap.size
  cells : ∀ j u, (laidVars l room)[j]? = some u → w.cell? ⟨b, j, none⟩ = some u
theorem DataV.agree {S S' : Lab} {w w' : World} {b : Nat} {l : List Md.Vr} {room : Nat} (h : DataV S w b l room) (ha : Agree S S' w w') : DataV S' w' b l room :=
  ⟨(ha.lab b h.lt).trans h.lab, Nat.lt_of_lt_of_le h.lt ha.size, fun j u hj => (ha.cell (a := ⟨b, j, none⟩) h.lt h.lab).trans (h.cells j u hj)⟩
theorem DataV.vars {S : Lab} {w : World} {b : Nat} {l : List Md.Vr} {room : Nat} (h : DataV S w b l room) (hl : l.length ≤ 100000) (hn : ∀ x ∈ l, x.name.size ≤ maxLen) : VarsAt w (.slice (some ⟨b, 0, none⟩) l.length (l.length + room)) l := by
  refine ⟨some ⟨b, 0, none⟩, l.length + room, rfl, by unfold maxLen; omega, hn, fun _ => ⟨b, 0, rfl, h.lt, fun j hj => ?_⟩⟩
  have hg := varCells_get l j hj
  have hlen := varCells_length l
  refine ⟨?_, ?_, ?_⟩
  · rw [Nat.zero_add]; exact h.cells _ _ (by unfold laidVars; rw [List.getElem?_append_left (by omega)]; exact hg.1)
  · rw [Nat.zero_add]; exact h.cells _ _ (by unfold laidVars; rw [List.getElem?_append_left (by omega)]; exact hg.2.1)
  · rw [Nat.zero_add]; exact h.cells _ _ (by unfold laidVars; rw [List.getElem?_append_left (by omega)]; exact hg.2.2)
theorem DataV.ent {S : Lab} {w : World} {b : Nat} {l : List Md.Vr} {room : Nat} (h : DataV S w b l room) (hl : l.length ≤ 100000) (hr : room ≤ 40) (cap : Nat) : EntV w (.slice (some ⟨b, 0, none⟩) (l.length + room) cap) (.int .i64 (l.length : Int)) := by
  refine ⟨b, l.length, room, cap, rfl, rfl, hl, hr, fun j hj => ?_⟩
  have hlen := varCells_length l
  have hg := varCells_get ((List.range room).map fun j => (⟨⟨#[]⟩, lotI j, 0⟩ : Md.Vr)) j (by simpa using hj)
  simp only [List.getElem_map, List.getElem_range] at hg
  refine ⟨h.cells _ _ ?_, h.cells _ _ ?_, h.cells _ _ ?_⟩
  · unfold laidVars
    rw [List.getElem?_append_right (by omega), ← hg.1]; congr 1; omega
  · unfold laidVars
    rw [List.getElem?_append_right (by omega), ← hg.2.1]; congr 1; omega
  · unfold laidVars
    rw [List.getElem?_append_right (by omega), ← hg.2.2]; congr 1; omega

theorem Con1.cells_len (d : Con1) : d.cells.length = 10 := rfl
theorem flat10_len {α : Type} (f : α → List Value) (hf : ∀ a, (f a).length = 10) (l : List α) : (l.flatMap f).length = l.length * 10 := by
  induction l with
  | nil => rfl
  | cons a l ih => rw [List.flatMap_cons, List.length_append, hf, ih, List.length_cons]; omega
theorem flat10_get {α : Type} (f : α → List Value) (hf : ∀ a, (f a).length = 10) (l : List α) (j i : Nat) (hj : j < l.length) (hi : i < 10) : (l.flatMap f)[j * 10 + i]? = (f l[j])[i]? := by
  induction l generalizing j with
  | nil => simp at hj
  | cons a l ih =>
    rw [List.flatMap_cons]
    cases j with
    | zero => rw [List.getElem?_append_left (by rw [hf]; omega)]; simp
    | succ j =>
      rw [List.getElem?_append_right (by rw [hf]; omega), hf]
      have := ih j (by simpa using hj)
      rw [List.getElem_cons_succ, ← this]; congr 1; omega
/-- Constraints that were laid with room. -/
structure DataK (S : Lab) (w : World) (b : Nat) (l : List Md.Cn) (D : List Con1) (room : Nat) : Prop where
  lab : S b = 0
  lt : b < w.heap.size
  rows : D.map Con1.c = l
  ok : ∀ d ∈ D, d.Ok S w
  cells : ∀ j u, (consCells D ++ kMarks room)[j]? = some u → w.cell? ⟨b, j, none⟩ = some u
theorem DataK.agree {S S' : Lab} {w w' : World} {b : Nat} {l : List Md.Cn} {D : List Con1} {room : Nat} (h : DataK S w b l D room) (ha : Agree S S' w w') : DataK S' w' b l D room :=
  ⟨(ha.lab b h.lt).trans h.lab, Nat.lt_of_lt_of_le h.lt ha.size, h.rows, fun d hd => (h.ok d hd).agree ha, fun j u hj => (ha.cell (a := ⟨b, j, none⟩) h.lt h.lab).trans (h.cells j u hj)⟩
theorem Con1.Ok.cn {S : Lab} {w : World} {d : Con1} (h : d.Ok S w) (hs : d.c.terms.length ≤ 100000 ∧ d.c.xs.length ≤ 100000 ∧ d.c.table.length ≤ 100000 ∧ d.c.rows.length ≤ 100000 ∧ ∀ r ∈ d.c.rows, r.length ≤ 100000) :
    CnAt w d.c (.slice (some ⟨d.bT, 0, none⟩) d.c.terms.length (d.c.terms.length + 4)) (.slice (some ⟨d.bX, 0, none⟩) d.c.xs.length (d.c.xs.length + 4)) (.slice (some ⟨d.bB, 0, none⟩) d.c.table.length (d.c.table.length + 4)) (.slice (some ⟨d.bL, 0, none⟩) d.c.rows.length (d.c.rows.length + 4)) :=
  ⟨h.t.terms hs.1, h.x.ints hs.2.1, fun a n cp h => by injection h with h1 h2 h3; omega, h.b.ints hs.2.2.1, h.l.rowsAt hs.2.2.2.1 hs.2.2.2.2⟩
theorem DataK.cons {S : Lab} {w : World} {b : Nat} {l : List Md.Cn} {D : List Con1} {room : Nat} (h : DataK S w b l D room) (hl : l.length ≤ 100000) (hs : ∀ c ∈ l, c.terms.length ≤ 100000 ∧ c.xs.length ≤ 100000 ∧ c.table.length ≤ 100000 ∧ c.rows.length ≤ 100000 ∧ ∀ r ∈ c.rows, r.length ≤ 100000) : ConsAt w (.slice (some ⟨b, 0, none⟩) l.length (l.length + room)) l := by
  refine ⟨some ⟨b, 0, none⟩, l.length + room, rfl, by unfold maxLen; omega, fun _ => ⟨b, 0, rfl, h.lt, fun j hj => ?_⟩⟩
  have hDl : D.length = l.length := by have := congrArg List.length h.rows; simpa using this
  have hjD : j < D.length := by omega
  have e : l[j] = D[j].c := by
    have h1 : (D.map Con1.c)[j]? = l[j]? := by rw [h.rows]
    rw [List.getElem?_map, List.getElem?_eq_getElem hjD, List.getElem?_eq_getElem hj] at h1
    simpa using h1.symm
  have hcell : ∀ i, i < 10 → ∀ u, (D[j].cells)[i]? = some u → w.cell? ⟨b, j * 10 + i, none⟩ = some u := fun i hi u hu => h.cells _ _ (by
    have hlen := flat10_len Con1.cells Con1.cells_len D
    unfold consCells
    rw [List.getElem?_append_left (by omega), flat10_get Con1.cells Con1.cells_len D j i hjD hi]; exact hu)
  rw [e, Nat.zero_add]
  refine ⟨_, _, _, _, (h.ok _ (List.getElem_mem hjD)).cn (by rw [← e]; exact hs _ (List.getElem_mem hj)), ?_⟩
  exact ⟨hcell 0 (by decide) _ rfl, hcell 1 (by decide) _ rfl, hcell 2 (by decide) _ rfl, hcell 3 (by decide) _ rfl, hcell 4 (by decide) _ rfl, hcell 5 (by decide) _ rfl, hcell 6 (by decide) _ rfl, hcell 7 (by decide) _ rfl, hcell 8 (by decide) _ rfl, hcell 9 (by decide) _ rfl⟩
theorem kMark_len (j : Nat) : (kMark j).length = 10 := rfl
theorem DataK.ent {S : Lab} {w : World} {b : Nat} {l : List Md.Cn} {D : List Con1} {room : Nat} (h : DataK S w b l D room) (hl : l.length ≤ 100000) (hr : room ≤ 40) (cap : Nat) : EntK w (.slice (some ⟨b, 0, none⟩) (l.length + room) cap) (.int .i64 (l.length : Int)) := by
  refine ⟨b, l.length, room, cap, rfl, rfl, hl, hr, fun j hj => ?_⟩
  have hDl : D.length = l.length := by have := congrArg List.length h.rows; simpa using this
  have hlen := flat10_len Con1.cells Con1.cells_len D
  have hcell : ∀ i, i < 10 → ∀ u, (kMark j)[i]? = some u → w.cell? ⟨b, (l.length + j) * 10 + i, none⟩ = some u := fun i hi u hu => h.cells _ _ (by
    have hg := flat10_get kMark kMark_len (List.range room) j i (by simpa using hj) hi
    rw [List.getElem_range] at hg
    unfold consCells kMarks
    rw [List.getElem?_append_right (by omega), ← hu, ← hg]; congr 1; omega)
  exact ⟨hcell 0 (by decide) _ rfl, hcell 1 (by decide) _ rfl, hcell 2 (by decide) _ rfl, hcell 3 (by decide) _ rfl, hcell 4 (by decide) _ rfl, hcell 5 (by decide) _ rfl, hcell 6 (by decide) _ rfl, hcell 7 (by decide) _ rfl, hcell 8 (by decide) _ rfl, hcell 9 (by decide) _ rfl⟩

theorem ents_I {S : Lab} {w : World} : ∀ {D : List Con1}, (∀ d ∈ D, d.Ok S w) → (∀ d ∈ D, d.c.terms.length ≤ 100000 ∧ d.c.xs.length ≤ 100000 ∧ d.c.table.length ≤ 100000 ∧ d.c.rows.length ≤ 100000 ∧ ∀ r ∈ d.c.rows, r.length ≤ 100000) → All2 (EntI w) (D.flatMap Con1.entI) (D.flatMap Con1.atI)
  | [], _, _ => trivial
  | d :: D, h, hs => by
    have hd := h d (by simp)
    have hsd := hs d (by simp)
    rw [List.flatMap_cons, List.flatMap_cons]
    refine All2.append ?_ (ents_I (fun x hx => h x (by simp [hx])) (fun x hx => hs x (by simp [hx])))
    exact All2.append ⟨hd.x.ent hsd.2.1 (by decide) _, hd.b.ent hsd.2.2.1 (by decide) _, trivial⟩ (rows_ent hd.l.ok (fun r hr => hsd.2.2.2.2 _ (by rw [← hd.l.rows]; exact List.mem_map_of_mem hr)))
theorem ents_T {S : Lab} {w : World} : ∀ {D : List Con1}, (∀ d ∈ D, d.Ok S w) → (∀ d ∈ D, d.c.terms.length ≤ 100000) → All2 (EntT w) (D.map Con1.entT) (D.map Con1.atT)
  | [], _, _ => trivial
  | d :: D, h, hs => ⟨(h d (by simp)).t.ent (hs d (by simp)) (by decide) _, ents_T (fun x hx => h x (by simp [hx])) (fun x hx => hs x (by simp [hx]))⟩
theorem ents_L {S : Lab} {w : World} : ∀ {D : List Con1}, (∀ d ∈ D, d.Ok S w) → (∀ d ∈ D, d.c.rows.length ≤ 100000) → All2 (EntL w) (D.map Con1.entL) (D.map Con1.atL)
  | [], _, _ => trivial
  | d :: D, h, hs => ⟨(h d (by simp)).l.ent (hs d (by simp)) (by decide) _, ents_L (fun x hx => h x (by simp [hx])) (fun x hx => hs x (by simp [hx]))⟩

set_option maxHeartbeats 400000 in
theorem roomVars_any (base R : Nat) (S : Lab) (F : Nat → List Value) (v : Value) (l : List Md.Vr) (w : World) (hR : RoomAt ety base R S F w) (hv : VarsAt w v l) (hl : l.length ≤ 100000) (hF0 : (F 6).length ≤ 1000000) (hF1 : (F 7).length ≤ 1000000) :
    Calls Tryz.prog 15 #[.pointer (some ⟨R, 0, none⟩), v] w (LaidV base R S F w l 40) := by
  have HL : Hid (Calls Tryz.prog 43 #[.pointer (some ⟨R, 0, none⟩), v, .int .i64 40] w (LaidV base R S F w l 40)) := layVars_any base R S F v l 40 w hR hv hl (by decide) (by decide) hF0 hF1
  obtain ⟨a, cap, rfl, _⟩ := hv.form
  clear hR hv
  go_enter Tryz.func15, Tryz.ntmps15
  go_wp2_with (go_at_call 43; refine calls_at HL.out (by with_reducible rfl) (by with_reducible rfl) ?_; rintro e w1 ⟨⟨b, cp, S1, F1, he, h⟩⟩; subst he)
  go_ret
  exact ⟨⟨b, cp, S1, F1, rfl, h⟩⟩
set_option maxHeartbeats 400000 in
theorem roomCons_any (base R : Nat) (S : Lab) (F : Nat → List Value) (v : Value) (l : List Md.Cn) (w w0 : World) (hR : RoomAt ety base R S F w) (h0 : ConsAt w0 v l) (hbw : ∀ wr S', Agree S S' w wr → Below w0.heap.size w0 wr) (hc : costK l ≤ 20000) (hF : ∀ j, (F j).length ≤ 100000) :
    Calls Tryz.prog 16 #[.pointer (some ⟨R, 0, none⟩), v] w (LaidK base R S F w l 40) := by
  have HL : Hid (Calls Tryz.prog 44 #[.pointer (some ⟨R, 0, none⟩), v, .int .i64 40] w (LaidK base R S F w l 40)) := layCons_any base R S F v l 40 w w0 hR h0 hbw hc (by decide) (by decide) hF
  obtain ⟨a, cap, rfl, _⟩ := h0.form
  clear hR h0 hbw hF
  go_enter Tryz.func16, Tryz.ntmps16
  go_wp2_with (go_at_call 44; refine calls_at HL.out (by with_reducible rfl) (by with_reducible rfl) ?_; rintro e w1 ⟨⟨b, cp, S1, F1, D, he, h⟩⟩; subst he)
  go_ret
  exact ⟨⟨b, cp, S1, F1, D, rfl, h⟩⟩
end Go.Proofs.YtjanpglnahagdaaGreatDoor
