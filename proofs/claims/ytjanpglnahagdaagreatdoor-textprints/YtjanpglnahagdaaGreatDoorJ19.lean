/-
  Put together: MdHoldT, MdHoldL, MdHoldAll, MdMade.
-/
import Derived.Test.YtjanpglnahagdaaGreatDoorJ13
import Derived.WalkSmall
import Derived.Test.YtjanpglnahagdaaGreatDoorJ18
import Derived.Test.YtjanpglnahagdaaGreatDoorJ04
import Derived.Test.YtjanpglnahagdaaGreatDoorJ14
namespace Go.Proofs.YtjanpglnahagdaaGreatDoor
open Go.RowKit

set_option maxRecDepth 10000 in
set_option maxHeartbeats 2000000 in
theorem holdTerms_any (base R : Nat) (S : Lab) (F : Nat → List Value) (w : World) (hR : RoomAt ety base R S F w) (hG : All2 (EntT w) (F 4) (F 5)) (hlen : (F 4).length ≤ 1000000) :
    Calls Tryz.prog 30 #[.pointer (some ⟨R, 0, none⟩)] w fun e w' => e = .returned (.bool true) ∧ Below w.heap.size w w' := by
  obtain ⟨v0, hv0, ho0, _⟩ := hR.field 4 (by decide)
  obtain ⟨v1, hv1, ho1, _⟩ := hR.field 5 (by decide)
  have hl := hG.len
  have HG : Hid (All2 (EntT w) (F 4) (F 5)) := hG
  have hRl := hR.lt
  obtain ⟨X, hX⟩ : ∃ X, F 4 = X := ⟨_, rfl⟩
  obtain ⟨A, hA⟩ : ∃ A, F 5 = A := ⟨_, rfl⟩
  rw [hX] at HG ho0 hlen hl
  rw [hA] at HG ho1 hl
  obtain ⟨xa, xc, rfl⟩ := own_form ho0
  obtain ⟨aa, ac, rfl⟩ := own_form ho1
  have HOX : Hid (∀ i (hi : i < X.length), ∃ g, xa = some ⟨g, 0, none⟩ ∧ w.cell? ⟨g, i, none⟩ = some X[i]) := fun i hi => row_cell ho0 i hi
  have HOA : Hid (∀ i (hi : i < A.length), ∃ g, aa = some ⟨g, 0, none⟩ ∧ w.cell? ⟨g, i, none⟩ = some A[i]) := fun i hi => row_cell ho1 i hi
  rw [← hl] at hv1
  have HLE : Hid (X.length = A.length) := hl
  clear hR hG ho0 ho1 hX hA hl
  go_enter Tryz.func30, Tryz.ntmps30
  go_wp2_with fail
  go_loopw [3] (fun iv wr => ∃ k : Nat, iv = .int .i64 (k : Int) ∧ k ≤ X.length ∧ Hid (Below w.heap.size w wr)) (fun iv _ => X.length - (intOf iv).toNat)
  case atStart => exact ⟨0, rfl, Nat.zero_le _, Below.refl _ _⟩
  case round =>
    obtain ⟨k, rfl, hk, hB⟩ := hrel
    have r0 := (hB.out.cell (p := ⟨R, 4, none⟩) hRl).trans hv0
    have r1 := (hB.out.cell (p := ⟨R, 5, none⟩) hRl).trans hv1
    by_cases hlt : k < X.length
    · have hkI : (k : Int) < (X.length : Int) := by omega
      have hltA : k < A.length := by have := HLE.out; omega
      obtain ⟨gx, rfl, hcx⟩ := HOX.out k hlt
      obtain ⟨ga, rfl, hca⟩ := HOA.out k hltA
      obtain ⟨b, n, room, cap, hx, ha, hn, hroom, hmark⟩ := HG.out.get k hlt hltA
      rw [hx] at hcx
      rw [ha] at hca
      have hgx := World.block_lt_of_cell? w _ hcx
      have hga := World.block_lt_of_cell? w _ hca
      have s0 := (hB.out.cell (p := ⟨gx, k, none⟩) hgx).trans hcx
      have s1 := (hB.out.cell (p := ⟨ga, k, none⟩) hga).trans hca
      have HMK : Hid (∀ j, j < room → w.cell? ⟨b, (n + j) * 2, none⟩ = some (.int .i64 (lotI j)) ∧ w.cell? ⟨b, (n + j) * 2 + 1, none⟩ = some (.int .i64 0)) := hmark
      have HS0 : Hid (∀ w', Below w.heap.size w w' → w'.cell? ⟨gx, k, none⟩ = some (.slice (some ⟨b, 0, none⟩) (n + room) cap)) := fun w' hb => (hb.cell (p := ⟨gx, k, none⟩) hgx).trans hcx
      clear hx ha hcx hca hmark
      go_wp2_with fail
      go_loopw [5] (fun jv wq => ∃ j : Nat, jv = .int .i64 ((n : Int) + (j : Int)) ∧ j ≤ room ∧ Hid (Below w.heap.size w wq)) (fun jv _ => n + room - (intOf jv).toNat)
      case atStart => exact ⟨0, by simp, Nat.zero_le _, hB⟩
      case round =>
        obtain ⟨j, rfl, hj, hQ⟩ := hrel
        clear s0 s1 r0 r1
        have r0 := (hQ.out.cell (p := ⟨R, 4, none⟩) hRl).trans hv0
        have s0 := HS0.out _ hQ.out
        by_cases hjl : j < room
        · have hjI : (n : Int) + (j : Int) < (n : Int) + (room : Int) := by omega
          obtain ⟨hc, hc2⟩ := HMK.out j hjl
          have hbl := World.block_lt_of_cell? w _ hc
          have hcw := (hQ.out.cell (p := ⟨b, (n + j) * 2, none⟩) hbl).trans hc
          have hcw2 := (hQ.out.cell (p := ⟨b, (n + j) * 2 + 1, none⟩) hbl).trans hc2
          have hbd : (n : Int) + (j : Int) ≤ 1000000 := by omega
          have hsub : IntKind.i64.wrap ((n : Int) + (j : Int) - (n : Int)) = (j : Int) := by rw [IntKind.wrap_i64]; omega
          have hsub2 : (n : Int) + (j : Int) - (n : Int) = (j : Int) := by omega
          have hbin : ∀ w', (binOp .neq 101 (.agg #[.int .i64 (lotI j), .int .i64 0]) (.agg #[.int .i64 (lotI j), .int .i64 0])).run Tryz.prog w' = .ok (.bool false) w' := fun w' => by rw [term_neq]; simp
          rename World => wq
          have hBV : Hid (Below w.heap.size w (wq.alloc (.cells #[.int .i64 (lotI j), .int .i64 0] 101))) := hQ.out.alloc hQ.out.size _
          have HLOT : Hid (∀ w', Calls Tryz.prog 60 #[.int .i64 (j : Int)] w' fun e w'' => e = .returned (.int .i64 (lotI j)) ∧ w'' = w') := fun w' => lot_any j w'
          generalize lotI j = y at *
          go_wp2_with fail
          go_quiet ((go_at_call 60; exact Calls.quiet_of_same (HLOT.out _)))
          go_wp2_with fail
          go_roundw
          case rel => exact ⟨j + 1, by go_num, by omega, below_drewN hBV.out _⟩
          case measure => simp [intOf]; omega
        · have hjI : ¬ (n : Int) + (j : Int) < (n : Int) + (room : Int) := by omega
          go_wp2_with fail
          go_roundw
          case rel => exact ⟨k + 1, by go_num, by omega, hQ⟩
          case measure => simp [intOf]; omega
    · have hkI : ¬ (k : Int) < (X.length : Int) := by omega
      go_wp2_with fail
      go_ret
      exact ⟨rfl, hB.out⟩
end Go.Proofs.YtjanpglnahagdaaGreatDoor

namespace Go.Proofs.YtjanpglnahagdaaGreatDoor
open Go.RowKit

set_option maxRecDepth 10000 in
set_option maxHeartbeats 2000000 in
theorem holdLists_any (base R : Nat) (S : Lab) (F : Nat → List Value) (w : World) (hR : RoomAt ety base R S F w) (hG : All2 (EntL w) (F 16) (F 17)) (hlen : (F 16).length ≤ 1000000) :
    Calls Tryz.prog 36 #[.pointer (some ⟨R, 0, none⟩)] w fun e w' => e = .returned (.bool true) ∧ Below w.heap.size w w' := by
  obtain ⟨v0, hv0, ho0, _⟩ := hR.field 16 (by decide)
  obtain ⟨v1, hv1, ho1, _⟩ := hR.field 17 (by decide)
  have hl := hG.len
  have HG : Hid (All2 (EntL w) (F 16) (F 17)) := hG
  have hRl := hR.lt
  obtain ⟨X, hX⟩ : ∃ X, F 16 = X := ⟨_, rfl⟩
  obtain ⟨A, hA⟩ : ∃ A, F 17 = A := ⟨_, rfl⟩
  rw [hX] at HG ho0 hlen hl
  rw [hA] at HG ho1 hl
  obtain ⟨xa, xc, rfl⟩ := own_form ho0
  obtain ⟨aa, ac, rfl⟩ := own_form ho1
  have HOX : Hid (∀ i (hi : i < X.length), ∃ g, xa = some ⟨g, 0, none⟩ ∧ w.cell? ⟨g, i, none⟩ = some X[i]) := fun i hi => row_cell ho0 i hi
  have HOA : Hid (∀ i (hi : i < A.length), ∃ g, aa = some ⟨g, 0, none⟩ ∧ w.cell? ⟨g, i, none⟩ = some A[i]) := fun i hi => row_cell ho1 i hi
  rw [← hl] at hv1
  have HLE : Hid (X.length = A.length) := hl
  clear hR hG ho0 ho1 hX hA hl
  go_enter Tryz.func36, Tryz.ntmps36
  go_wp2_with fail
  go_loopw [3] (fun iv wr => ∃ k : Nat, iv = .int .i64 (k : Int) ∧ k ≤ X.length ∧ Hid (Below w.heap.size w wr)) (fun iv _ => X.length - (intOf iv).toNat)
  case atStart => exact ⟨0, rfl, Nat.zero_le _, Below.refl _ _⟩
  case round =>
    obtain ⟨k, rfl, hk, hB⟩ := hrel
    have r0 := (hB.out.cell (p := ⟨R, 16, none⟩) hRl).trans hv0
    have r1 := (hB.out.cell (p := ⟨R, 17, none⟩) hRl).trans hv1
    by_cases hlt : k < X.length
    · have hkI : (k : Int) < (X.length : Int) := by omega
      have hltA : k < A.length := by have := HLE.out; omega
      obtain ⟨gx, rfl, hcx⟩ := HOX.out k hlt
      obtain ⟨ga, rfl, hca⟩ := HOA.out k hltA
      obtain ⟨b, n, room, cap, hx, ha, hn, hroom, hmark⟩ := HG.out.get k hlt hltA
      rw [hx] at hcx
      rw [ha] at hca
      have hgx := World.block_lt_of_cell? w _ hcx
      have hga := World.block_lt_of_cell? w _ hca
      have s0 := (hB.out.cell (p := ⟨gx, k, none⟩) hgx).trans hcx
      have s1 := (hB.out.cell (p := ⟨ga, k, none⟩) hga).trans hca
      have HMK : Hid (∀ j, j < room → ∃ m, w.cell? ⟨b, n + j, none⟩ = some (.slice (some ⟨m, 0, none⟩) 1 1) ∧ w.cell? ⟨m, 0, none⟩ = some (.int .i64 (lotI j))) := hmark
      have HS0 : Hid (∀ w', Below w.heap.size w w' → w'.cell? ⟨gx, k, none⟩ = some (.slice (some ⟨b, 0, none⟩) (n + room) cap)) := fun w' hb => (hb.cell (p := ⟨gx, k, none⟩) hgx).trans hcx
      clear hx ha hcx hca hmark
      go_wp2_with fail
      go_loopw [5] (fun jv wq => ∃ j : Nat, jv = .int .i64 ((n : Int) + (j : Int)) ∧ j ≤ room ∧ Hid (Below w.heap.size w wq)) (fun jv _ => n + room - (intOf jv).toNat)
      case atStart => exact ⟨0, by simp, Nat.zero_le _, hB⟩
      case round =>
        obtain ⟨j, rfl, hj, hQ⟩ := hrel
        clear s0 s1 r0 r1
        have r0 := (hQ.out.cell (p := ⟨R, 16, none⟩) hRl).trans hv0
        have s0 := HS0.out _ hQ.out
        by_cases hjl : j < room
        · have hjI : (n : Int) + (j : Int) < (n : Int) + (room : Int) := by omega
          obtain ⟨m, hc, hc2⟩ := HMK.out j hjl
          have hbl := World.block_lt_of_cell? w _ hc
          have hbl2 := World.block_lt_of_cell? w _ hc2
          have hcw := (hQ.out.cell (p := ⟨b, n + j, none⟩) hbl).trans hc
          have hcw2 := (hQ.out.cell (p := ⟨m, 0, none⟩) hbl2).trans hc2
          have hbd : (n : Int) + (j : Int) ≤ 1000000 := by omega
          have hsub : IntKind.i64.wrap ((n : Int) + (j : Int) - (n : Int)) = (j : Int) := by rw [IntKind.wrap_i64]; omega
          have hsub2 : (n : Int) + (j : Int) - (n : Int) = (j : Int) := by omega
          have HLOT : Hid (∀ w', Calls Tryz.prog 60 #[.int .i64 (j : Int)] w' fun e w'' => e = .returned (.int .i64 (lotI j)) ∧ w'' = w') := fun w' => lot_any j w'
          generalize lotI j = y at *
          go_wp2_with fail
          go_quiet ((go_at_call 60; exact Calls.quiet_of_same (HLOT.out _)))
          go_wp2_with fail
          go_roundw
          case rel => exact ⟨j + 1, by go_num, by omega, below_drewN hQ.out _⟩
          case measure => simp [intOf]; omega
        · have hjI : ¬ (n : Int) + (j : Int) < (n : Int) + (room : Int) := by omega
          go_wp2_with fail
          go_roundw
          case rel => exact ⟨k + 1, by go_num, by omega, hQ⟩
          case measure => simp [intOf]; omega
    · have hkI : ¬ (k : Int) < (X.length : Int) := by omega
      go_wp2_with fail
      go_ret
      exact ⟨rfl, hB.out⟩
end Go.Proofs.YtjanpglnahagdaaGreatDoor

namespace Go.Proofs.YtjanpglnahagdaaGreatDoor
open Go.RowKit

theorem cell_lt {w : World} {a : Addr} {u : Value} (h : w.cell? a = some u) : a.block < w.heap.size := by
  rcases Nat.lt_or_ge a.block w.heap.size with hl | hl
  · exact hl
  · unfold World.cell? at h
    rw [Array.getElem?_eq_none hl] at h
    cases h
theorem cell_below {w w' : World} (hb : Below w.heap.size w w') {a : Addr} {u : Value} (h : w.cell? a = some u) : w'.cell? a = some u := (hb.cell (p := a) (cell_lt h)).trans h
theorem EntI.below {w w' : World} (hb : Below w.heap.size w w') (x a : Value) (h : EntI w x a) : EntI w' x a := by
  obtain ⟨b, n, room, cap, h1, h2, h3, h4, h5⟩ := h
  exact ⟨b, n, room, cap, h1, h2, h3, h4, fun j hj => cell_below hb (h5 j hj)⟩
theorem EntT.below {w w' : World} (hb : Below w.heap.size w w') (x a : Value) (h : EntT w x a) : EntT w' x a := by
  obtain ⟨b, n, room, cap, h1, h2, h3, h4, h5⟩ := h
  exact ⟨b, n, room, cap, h1, h2, h3, h4, fun j hj => ⟨cell_below hb (h5 j hj).1, cell_below hb (h5 j hj).2⟩⟩
theorem EntL.below {w w' : World} (hb : Below w.heap.size w w') (x a : Value) (h : EntL w x a) : EntL w' x a := by
  obtain ⟨b, n, room, cap, h1, h2, h3, h4, h5⟩ := h
  refine ⟨b, n, room, cap, h1, h2, h3, h4, fun j hj => ?_⟩
  obtain ⟨m, k1, k2⟩ := h5 j hj
  exact ⟨m, cell_below hb k1, cell_below hb k2⟩

/-- All that Hold looks at. -/
structure HoldOk (base R : Nat) (S : Lab) (F : Nat → List Value) (w : World) : Prop where
  room : RoomAt ety base R S F w
  gi : All2 (EntI w) (F 0) (F 1)
  gt : All2 (EntT w) (F 4) (F 5)
  gl : All2 (EntL w) (F 16) (F 17)
  li : (F 0).length ≤ 1000000
  lt : (F 4).length ≤ 1000000
  ll : (F 16).length ≤ 1000000
  nil : ∀ j, j ≠ 0 → j ≠ 1 → j ≠ 4 → j ≠ 5 → j ≠ 16 → j ≠ 17 → F j = []
theorem HoldOk.below {base R : Nat} {S : Lab} {F : Nat → List Value} {w w' : World} (h : HoldOk base R S F w) (hb : Below w.heap.size w w') : HoldOk base R S F w' :=
  ⟨h.room.kept hb, h.gi.imp (EntI.below hb), h.gt.imp (EntT.below hb), h.gl.imp (EntL.below hb), h.li, h.lt, h.ll, h.nil⟩
theorem HoldOk.next {base R : Nat} {S : Lab} {F : Nat → List Value} {w w1 w2 : World} (h : HoldOk base R S F w1 ∧ Below w.heap.size w w1) (hb : Below w1.heap.size w1 w2) : HoldOk base R S F w2 ∧ Below w.heap.size w w2 :=
  ⟨h.1.below hb, h.2.trans (hb.mono h.2.size)⟩

set_option maxRecDepth 10000 in
set_option maxHeartbeats 1000000 in
theorem holdAll_any (base R : Nat) (S : Lab) (F : Nat → List Value) (w : World) (h : HoldOk base R S F w) : Calls Tryz.prog 11 #[.pointer (some ⟨R, 0, none⟩)] w fun e w' => e = .returned (.bool true) ∧ Below w.heap.size w w' := by
  have K0 : Hid (HoldOk base R S F w ∧ Below w.heap.size w w) := ⟨h, Below.refl _ _⟩
  clear h
  go_enter Tryz.func11, Tryz.ntmps11
  go_wp2_with (first
    | (go_at_call 28; refine calls_at (holdInts_any base R S F _ K0.out.1.room K0.out.1.gi K0.out.1.li) (by with_reducible rfl) (by with_reducible rfl) ?_; rintro e w1 ⟨rfl, hb⟩; have K1 : Hid (HoldOk base R S F w1 ∧ Below w.heap.size w w1) := HoldOk.next K0.out hb; clear hb)
    | (go_at_call 29; refine calls_at (hold58 base R S F _ K1.out.1.room (K1.out.1.nil 2 (by decide) (by decide) (by decide) (by decide) (by decide) (by decide))) (by with_reducible rfl) (by with_reducible rfl) ?_; rintro e w2 ⟨rfl, hb⟩; have K2 : Hid (HoldOk base R S F w2 ∧ Below w.heap.size w w2) := HoldOk.next K1.out hb; clear hb)
    | (go_at_call 30; refine calls_at (holdTerms_any base R S F _ K2.out.1.room K2.out.1.gt K2.out.1.lt) (by with_reducible rfl) (by with_reducible rfl) ?_; rintro e w3 ⟨rfl, hb⟩; have K3 : Hid (HoldOk base R S F w3 ∧ Below w.heap.size w w3) := HoldOk.next K2.out hb; clear hb)
    | (go_at_call 31; refine calls_at (hold60 base R S F _ K3.out.1.room (K3.out.1.nil 6 (by decide) (by decide) (by decide) (by decide) (by decide) (by decide))) (by with_reducible rfl) (by with_reducible rfl) ?_; rintro e w4 ⟨rfl, hb⟩; have K4 : Hid (HoldOk base R S F w4 ∧ Below w.heap.size w w4) := HoldOk.next K3.out hb; clear hb)
    | (go_at_call 32; refine calls_at (hold61 base R S F _ K4.out.1.room (K4.out.1.nil 8 (by decide) (by decide) (by decide) (by decide) (by decide) (by decide))) (by with_reducible rfl) (by with_reducible rfl) ?_; rintro e w5 ⟨rfl, hb⟩; have K5 : Hid (HoldOk base R S F w5 ∧ Below w.heap.size w w5) := HoldOk.next K4.out hb; clear hb)
    | (go_at_call 33; refine calls_at (hold62 base R S F _ K5.out.1.room (K5.out.1.nil 10 (by decide) (by decide) (by decide) (by decide) (by decide) (by decide))) (by with_reducible rfl) (by with_reducible rfl) ?_; rintro e w6 ⟨rfl, hb⟩; have K6 : Hid (HoldOk base R S F w6 ∧ Below w.heap.size w w6) := HoldOk.next K5.out hb; clear hb)
    | (go_at_call 34; refine calls_at (hold63 base R S F _ K6.out.1.room (K6.out.1.nil 12 (by decide) (by decide) (by decide) (by decide) (by decide) (by decide))) (by with_reducible rfl) (by with_reducible rfl) ?_; rintro e w7 ⟨rfl, hb⟩; have K7 : Hid (HoldOk base R S F w7 ∧ Below w.heap.size w w7) := HoldOk.next K6.out hb; clear hb)
    | (go_at_call 35; refine calls_at (hold64 base R S F _ K7.out.1.room (K7.out.1.nil 14 (by decide) (by decide) (by decide) (by decide) (by decide) (by decide))) (by with_reducible rfl) (by with_reducible rfl) ?_; rintro e w8 ⟨rfl, hb⟩; have K8 : Hid (HoldOk base R S F w8 ∧ Below w.heap.size w w8) := HoldOk.next K7.out hb; clear hb)
    | (go_at_call 36; refine calls_at (holdLists_any base R S F _ K8.out.1.room K8.out.1.gl K8.out.1.ll) (by with_reducible rfl) (by with_reducible rfl) ?_; rintro e w9 ⟨rfl, hb⟩; have K9 : Hid (HoldOk base R S F w9 ∧ Below w.heap.size w w9) := HoldOk.next K8.out hb; clear hb)
    | (go_at_call 37; refine calls_at (hold66 base R S F _ K9.out.1.room (K9.out.1.nil 18 (by decide) (by decide) (by decide) (by decide) (by decide) (by decide))) (by with_reducible rfl) (by with_reducible rfl) ?_; rintro e w10 ⟨rfl, hb⟩; have K10 : Hid (HoldOk base R S F w10 ∧ Below w.heap.size w w10) := HoldOk.next K9.out hb; clear hb)
    | (go_at_call 38; refine calls_at (hold67 base R S F _ K10.out.1.room (K10.out.1.nil 20 (by decide) (by decide) (by decide) (by decide) (by decide) (by decide))) (by with_reducible rfl) (by with_reducible rfl) ?_; rintro e w11 ⟨rfl, hb⟩; have K11 : Hid (HoldOk base R S F w11 ∧ Below w.heap.size w w11) := HoldOk.next K10.out hb; clear hb)
    | (go_at_call 39; refine calls_at (hold68 base R S F _ K11.out.1.room (K11.out.1.nil 22 (by decide) (by decide) (by decide) (by decide) (by decide) (by decide))) (by with_reducible rfl) (by with_reducible rfl) ?_; rintro e w12 ⟨rfl, hb⟩; have K12 : Hid (HoldOk base R S F w12 ∧ Below w.heap.size w w12) := HoldOk.next K11.out hb; clear hb)
    | (go_at_call 40; refine calls_at (hold69 base R S F _ K12.out.1.room (K12.out.1.nil 24 (by decide) (by decide) (by decide) (by decide) (by decide) (by decide))) (by with_reducible rfl) (by with_reducible rfl) ?_; rintro e w13 ⟨rfl, hb⟩; have K13 : Hid (HoldOk base R S F w13 ∧ Below w.heap.size w w13) := HoldOk.next K12.out hb; clear hb)
    | (go_at_call 41; refine calls_at (hold70 base R S F _ K13.out.1.room (K13.out.1.nil 26 (by decide) (by decide) (by decide) (by decide) (by decide) (by decide))) (by with_reducible rfl) (by with_reducible rfl) ?_; rintro e w14 ⟨rfl, hb⟩; have K14 : Hid (HoldOk base R S F w14 ∧ Below w.heap.size w w14) := HoldOk.next K13.out hb; clear hb))
  go_ret
  exact ⟨rfl, K14.out.2⟩

end Go.Proofs.YtjanpglnahagdaaGreatDoor

namespace Go.Proofs.YtjanpglnahagdaaGreatDoor
open Go.RowKit

/-- The label of a new room. -/
def lab0 (R : Nat) : Lab := fun k => if k = R then 100 else 0
theorem room_new (base : Nat) (w : World) (hb : base ≤ w.heap.size) (cs : List Value) (hc : cs = List.replicate 28 (.slice none 0 0)) : RoomAt ety base w.heap.size (lab0 w.heap.size) (fun _ => []) (w.alloc (.cells cs.toArray 48)) := by
  subst hc
  have hn : (w.alloc (.cells (List.replicate 28 (.slice none 0 0)).toArray 48)).heap[w.heap.size]? = some (.cells (List.replicate 28 (.slice none 0 0)).toArray 48) := heap_alloc_new w _
  refine ⟨by simp [lab0], fun k hk => ?_, fun k hk => ?_, by simp; omega, ⟨_, _, hn, by simp⟩, fun f hf => ⟨.slice none 0 0, ?_, World.ownsRow_nil _ _ _ _, fun g hg => by simp [Value.ownBlock] at hg⟩⟩
  · have : w.heap.size < k := by simp at hk; omega
    simp [lab0]; omega
  · simp [lab0]; omega
  · have h28 : (List.replicate 28 (Value.slice none 0 0)).toArray[f]? = some (.slice none 0 0) := by rw [List.getElem?_toArray, List.getElem?_replicate, if_pos hf]
    simp only [World.cell?, hn, h28]
    rfl

theorem costC_bounds {c : Md.Cn} {n : Nat} (h : costC c + n ≤ 20000) : (c.terms.length ≤ 100000 ∧ c.xs.length ≤ 100000 ∧ c.table.length ≤ 100000 ∧ c.rows.length ≤ 100000 ∧ ∀ r ∈ c.rows, r.length ≤ 100000) ∧ n ≤ 100000 ∧ c.rows.length ≤ 20000 := by
  have hr : ∀ r ∈ c.rows, r.length + 1 ≤ costL c.rows := fun r hr => costL_mem hr
  have hl : ∀ l : List (List Int), l.length ≤ costL l := by
    intro l
    induction l with
    | nil => simp
    | cons r l ih => simp only [costL, List.length_cons]; omega
  have := hl c.rows
  unfold costC at h
  exact ⟨⟨by omega, by omega, by omega, by omega, fun r h => by have := hr r h; omega⟩, by omega, by omega⟩

/-- What Con and Ints leave, one behind the other. -/
structure Laid2 (base R : Nat) (c : Md.Cn) (vs : List Int) (bT bX bB bL bV : Nat) (w : World) : Prop where
  hold : ∃ S F, HoldOk base R S F w
  cn : CnAt w c (.slice (some ⟨bT, 0, none⟩) c.terms.length (c.terms.length + 40)) (.slice (some ⟨bX, 0, none⟩) c.xs.length (c.xs.length + 40)) (.slice (some ⟨bB, 0, none⟩) c.table.length (c.table.length + 40)) (.slice (some ⟨bL, 0, none⟩) c.rows.length (c.rows.length + 40))
  vals : IntsAt w (.slice (some ⟨bV, 0, none⟩) vs.length (vs.length + 40)) vs
theorem Laid2.below {base R : Nat} {c : Md.Cn} {vs : List Int} {bT bX bB bL bV : Nat} {w w' : World} (h : Laid2 base R c vs bT bX bB bL bV w) (hb : Below w.heap.size w w') : Laid2 base R c vs bT bX bB bL bV w' := by
  obtain ⟨S, F, hh⟩ := h.hold
  exact ⟨⟨S, F, hh.below hb⟩, h.cn.below hb, h.vals.below hb⟩

theorem laid2_of {base R : Nat} {S5 S6 : Lab} {F5 F6 : Nat → List Value} {w5 w6 : World} {c : Md.Cn} {vs : List Int} {bT bX bB bL bV cT cX cB cL cV : Nat} {D : List Row1} {M : List Nat}
    (hcost : costC c + vs.length ≤ 20000)
    (hR6 : RoomAt ety base R S6 F6 w6) (hA6 : Agree S5 S6 w5 w6)
    (dT : DataT S5 w5 bT c.terms 40) (dX : DataI S5 w5 bX c.xs 40) (dB : DataI S5 w5 bB c.table 40) (dL : DataL S5 w5 bL c.rows D M 40)
    (f0 : F5 0 = [.slice (some ⟨bX, 0, none⟩) (c.xs.length + 40) cX, .slice (some ⟨bB, 0, none⟩) (c.table.length + 40) cB] ++ D.map Row1.ent) (f1 : F5 1 = [.int .i64 (c.xs.length : Int), .int .i64 (c.table.length : Int)] ++ D.map Row1.at_)
    (f4 : F5 4 = [.slice (some ⟨bT, 0, none⟩) (c.terms.length + 40) cT]) (f5 : F5 5 = [.int .i64 (c.terms.length : Int)]) (f16 : F5 16 = [.slice (some ⟨bL, 0, none⟩) (c.rows.length + 40) cL]) (f17 : F5 17 = [.int .i64 (c.rows.length : Int)])
    (fn : ∀ j, j ≠ 0 → j ≠ 1 → j ≠ 4 → j ≠ 5 → j ≠ 16 → j ≠ 17 → F5 j = [])
    (g0 : F6 0 = F5 0 ++ [.slice (some ⟨bV, 0, none⟩) (vs.length + 40) cV]) (g1 : F6 1 = F5 1 ++ [.int .i64 (vs.length : Int)]) (gn : ∀ j, j ≠ 0 → j ≠ 1 → F6 j = F5 j)
    (hb6 : bV < w6.heap.size) (hl6 : S6 bV = 0) (hc6 : ∀ j u, (laidInts vs 40)[j]? = some u → w6.cell? ⟨bV, j, none⟩ = some u) : Laid2 base R c vs bT bX bB bL bV w6 := by
  obtain ⟨⟨l1, l2, l3, l4, l5⟩, l6, l7⟩ := costC_bounds hcost
  have dV : DataI S6 w6 bV vs 40 := ⟨hl6, hb6, hc6⟩
  have eT := dT.agree hA6
  have eX := dX.agree hA6
  have eB := dB.agree hA6
  have eL := dL.agree hA6
  have hDl : D.length = c.rows.length := by have := congrArg List.length eL.rows; simpa using this
  have hDr : ∀ r ∈ D, r.l.length ≤ 100000 := fun r hr => l5 _ (by rw [← eL.rows]; exact List.mem_map_of_mem hr)
  refine ⟨⟨S6, F6, ⟨hR6, ?_, ?_, ?_, ?_, ?_, ?_, ?_⟩⟩, ⟨eT.terms l1, eX.ints l2, fun a n cp h => by injection h with h1 h2 h3; omega, eB.ints l3, eL.rowsAt l4 l5⟩, dV.ints l6⟩
  · rw [g0, g1, f0, f1]
    refine All2.append (All2.append ⟨eX.ent l2 (by decide) _, eB.ent l3 (by decide) _, trivial⟩ (rows_ent eL.ok hDr)) ⟨dV.ent l6 (by decide) _, trivial⟩
  · rw [gn 4 (by decide) (by decide), gn 5 (by decide) (by decide), f4, f5]
    exact ⟨eT.ent l1 (by decide) _, trivial⟩
  · rw [gn 16 (by decide) (by decide), gn 17 (by decide) (by decide), f16, f17]
    exact ⟨eL.ent l4 (by decide) _, trivial⟩
  · rw [g0, f0]; simp; omega
  · rw [gn 4 (by decide) (by decide), f4]; simp
  · rw [gn 16 (by decide) (by decide), f16]; simp
  · intro j a0 a1 a4 a5 a16 a17
    rw [gn j a0 a1]; exact fn j a0 a1 a4 a5 a16 a17
end Go.Proofs.YtjanpglnahagdaaGreatDoor
