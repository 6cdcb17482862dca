/-
  Package audit: what a scale tells.
-/
import Derived.Test.YtgckmkdmlaocmaaGreatDoorAwScale
import Derived.Laws.ResultCell
namespace Go.Proofs.YtgckmkdmlaocmaaGreatDoor
open Go Go.RowKit

theorem ScAt.all {w : World} {b : Nat} {c : Nat → Int} (h : ScAt w b c) : w.cell? ⟨b, 0, none⟩ = some (.int .i64 (c 0)) ∧ w.cell? ⟨b, 1, none⟩ = some (.int .i64 (c 1)) ∧ w.cell? ⟨b, 2, none⟩ = some (.int .i64 (c 2)) ∧ w.cell? ⟨b, 3, none⟩ = some (.int .i64 (c 3)) ∧ w.cell? ⟨b, 4, none⟩ = some (.int .i64 (c 4)) ∧ w.cell? ⟨b, 5, none⟩ = some (.int .i64 (c 5)) ∧ w.cell? ⟨b, 6, none⟩ = some (.int .i64 (c 6)) ∧ w.cell? ⟨b, 7, none⟩ = some (.int .i64 (c 7)) ∧ w.cell? ⟨b, 8, none⟩ = some (.int .i64 (c 8)) ∧ w.cell? ⟨b, 9, none⟩ = some (.int .i64 (c 9)) ∧ w.cell? ⟨b, 10, none⟩ = some (.int .i64 (c 10)) ∧ w.cell? ⟨b, 11, none⟩ = some (.int .i64 (c 11)) ∧ w.cell? ⟨b, 12, none⟩ = some (.int .i64 (c 12)) ∧ w.cell? ⟨b, 13, none⟩ = some (.int .i64 (c 13)) ∧ w.cell? ⟨b, 14, none⟩ = some (.int .i64 (c 14)) ∧ w.cell? ⟨b, 15, none⟩ = some (.int .i64 (c 15)) := ⟨h.cell 0 (by decide), h.cell 1 (by decide), h.cell 2 (by decide), h.cell 3 (by decide), h.cell 4 (by decide), h.cell 5 (by decide), h.cell 6 (by decide), h.cell 7 (by decide), h.cell 8 (by decide), h.cell 9 (by decide), h.cell 10 (by decide), h.cell 11 (by decide), h.cell 12 (by decide), h.cell 13 (by decide), h.cell 14 (by decide), h.cell 15 (by decide)⟩
/-- The sum of the first n. -/
def sumW (c : Nat → Int) : Nat → Int
  | 0 => 0
  | n + 1 => wrap64 (sumW c n + c n)

set_option maxRecDepth 10000 in
set_option maxHeartbeats 1000000 in
theorem steps_any (b : Nat) (c : Nat → Int) (w : World) (h : ScAt w b c) : Calls Tryz.prog 21 #[.pointer (some ⟨b, 0, none⟩)] w fun e w' => e = .returned (.int .i64 (sumW c 13)) ∧ Below w.heap.size w w' := by
  have HS : Hid (ScAt w b c) := h
  clear h
  go_enter Tryz.func21, Tryz.ntmps21
  go_wp2_with fail
  go_loopw [3, 7] (fun nv iv wr => ∃ i : Nat, iv = .int .i64 (i : Int) ∧ i ≤ 13 ∧ Hid (nv = .int .i64 (sumW c i)) ∧ Hid (Below w.heap.size w wr)) (fun _ iv _ => 13 - (intOf iv).toNat)
  case atStart => exact ⟨0, rfl, Nat.zero_le _, rfl, Below.refl _ _⟩
  case round =>
    obtain ⟨i, rfl, hi, HN, HB⟩ := hrel
    obtain ⟨n, hn⟩ : ∃ n, sumW c i = n := ⟨_, rfl⟩
    have hnv := HN.out
    rw [hn] at hnv
    subst hnv
    have HN2 : Hid (sumW c i = n) := hn
    clear HN hn
    have HSr : Hid (ScAt wr b c) := HS.out.below HB.out
    by_cases hin : i < 13
    · have hiI : (i : Int) < 13 := by omega
      have ci : wr.cell? ⟨b, i, none⟩ = some (.int .i64 (c i)) := HSr.out.cell i (by omega)
      go_wp2_with fail
      go_roundw
      case rel => exact ⟨i + 1, by go_num, by omega, by show _ = _; unfold sumW; rw [HN2.out], HB.out⟩
      case measure => simp [intOf]; omega
    · have hiI : ¬ (i : Int) < 13 := by omega
      have hi13 : i = 13 := by omega
      go_wp2_with fail
      go_ret
      refine ⟨?_, HB.out⟩
      rw [← hi13, HN2.out]
      rfl

def wtC (c : Nat → Int) (n y r : Int) : Array Value := #[.int .i64 n, .int .i64 y, .int .i64 r, .int .i64 (c 13), .int .i64 (c 14), .int .i64 (c 15), .int .i64 (c 0), .int .i64 (c 1), .int .i64 (c 2), .int .i64 (c 3), .int .i64 (c 4), .int .i64 (c 5), .int .i64 (c 6), .int .i64 (c 7), .int .i64 (c 8), .int .i64 (c 9), .int .i64 (c 10), .int .i64 (c 11), .int .i64 (c 12)]

theorem infW : (Tryz.prog.info? 24).map (·.size) = some 19 := by kernel_rfl

set_option maxRecDepth 10000 in
set_option maxHeartbeats 1000000 in
theorem weight_any (b : Nat) (c : Nat → Int) (y : Int) (w : World) (h : ScAt w b c) : Calls Tryz.prog 11 #[.pointer (some ⟨b, 0, none⟩), .int .i64 y] w fun e w' => e = .returned (.agg (wtC c (sumW c 13) y (wrap64 (wrap64 (c 3 + c 4) + c 11)))) ∧ Below w.heap.size w w' := by
  obtain ⟨W, hW⟩ : ∃ W, w.alloc (.cells #[.int .i64 0, .int .i64 0, .int .i64 0, .int .i64 0, .int .i64 0, .int .i64 0, .int .i64 0, .int .i64 0, .int .i64 0, .int .i64 0, .int .i64 0, .int .i64 0, .int .i64 0, .int .i64 0, .int .i64 0, .int .i64 0, .int .i64 0, .int .i64 0, .int .i64 0] 24) = W := ⟨_, rfl⟩
  have hN : W.heap[w.heap.size]? = some (.cells #[.int .i64 0, .int .i64 0, .int .i64 0, .int .i64 0, .int .i64 0, .int .i64 0, .int .i64 0, .int .i64 0, .int .i64 0, .int .i64 0, .int .i64 0, .int .i64 0, .int .i64 0, .int .i64 0, .int .i64 0, .int .i64 0, .int .i64 0, .int .i64 0, .int .i64 0] 24 (0, 0)) := by rw [← hW]; exact heap_alloc_new w _
  have hbW : Below w.heap.size w W := by rw [← hW]; exact (Below.refl _ _).alloc (Nat.le_refl _) _
  have HSc : Hid (ScAt W b c) := h.below hbW
  have HBW : Hid (Below w.heap.size w W) := hbW
  have HN : Hid (W.heap[w.heap.size]? = some (.cells #[.int .i64 0, .int .i64 0, .int .i64 0, .int .i64 0, .int .i64 0, .int .i64 0, .int .i64 0, .int .i64 0, .int .i64 0, .int .i64 0, .int .i64 0, .int .i64 0, .int .i64 0, .int .i64 0, .int .i64 0, .int .i64 0, .int .i64 0, .int .i64 0, .int .i64 0] 24 (0, 0))) := hN
  have hne : b ≠ w.heap.size := by have := h.lt; omega
  have HRw : Hid (∀ w', ScAt w' b c → Calls Tryz.prog 20 #[.pointer (some ⟨b, 0, none⟩)] w' fun e w'' => e = .returned (.int .i64 (wrap64 (wrap64 (c 3 + c 4) + c 11))) ∧ Below w'.heap.size w' w'') := fun w' h => rows_any b c w' h
  have HSt : Hid (∀ w', ScAt w' b c → Calls Tryz.prog 21 #[.pointer (some ⟨b, 0, none⟩)] w' fun e w'' => e = .returned (.int .i64 (sumW c 13)) ∧ Below w'.heap.size w' w'') := fun w' h => steps_any b c w' h
  have HH : Hid (Below w.heap.size w W.drew ∧ ScAt W.drew b c ∧ W.drew.heap[w.heap.size]? = some (.cells #[.int .i64 0, .int .i64 0, .int .i64 0, .int .i64 0, .int .i64 0, .int .i64 0, .int .i64 0, .int .i64 0, .int .i64 0, .int .i64 0, .int .i64 0, .int .i64 0, .int .i64 0, .int .i64 0, .int .i64 0, .int .i64 0, .int .i64 0, .int .i64 0, .int .i64 0] 24 (0, 0))) := ⟨hbW.drew, HSc.out, hN⟩
  clear hN hbW h
  go_enter Tryz.func11, Tryz.ntmps11
  go_wp2_with fail
  refine wp_region_T (fun w' => ScAt w' b c) (fun _ => True) [26] (by kernel_rfl) ⟨HH.out.2.1, trivial⟩ (fun hHeld => ?_)
  clear hW HSc HBW HN
  generalize W.drew = U at HH hHeld ⊢
  refine wpAnyT_takeB (i := 0) (oi := ⟨some 5, .move (.tmp 0), _, _, _, _⟩) (v := ?vR1c1x0) rfl (by kernel_rfl) (by kernel_rfl) (by kernel_rfl) (by kernel_rfl) (fun _ _ _ h => h) (Or.inl ⟨by rfl, ?hyR1c1x0⟩) (by assumption) ?restR1c1x0
  case hyR1c1x0 => (intro w hSw; obtain ⟨q0, q1, q2, q3, q4, q5, q6, q7, q8, q9, q10, q11, q12, q13, q14, q15⟩ := ScAt.all hSw; go_simp; try (with_reducible rfl))
  try simp only [Act.put, List.setIfInBounds_toArray, List.set_cons_zero, List.set_cons_succ]
  refine wpAnyT_takeB (i := 1) (oi := ⟨some 6, .nilCheck (.tmp 5), _, _, _, _⟩) (v := ?vR1c1x1) rfl (by kernel_rfl) (by kernel_rfl) (by kernel_rfl) (by kernel_rfl) (fun _ _ _ h => h) (Or.inl ⟨by rfl, ?hyR1c1x1⟩) (by assumption) ?restR1c1x1
  case hyR1c1x1 => (intro w hSw; obtain ⟨q0, q1, q2, q3, q4, q5, q6, q7, q8, q9, q10, q11, q12, q13, q14, q15⟩ := ScAt.all hSw; go_simp; try (with_reducible rfl))
  try simp only [Act.put, List.setIfInBounds_toArray, List.set_cons_zero, List.set_cons_succ]
  refine wpAnyT_takeB (i := 2) (oi := ⟨some 7, .fieldAddr 52 (.tmp 6) 0, _, _, _, _⟩) (v := ?vR1c1x2) rfl (by kernel_rfl) (by kernel_rfl) (by kernel_rfl) (by kernel_rfl) (fun _ _ _ h => h) (Or.inl ⟨by rfl, ?hyR1c1x2⟩) (by assumption) ?restR1c1x2
  case hyR1c1x2 => (intro w hSw; obtain ⟨q0, q1, q2, q3, q4, q5, q6, q7, q8, q9, q10, q11, q12, q13, q14, q15⟩ := ScAt.all hSw; go_simp; try (with_reducible rfl))
  try simp only [Act.put, List.setIfInBounds_toArray, List.set_cons_zero, List.set_cons_succ]
  refine wpAnyT_takeB (i := 4) (oi := ⟨some 9, .move (.tmp 1), _, _, _, _⟩) (v := ?vR1c1x4) rfl (by kernel_rfl) (by kernel_rfl) (by kernel_rfl) (by kernel_rfl) (fun _ _ _ h => h) (Or.inl ⟨by rfl, ?hyR1c1x4⟩) (by assumption) ?restR1c1x4
  case hyR1c1x4 => (intro w hSw; obtain ⟨q0, q1, q2, q3, q4, q5, q6, q7, q8, q9, q10, q11, q12, q13, q14, q15⟩ := ScAt.all hSw; go_simp; try (with_reducible rfl))
  try simp only [Act.put, List.setIfInBounds_toArray, List.set_cons_zero, List.set_cons_succ]
  refine wpAnyT_takeB (i := 5) (oi := ⟨some 10, .move (.tmp 0), _, _, _, _⟩) (v := ?vR1c1x5) rfl (by kernel_rfl) (by kernel_rfl) (by kernel_rfl) (by kernel_rfl) (fun _ _ _ h => h) (Or.inl ⟨by rfl, ?hyR1c1x5⟩) (by assumption) ?restR1c1x5
  case hyR1c1x5 => (intro w hSw; obtain ⟨q0, q1, q2, q3, q4, q5, q6, q7, q8, q9, q10, q11, q12, q13, q14, q15⟩ := ScAt.all hSw; go_simp; try (with_reducible rfl))
  try simp only [Act.put, List.setIfInBounds_toArray, List.set_cons_zero, List.set_cons_succ]
  refine wpAnyT_takeB (i := 6) (oi := ⟨some 11, .nilCheck (.tmp 10), _, _, _, _⟩) (v := ?vR1c1x6) rfl (by kernel_rfl) (by kernel_rfl) (by kernel_rfl) (by kernel_rfl) (fun _ _ _ h => h) (Or.inl ⟨by rfl, ?hyR1c1x6⟩) (by assumption) ?restR1c1x6
  case hyR1c1x6 => (intro w hSw; obtain ⟨q0, q1, q2, q3, q4, q5, q6, q7, q8, q9, q10, q11, q12, q13, q14, q15⟩ := ScAt.all hSw; go_simp; try (with_reducible rfl))
  try simp only [Act.put, List.setIfInBounds_toArray, List.set_cons_zero, List.set_cons_succ]
  refine wpAnyT_takeB (i := 7) (oi := ⟨some 12, .fieldAddr 52 (.tmp 11) 0, _, _, _, _⟩) (v := ?vR1c1x7) rfl (by kernel_rfl) (by kernel_rfl) (by kernel_rfl) (by kernel_rfl) (fun _ _ _ h => h) (Or.inl ⟨by rfl, ?hyR1c1x7⟩) (by assumption) ?restR1c1x7
  case hyR1c1x7 => (intro w hSw; obtain ⟨q0, q1, q2, q3, q4, q5, q6, q7, q8, q9, q10, q11, q12, q13, q14, q15⟩ := ScAt.all hSw; go_simp; try (with_reducible rfl))
  try simp only [Act.put, List.setIfInBounds_toArray, List.set_cons_zero, List.set_cons_succ]
  refine wpAnyT_takeB (i := 9) (oi := ⟨some 14, .move (.tmp 0), _, _, _, _⟩) (v := ?vR1c1x9) rfl (by kernel_rfl) (by kernel_rfl) (by kernel_rfl) (by kernel_rfl) (fun _ _ _ h => h) (Or.inl ⟨by rfl, ?hyR1c1x9⟩) (by assumption) ?restR1c1x9
  case hyR1c1x9 => (intro w hSw; obtain ⟨q0, q1, q2, q3, q4, q5, q6, q7, q8, q9, q10, q11, q12, q13, q14, q15⟩ := ScAt.all hSw; go_simp; try (with_reducible rfl))
  try simp only [Act.put, List.setIfInBounds_toArray, List.set_cons_zero, List.set_cons_succ]
  refine wpAnyT_takeB (i := 10) (oi := ⟨some 15, .nilCheck (.tmp 14), _, _, _, _⟩) (v := ?vR1c1x10) rfl (by kernel_rfl) (by kernel_rfl) (by kernel_rfl) (by kernel_rfl) (fun _ _ _ h => h) (Or.inl ⟨by rfl, ?hyR1c1x10⟩) (by assumption) ?restR1c1x10
  case hyR1c1x10 => (intro w hSw; obtain ⟨q0, q1, q2, q3, q4, q5, q6, q7, q8, q9, q10, q11, q12, q13, q14, q15⟩ := ScAt.all hSw; go_simp; try (with_reducible rfl))
  try simp only [Act.put, List.setIfInBounds_toArray, List.set_cons_zero, List.set_cons_succ]
  refine wpAnyT_takeB (i := 11) (oi := ⟨some 16, .fieldAddr 52 (.tmp 15) 1, _, _, _, _⟩) (v := ?vR1c1x11) rfl (by kernel_rfl) (by kernel_rfl) (by kernel_rfl) (by kernel_rfl) (fun _ _ _ h => h) (Or.inl ⟨by rfl, ?hyR1c1x11⟩) (by assumption) ?restR1c1x11
  case hyR1c1x11 => (intro w hSw; obtain ⟨q0, q1, q2, q3, q4, q5, q6, q7, q8, q9, q10, q11, q12, q13, q14, q15⟩ := ScAt.all hSw; go_simp; try (with_reducible rfl))
  try simp only [Act.put, List.setIfInBounds_toArray, List.set_cons_zero, List.set_cons_succ]
  refine wpAnyT_takeB (i := 12) (oi := ⟨some 17, .load 3 (.tmp 16), _, _, _, _⟩) (v := ?vR1c1x12) rfl (by kernel_rfl) (by kernel_rfl) (by kernel_rfl) (by kernel_rfl) (fun _ _ _ h => h) (Or.inl ⟨by rfl, ?hyR1c1x12⟩) (by assumption) ?restR1c1x12
  case hyR1c1x12 => (intro w hSw; obtain ⟨q0, q1, q2, q3, q4, q5, q6, q7, q8, q9, q10, q11, q12, q13, q14, q15⟩ := ScAt.all hSw; go_simp; try (with_reducible rfl))
  try simp only [Act.put, List.setIfInBounds_toArray, List.set_cons_zero, List.set_cons_succ]
  refine wpAnyT_takeB (i := 13) (oi := ⟨some 18, .move (.tmp 0), _, _, _, _⟩) (v := ?vR1c1x13) rfl (by kernel_rfl) (by kernel_rfl) (by kernel_rfl) (by kernel_rfl) (fun _ _ _ h => h) (Or.inl ⟨by rfl, ?hyR1c1x13⟩) (by assumption) ?restR1c1x13
  case hyR1c1x13 => (intro w hSw; obtain ⟨q0, q1, q2, q3, q4, q5, q6, q7, q8, q9, q10, q11, q12, q13, q14, q15⟩ := ScAt.all hSw; go_simp; try (with_reducible rfl))
  try simp only [Act.put, List.setIfInBounds_toArray, List.set_cons_zero, List.set_cons_succ]
  refine wpAnyT_takeB (i := 14) (oi := ⟨some 19, .nilCheck (.tmp 18), _, _, _, _⟩) (v := ?vR1c1x14) rfl (by kernel_rfl) (by kernel_rfl) (by kernel_rfl) (by kernel_rfl) (fun _ _ _ h => h) (Or.inl ⟨by rfl, ?hyR1c1x14⟩) (by assumption) ?restR1c1x14
  case hyR1c1x14 => (intro w hSw; obtain ⟨q0, q1, q2, q3, q4, q5, q6, q7, q8, q9, q10, q11, q12, q13, q14, q15⟩ := ScAt.all hSw; go_simp; try (with_reducible rfl))
  try simp only [Act.put, List.setIfInBounds_toArray, List.set_cons_zero, List.set_cons_succ]
  refine wpAnyT_takeB (i := 15) (oi := ⟨some 20, .fieldAddr 52 (.tmp 19) 2, _, _, _, _⟩) (v := ?vR1c1x15) rfl (by kernel_rfl) (by kernel_rfl) (by kernel_rfl) (by kernel_rfl) (fun _ _ _ h => h) (Or.inl ⟨by rfl, ?hyR1c1x15⟩) (by assumption) ?restR1c1x15
  case hyR1c1x15 => (intro w hSw; obtain ⟨q0, q1, q2, q3, q4, q5, q6, q7, q8, q9, q10, q11, q12, q13, q14, q15⟩ := ScAt.all hSw; go_simp; try (with_reducible rfl))
  try simp only [Act.put, List.setIfInBounds_toArray, List.set_cons_zero, List.set_cons_succ]
  refine wpAnyT_takeB (i := 16) (oi := ⟨some 21, .load 3 (.tmp 20), _, _, _, _⟩) (v := ?vR1c1x16) rfl (by kernel_rfl) (by kernel_rfl) (by kernel_rfl) (by kernel_rfl) (fun _ _ _ h => h) (Or.inl ⟨by rfl, ?hyR1c1x16⟩) (by assumption) ?restR1c1x16
  case hyR1c1x16 => (intro w hSw; obtain ⟨q0, q1, q2, q3, q4, q5, q6, q7, q8, q9, q10, q11, q12, q13, q14, q15⟩ := ScAt.all hSw; go_simp; try (with_reducible rfl))
  try simp only [Act.put, List.setIfInBounds_toArray, List.set_cons_zero, List.set_cons_succ]
  refine wpAnyT_takeB (i := 17) (oi := ⟨some 22, .move (.tmp 0), _, _, _, _⟩) (v := ?vR1c1x17) rfl (by kernel_rfl) (by kernel_rfl) (by kernel_rfl) (by kernel_rfl) (fun _ _ _ h => h) (Or.inl ⟨by rfl, ?hyR1c1x17⟩) (by assumption) ?restR1c1x17
  case hyR1c1x17 => (intro w hSw; obtain ⟨q0, q1, q2, q3, q4, q5, q6, q7, q8, q9, q10, q11, q12, q13, q14, q15⟩ := ScAt.all hSw; go_simp; try (with_reducible rfl))
  try simp only [Act.put, List.setIfInBounds_toArray, List.set_cons_zero, List.set_cons_succ]
  refine wpAnyT_takeB (i := 18) (oi := ⟨some 23, .nilCheck (.tmp 22), _, _, _, _⟩) (v := ?vR1c1x18) rfl (by kernel_rfl) (by kernel_rfl) (by kernel_rfl) (by kernel_rfl) (fun _ _ _ h => h) (Or.inl ⟨by rfl, ?hyR1c1x18⟩) (by assumption) ?restR1c1x18
  case hyR1c1x18 => (intro w hSw; obtain ⟨q0, q1, q2, q3, q4, q5, q6, q7, q8, q9, q10, q11, q12, q13, q14, q15⟩ := ScAt.all hSw; go_simp; try (with_reducible rfl))
  try simp only [Act.put, List.setIfInBounds_toArray, List.set_cons_zero, List.set_cons_succ]
  refine wpAnyT_takeB (i := 19) (oi := ⟨some 24, .fieldAddr 52 (.tmp 23) 3, _, _, _, _⟩) (v := ?vR1c1x19) rfl (by kernel_rfl) (by kernel_rfl) (by kernel_rfl) (by kernel_rfl) (fun _ _ _ h => h) (Or.inl ⟨by rfl, ?hyR1c1x19⟩) (by assumption) ?restR1c1x19
  case hyR1c1x19 => (intro w hSw; obtain ⟨q0, q1, q2, q3, q4, q5, q6, q7, q8, q9, q10, q11, q12, q13, q14, q15⟩ := ScAt.all hSw; go_simp; try (with_reducible rfl))
  try simp only [Act.put, List.setIfInBounds_toArray, List.set_cons_zero, List.set_cons_succ]
  refine wpAnyT_takeB (i := 20) (oi := ⟨some 25, .load 3 (.tmp 24), _, _, _, _⟩) (v := ?vR1c1x20) rfl (by kernel_rfl) (by kernel_rfl) (by kernel_rfl) (by kernel_rfl) (fun _ _ _ h => h) (Or.inl ⟨by rfl, ?hyR1c1x20⟩) (by assumption) ?restR1c1x20
  case hyR1c1x20 => (intro w hSw; obtain ⟨q0, q1, q2, q3, q4, q5, q6, q7, q8, q9, q10, q11, q12, q13, q14, q15⟩ := ScAt.all hSw; go_simp; try (with_reducible rfl))
  try simp only [Act.put, List.setIfInBounds_toArray, List.set_cons_zero, List.set_cons_succ]
  refine wpAnyT_takeB (i := 21) (oi := ⟨some 26, .move (.tmp 0), _, _, _, _⟩) (v := ?vR1c1x21) rfl (by kernel_rfl) (by kernel_rfl) (by kernel_rfl) (by kernel_rfl) (fun _ _ _ h => h) (Or.inl ⟨by rfl, ?hyR1c1x21⟩) (by assumption) ?restR1c1x21
  case hyR1c1x21 => (intro w hSw; obtain ⟨q0, q1, q2, q3, q4, q5, q6, q7, q8, q9, q10, q11, q12, q13, q14, q15⟩ := ScAt.all hSw; go_simp; try (with_reducible rfl))
  try simp only [Act.put, List.setIfInBounds_toArray, List.set_cons_zero, List.set_cons_succ]
  refine wpAnyT_takeB (i := 22) (oi := ⟨some 27, .nilCheck (.tmp 26), _, _, _, _⟩) (v := ?vR1c1x22) rfl (by kernel_rfl) (by kernel_rfl) (by kernel_rfl) (by kernel_rfl) (fun _ _ _ h => h) (Or.inl ⟨by rfl, ?hyR1c1x22⟩) (by assumption) ?restR1c1x22
  case hyR1c1x22 => (intro w hSw; obtain ⟨q0, q1, q2, q3, q4, q5, q6, q7, q8, q9, q10, q11, q12, q13, q14, q15⟩ := ScAt.all hSw; go_simp; try (with_reducible rfl))
  try simp only [Act.put, List.setIfInBounds_toArray, List.set_cons_zero, List.set_cons_succ]
  refine wpAnyT_takeB (i := 23) (oi := ⟨some 28, .fieldAddr 52 (.tmp 27) 0, _, _, _, _⟩) (v := ?vR1c1x23) rfl (by kernel_rfl) (by kernel_rfl) (by kernel_rfl) (by kernel_rfl) (fun _ _ _ h => h) (Or.inl ⟨by rfl, ?hyR1c1x23⟩) (by assumption) ?restR1c1x23
  case hyR1c1x23 => (intro w hSw; obtain ⟨q0, q1, q2, q3, q4, q5, q6, q7, q8, q9, q10, q11, q12, q13, q14, q15⟩ := ScAt.all hSw; go_simp; try (with_reducible rfl))
  try simp only [Act.put, List.setIfInBounds_toArray, List.set_cons_zero, List.set_cons_succ]
  refine wpAnyT_takeB (i := 24) (oi := ⟨some 29, .load 50 (.tmp 28), _, _, _, _⟩) (v := ?vR1c1x24) rfl (by kernel_rfl) (by kernel_rfl) (by kernel_rfl) (by kernel_rfl) (fun _ _ _ h => h) (Or.inl ⟨by rfl, ?hyR1c1x24⟩) (by assumption) ?restR1c1x24
  case hyR1c1x24 => (intro w hSw; obtain ⟨q0, q1, q2, q3, q4, q5, q6, q7, q8, q9, q10, q11, q12, q13, q14, q15⟩ := ScAt.all hSw; go_simp; try (with_reducible rfl))
  try simp only [Act.put, List.setIfInBounds_toArray, List.set_cons_zero, List.set_cons_succ]
  refine wpAnyT_one (i := 3) (o := ⟨some 8, .call { callee := .value (.func 21), args := #[(.tmp 7)], argTypes := #[50] }, _, _, _, _⟩) (by kernel_rfl) rfl (fun K hK => ?_)
  go_simp
  refine calls_at (HSt.out U HH.out.2.1) (by with_reducible rfl) (by with_reducible rfl) ?_
  rintro e w1 ⟨rfl, hb1⟩
  have H1 : Hid (Below w.heap.size w w1 ∧ ScAt w1 b c ∧ w1.heap[w.heap.size]? = some (.cells #[.int .i64 0, .int .i64 0, .int .i64 0, .int .i64 0, .int .i64 0, .int .i64 0, .int .i64 0, .int .i64 0, .int .i64 0, .int .i64 0, .int .i64 0, .int .i64 0, .int .i64 0, .int .i64 0, .int .i64 0, .int .i64 0, .int .i64 0, .int .i64 0, .int .i64 0] 24 (0, 0))) := ⟨bl_next HH.out.1 hb1, HH.out.2.1.below hb1, (hb1.block _ (Array.getElem?_eq_some_iff.1 HH.out.2.2).1).trans HH.out.2.2⟩
  clear hb1
  go_wp2_with fail
  refine hK.out _ _ ⟨H1.out.2.1, fun _ => trivial⟩ ?_
  clear hK K
  try simp only [Act.put, List.setIfInBounds_toArray, List.set_cons_zero, List.set_cons_succ]
  refine wpAnyT_one (i := 8) (o := ⟨some 13, .call { callee := .value (.func 20), args := #[(.tmp 12)], argTypes := #[50] }, _, _, _, _⟩) (by kernel_rfl) rfl (fun K hK => ?_)
  go_simp
  refine calls_at (HRw.out w1 H1.out.2.1) (by with_reducible rfl) (by with_reducible rfl) ?_
  rintro e w2 ⟨rfl, hb2⟩
  have H2 : Hid (Below w.heap.size w w2 ∧ ScAt w2 b c ∧ w2.heap[w.heap.size]? = some (.cells #[.int .i64 0, .int .i64 0, .int .i64 0, .int .i64 0, .int .i64 0, .int .i64 0, .int .i64 0, .int .i64 0, .int .i64 0, .int .i64 0, .int .i64 0, .int .i64 0, .int .i64 0, .int .i64 0, .int .i64 0, .int .i64 0, .int .i64 0, .int .i64 0, .int .i64 0] 24 (0, 0))) := ⟨bl_next H1.out.1 hb2, H1.out.2.1.below hb2, (hb2.block _ (Array.getElem?_eq_some_iff.1 H1.out.2.2).1).trans H1.out.2.2⟩
  clear hb2
  go_wp2_with fail
  refine hK.out _ _ ⟨H2.out.2.1, fun _ => trivial⟩ ?_
  have hHeld : ScAt w2 b c ∧ True := ⟨H2.out.2.1, trivial⟩
  clear hK K
  try simp only [Act.put, List.setIfInBounds_toArray, List.set_cons_zero, List.set_cons_succ]
  refine wpAnyT_takeB (i := 25) (oi := ⟨some 30, .build 24 #[(0, (.tmp 8)), (1, (.tmp 9)), (2, (.tmp 13)), (3, (.tmp 17)), (4, (.tmp 21)), (5, (.tmp 25)), (6, (.tmp 29))], _, _, _, _⟩) (v := ?vR1c1x25) rfl (by kernel_rfl) (by kernel_rfl) (by kernel_rfl) (by kernel_rfl) (fun _ _ _ h => h) (Or.inl ⟨by rfl, ?hyR1c1x25⟩) (by assumption) ?restR1c1x25
  case hyR1c1x25 => (intro w hSw; obtain ⟨q0, q1, q2, q3, q4, q5, q6, q7, q8, q9, q10, q11, q12, q13, q14, q15⟩ := ScAt.all hSw; go_simp; try (with_reducible rfl))
  try simp only [Act.put, List.setIfInBounds_toArray, List.set_cons_zero, List.set_cons_succ]
  refine wpAnyT_late (i := 26) (o := ⟨none, .store 24 (.tmp 4) (.tmp 30), _, _, _, _⟩) (by kernel_rfl) rfl (by kernel_rfl) (fun K hK => ?_)
  rw [if_pos (by rfl)]
  refine wp_store_row 24 (.tmp 4) (.tmp 30) rfl w.heap.size (wtC c (sumW c 13) y (wrap64 (wrap64 (c 3 + c 4) + c 11))) (by rfl) (by rfl) 24 _ H2.out.2.2 infW rfl (by simp [wtC, Value.oneCell']) ?_
  refine hK.out _ _ ((setRow_other w2 w.heap.size b _ hne).trans H2.out.2.1) ?_
  clear hK K
  refine wpAnyT_done (by kernel_rfl) ?_ _
  have hB3 : Below w.heap.size w (w2.setRow w.heap.size (wtC c (sumW c 13) y (wrap64 (wrap64 (c 3 + c 4) + c 11)))) := H2.out.1.trans ⟨rfl, rfl, rfl, by simp [World.setRow], fun k hk => setRow_other w2 _ k _ (by omega)⟩
  have hg3 := setRow_heap w2 w.heap.size _ (wtC c (sumW c 13) y (wrap64 (wrap64 (c 3 + c 4) + c 11))) _ _ H2.out.2.2
  go_wp2_with fail
  refine bodyPost_ret (v := .agg (wtC c (sumW c 13) y (wrap64 (wrap64 (c 3 + c 4) + c 11)))) (results_cell_row Tryz.results11 _ _ w.heap.size 24 (wtC c (sumW c 13) y (wrap64 (wrap64 (c 3 + c 4) + c 11))) (0, 0) _ rfl hg3 Tryz.underlying24 rfl infW) rfl ⟨rfl, hB3⟩

end Go.Proofs.YtgckmkdmlaocmaaGreatDoor
