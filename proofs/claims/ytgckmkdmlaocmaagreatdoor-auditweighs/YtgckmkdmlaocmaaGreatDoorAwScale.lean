/-
  Package audit: the scale.
-/
import Derived.Test.YtgckmkdmlaocmaaGreatDoorJ36
import Derived.Test.YtgckmkdmlaocmaaGreatDoorMdRegT
import Derived.BigQuiet
import Derived.Deep.CutRange
namespace Go.Proofs.YtgckmkdmlaocmaaGreatDoor
open Go Go.RowKit

/-- The cells of a scale: of each kind how many; how many ids are gone; the greatest number of rows; the longest line. -/
def scC (c : Nat → Int) : Array Value := #[.int .i64 (c 0), .int .i64 (c 1), .int .i64 (c 2), .int .i64 (c 3), .int .i64 (c 4), .int .i64 (c 5), .int .i64 (c 6), .int .i64 (c 7), .int .i64 (c 8), .int .i64 (c 9), .int .i64 (c 10), .int .i64 (c 11), .int .i64 (c 12), .int .i64 (c 13), .int .i64 (c 14), .int .i64 (c 15)]
def ScAt (w : World) (b : Nat) (c : Nat → Int) : Prop := w.heap[b]? = some (.cells (scC c) 52 (0, 0))
def upd (c : Nat → Int) (i : Nat) (v : Int) : Nat → Int := fun j => if j = i then v else c j
theorem scC_get (c : Nat → Int) (i : Nat) (h : i < 16) : (scC c)[i]? = some (.int .i64 (c i)) := by
  unfold scC
  match i, h with
  | 0, _ => rfl
  | 1, _ => rfl
  | 2, _ => rfl
  | 3, _ => rfl
  | 4, _ => rfl
  | 5, _ => rfl
  | 6, _ => rfl
  | 7, _ => rfl
  | 8, _ => rfl
  | 9, _ => rfl
  | 10, _ => rfl
  | 11, _ => rfl
  | 12, _ => rfl
  | 13, _ => rfl
  | 14, _ => rfl
  | 15, _ => rfl
  | n + 16, h => omega
theorem scC_size (c : Nat → Int) : (scC c).size = 16 := rfl
theorem scC_set (c : Nat → Int) (i : Nat) (h : i < 16) (v : Int) : (scC c).setIfInBounds i (.int .i64 v) = scC (upd c i v) := by
  match i, h with
  | 0, _ => rfl
  | 1, _ => rfl
  | 2, _ => rfl
  | 3, _ => rfl
  | 4, _ => rfl
  | 5, _ => rfl
  | 6, _ => rfl
  | 7, _ => rfl
  | 8, _ => rfl
  | 9, _ => rfl
  | 10, _ => rfl
  | 11, _ => rfl
  | 12, _ => rfl
  | 13, _ => rfl
  | 14, _ => rfl
  | 15, _ => rfl
  | n + 16, h => omega
theorem ScAt.cell {w : World} {b : Nat} {c : Nat → Int} (h : ScAt w b c) (i : Nat) (hi : i < 16) : w.cell? ⟨b, i, none⟩ = some (.int .i64 (c i)) := (cell_of h i).trans (scC_get c i hi)
theorem ScAt.frozen {w : World} {b : Nat} {c : Nat → Int} (h : ScAt w b c) (i : Nat) : w.frozen? ⟨b, i, none⟩ = false := frozen_of h i
theorem ScAt.lt {w : World} {b : Nat} {c : Nat → Int} (h : ScAt w b c) : b < w.heap.size := (Array.getElem?_eq_some_iff.1 h).1
theorem ScAt.set {w : World} {b : Nat} {c : Nat → Int} (h : ScAt w b c) (i : Nat) (hi : i < 16) (v : Int) : ScAt (w.setCell ⟨b, i, none⟩ (.int .i64 v)) b (upd c i v) := by
  have := set_of h i (.int .i64 v)
  rw [scC_set c i hi] at this
  exact this
theorem ScAt.below {w w' : World} {b : Nat} {c : Nat → Int} (h : ScAt w b c) (hb : Below w.heap.size w w') : ScAt w' b c := (hb.block b h.lt).trans h

theorem wr64 (n : Int) : IntKind.i64.wrap n = wrap64 n := by simp only [IntKind.wrap_i64, wrap64]
theorem go_max (a b : Int) : (if a < b then b else a) = max a b := by
  rw [Int.max_def]
  split <;> split <;> omega
theorem sc_drewN {w w' : World} {B : Nat} (h : Below B w w') (n : Nat) : Below B w (w'.drewN n) := ⟨h.os, h.tape, h.output, h.size, h.block⟩

set_option maxRecDepth 10000 in
set_option maxHeartbeats 1000000 in
theorem rows_any (b : Nat) (c : Nat → Int) (w : World) (h : ScAt w b c) : Calls Tryz.prog 20 #[.pointer (some ⟨b, 0, none⟩)] w fun e w' => e = .returned (.int .i64 (wrap64 (wrap64 (c 3 + c 4) + c 11))) ∧ Below w.heap.size w w' := by
  have h3 := h.cell 3 (by decide)
  have h4 := h.cell 4 (by decide)
  have h11 := h.cell 11 (by decide)
  clear h
  go_enter Tryz.func20, Tryz.ntmps20
  go_wp2_with fail
  go_quiet (fail)
  go_wp2
  go_ret
  exact ⟨rfl, sc_drewN (Below.refl _ _) _⟩

/-- What a step lays. -/
def lay1 (c : Nat → Int) (k : Nat) (i l : Int) : Nat → Int :=
  let c1 := upd c k (wrap64 (c k + 1))
  let c2 := if k = 6 then upd c1 13 (wrap64 (c1 13 + i)) else c1
  let c3 := upd c2 14 (max (c2 14) (wrap64 (wrap64 (wrap64 (c2 3 + c2 4) + c2 11) - c2 13)))
  upd c3 15 (max (c3 15) l)

set_option maxRecDepth 10000 in
set_option maxHeartbeats 1000000 in
theorem lay_any (b : Nat) (c : Nat → Int) (s : ByteArray) (k : Nat) (hk : k < 13) (a1 a2 a3 a4 a5 a7 a8 a9 : Value) (ia : Option Addr) (il ic : Nat) (w : World) (h : ScAt w b c) : Calls Tryz.prog 10 #[.pointer (some ⟨b, 0, none⟩), .string s, .agg #[.int .i64 (k : Int), a1, a2, a3, a4, a5, .slice ia il ic, a7, a8, a9]] w fun e w' => e = .returned (.tuple #[]) ∧ ScAt w' b (lay1 c k il s.size) ∧ Ofw (fun k => k = b) w w' := by
  obtain ⟨W, hW⟩ : ∃ W, w.alloc (.cells #[.int .i64 (k : Int), a1, a2, a3, a4, a5, .slice ia il ic, a7, a8, a9] 47) = W := ⟨_, rfl⟩
  have hN : W.heap[w.heap.size]? = some (.cells #[.int .i64 (k : Int), a1, a2, a3, a4, a5, .slice ia il ic, a7, a8, a9] 47 (0, 0)) := by rw [← hW]; exact heap_alloc_new w _
  have hbW : Below w.heap.size w W := by rw [← hW]; exact (Below.refl _ _).alloc (Nat.le_refl _) _
  have HSc : Hid (ScAt W b c) := h.below hbW
  have k0 : W.cell? ⟨w.heap.size, 0, none⟩ = some (.int .i64 (k : Int)) := cell_of hN 0
  have k5 : W.cell? ⟨w.heap.size, 6, none⟩ = some (.slice ia il ic) := cell_of hN 6
  go_enter Tryz.func10, Tryz.ntmps10
  go_wp2_with fail
  have hkI : (0 : Int) ≤ (k : Int) := by omega
  have hkJ : (k : Int) < 13 := by omega
  have ck : W.cell? ⟨b, k, none⟩ = some (.int .i64 (c k)) := HSc.out.cell k (by omega)
  have fk : W.frozen? ⟨b, k, none⟩ = false := HSc.out.frozen k
  go_region
  obtain ⟨W1, hW1⟩ : ∃ W1, (W.setCell ⟨b, k, none⟩ (.int .i64 (wrap64 (c k + 1)))).drew = W1 := ⟨_, rfl⟩
  rw [hW1]
  have hsc1 : ScAt W1 b (upd c k (wrap64 (c k + 1))) := by rw [← hW1]; exact HSc.out.set k (by omega) _
  have hof1 : Ofw (fun k => k = b) W W1 := by rw [← hW1]; exact (Ofw.set (S := fun k => k = b) _ rfl).trans (Ofw.of_below ((Below.refl _ _).drew))
  have hne : w.heap.size ≠ b := by have := h.lt; omega
  have hlt : w.heap.size < W.heap.size := (Array.getElem?_eq_some_iff.1 hN).1
  have hN1 : W1.heap[w.heap.size]? = some (.cells #[.int .i64 (k : Int), a1, a2, a3, a4, a5, .slice ia il ic, a7, a8, a9] 47 (0, 0)) := (hof1.block _ hlt hne).trans hN
  have HO1 : Hid (Ofw (fun k => k = b) w W1) := (Ofw.of_below hbW).trans hof1
  obtain ⟨c1, hc1⟩ : ∃ c1, upd c k (wrap64 (c k + 1)) = c1 := ⟨_, rfl⟩
  have HC1 : Hid (upd c k (wrap64 (c k + 1)) = c1) := hc1
  rw [hc1] at hsc1
  have HS1 : Hid (ScAt W1 b c1) := hsc1
  have l0 : W1.cell? ⟨w.heap.size, 0, none⟩ = some (.int .i64 (k : Int)) := cell_of hN1 0
  have l6 : W1.cell? ⟨w.heap.size, 6, none⟩ = some (.slice ia il ic) := cell_of hN1 6
  have HH : Hid (b < w.heap.size) := h.lt
  clear hW1 hc1 ck fk k0 k5 hN hbW HSc hsc1 hof1 hN1 hlt h
  by_cases hk6 : (k : Int) = 6
  case neg =>
    have hb6 : ((k : Int) == 6) = false := by simpa using hk6
    obtain ⟨c2, hc2⟩ : ∃ c2, c1 = c2 := ⟨_, rfl⟩
    have HC2 : Hid ((if k = 6 then upd c1 13 (wrap64 (c1 13 + (il : Int))) else c1) = c2) := by
      show _ = _
      rw [if_neg (by omega)]; exact hc2
    have HS2 : Hid (ScAt W1 b c2) := by rw [← hc2]; exact HS1.out
    have HO2 : Hid (Ofw (fun k => k = b) w W1) := HO1.out
    clear hc2
    go_wp2_with fail
    clear l0 l6 HS1 HO1
    generalize W1 = W2 at HS2 HO2 ⊢
    have HRw : Hid (∀ w', ScAt w' b c2 → Calls Tryz.prog 20 #[.pointer (some ⟨b, 0, none⟩)] w' fun e w'' => e = .returned (.int .i64 (wrap64 (wrap64 (c2 3 + c2 4) + c2 11))) ∧ Below w'.heap.size w' w'') := fun w' h => rows_any b c2 w' h
    have HU0 : Hid (ScAt W2.drew b c2) := HS2.out.below (Below.refl _ _).drew
    have HU1 : Hid (Ofw (fun k => k = b) w W2.drew) := HO2.out.trans (Ofw.of_below (Below.refl _ _).drew)
    obtain ⟨M, hM⟩ : ∃ M, max (c2 14) (wrap64 (wrap64 (wrap64 (c2 3 + c2 4) + c2 11) - c2 13)) = M := ⟨_, rfl⟩
    have HM : Hid (max (c2 14) (wrap64 (wrap64 (wrap64 (c2 3 + c2 4) + c2 11) - c2 13)) = M) := hM
    refine wp_region_T (fun _ => True) (fun w' => w'.cell? ⟨b, 13, none⟩ = some (.int .i64 (c2 13)) ∧ w'.cell? ⟨b, 14, none⟩ = some (.int .i64 (c2 14))) [17] (by kernel_rfl) ⟨trivial, HU0.out.cell 13 (by decide), HU0.out.cell 14 (by decide)⟩ (fun hHeld => ?_)
    generalize W2.drew = U at HU0 HU1 hHeld ⊢
    refine wpAnyT_takeB (i := 0) (oi := ⟨some 30, .move (.tmp 0), _, _, _, _⟩) (v := ?vR4c1x0) rfl (by kernel_rfl) (by kernel_rfl) (by kernel_rfl) (by kernel_rfl) (fun _ _ _ h => h) (Or.inl ⟨by rfl, ?hyR4c1x0⟩) (by assumption) ?restR4c1x0
    case hyR4c1x0 => (intro w hSw; (try dsimp only at hSw); go_simp; try (with_reducible rfl))
    try simp only [Act.put, List.setIfInBounds_toArray, List.set_cons_zero, List.set_cons_succ]
    refine wpAnyT_takeB (i := 1) (oi := ⟨some 31, .move (.tmp 0), _, _, _, _⟩) (v := ?vR4c1x1) rfl (by kernel_rfl) (by kernel_rfl) (by kernel_rfl) (by kernel_rfl) (fun _ _ _ h => h) (Or.inl ⟨by rfl, ?hyR4c1x1⟩) (by assumption) ?restR4c1x1
    case hyR4c1x1 => (intro w hSw; (try dsimp only at hSw); go_simp; try (with_reducible rfl))
    try simp only [Act.put, List.setIfInBounds_toArray, List.set_cons_zero, List.set_cons_succ]
    refine wpAnyT_takeB (i := 2) (oi := ⟨some 32, .nilCheck (.tmp 31), _, _, _, _⟩) (v := ?vR4c1x2) rfl (by kernel_rfl) (by kernel_rfl) (by kernel_rfl) (by kernel_rfl) (fun _ _ _ h => h) (Or.inl ⟨by rfl, ?hyR4c1x2⟩) (by assumption) ?restR4c1x2
    case hyR4c1x2 => (intro w hSw; (try dsimp only at hSw); go_simp; try (with_reducible rfl))
    try simp only [Act.put, List.setIfInBounds_toArray, List.set_cons_zero, List.set_cons_succ]
    refine wpAnyT_takeB (i := 3) (oi := ⟨some 33, .fieldAddr 52 (.tmp 32) 2, _, _, _, _⟩) (v := ?vR4c1x3) rfl (by kernel_rfl) (by kernel_rfl) (by kernel_rfl) (by kernel_rfl) (fun _ _ _ h => h) (Or.inl ⟨by rfl, ?hyR4c1x3⟩) (by assumption) ?restR4c1x3
    case hyR4c1x3 => (intro w hSw; (try dsimp only at hSw); go_simp; try (with_reducible rfl))
    try simp only [Act.put, List.setIfInBounds_toArray, List.set_cons_zero, List.set_cons_succ]
    refine wpAnyT_take (i := 4) (oi := ⟨some 34, .load 3 (.tmp 33), _, _, _, _⟩) (v := ?vR4c1x4) rfl (by kernel_rfl) (by kernel_rfl) (by kernel_rfl) (by kernel_rfl) (by kernel_rfl) (fun _ _ _ h => h) (Or.inl ⟨by rfl, ?hyR4c1x4⟩) (by assumption) ?restR4c1x4
    case hyR4c1x4 => (intro w hSw; (try dsimp only at hSw); go_simp; try (with_reducible rfl))
    try simp only [Act.put, List.setIfInBounds_toArray, List.set_cons_zero, List.set_cons_succ]
    refine wpAnyT_takeB (i := 5) (oi := ⟨some 35, .move (.tmp 0), _, _, _, _⟩) (v := ?vR4c1x5) rfl (by kernel_rfl) (by kernel_rfl) (by kernel_rfl) (by kernel_rfl) (fun _ _ _ h => h) (Or.inl ⟨by rfl, ?hyR4c1x5⟩) (by assumption) ?restR4c1x5
    case hyR4c1x5 => (intro w hSw; (try dsimp only at hSw); go_simp; try (with_reducible rfl))
    try simp only [Act.put, List.setIfInBounds_toArray, List.set_cons_zero, List.set_cons_succ]
    refine wpAnyT_takeB (i := 6) (oi := ⟨some 36, .nilCheck (.tmp 35), _, _, _, _⟩) (v := ?vR4c1x6) rfl (by kernel_rfl) (by kernel_rfl) (by kernel_rfl) (by kernel_rfl) (fun _ _ _ h => h) (Or.inl ⟨by rfl, ?hyR4c1x6⟩) (by assumption) ?restR4c1x6
    case hyR4c1x6 => (intro w hSw; (try dsimp only at hSw); go_simp; try (with_reducible rfl))
    try simp only [Act.put, List.setIfInBounds_toArray, List.set_cons_zero, List.set_cons_succ]
    refine wpAnyT_takeB (i := 7) (oi := ⟨some 37, .fieldAddr 52 (.tmp 36) 0, _, _, _, _⟩) (v := ?vR4c1x7) rfl (by kernel_rfl) (by kernel_rfl) (by kernel_rfl) (by kernel_rfl) (fun _ _ _ h => h) (Or.inl ⟨by rfl, ?hyR4c1x7⟩) (by assumption) ?restR4c1x7
    case hyR4c1x7 => (intro w hSw; (try dsimp only at hSw); go_simp; try (with_reducible rfl))
    try simp only [Act.put, List.setIfInBounds_toArray, List.set_cons_zero, List.set_cons_succ]
    refine wpAnyT_takeB (i := 9) (oi := ⟨some 39, .move (.tmp 0), _, _, _, _⟩) (v := ?vR4c1x9) rfl (by kernel_rfl) (by kernel_rfl) (by kernel_rfl) (by kernel_rfl) (fun _ _ _ h => h) (Or.inl ⟨by rfl, ?hyR4c1x9⟩) (by assumption) ?restR4c1x9
    case hyR4c1x9 => (intro w hSw; (try dsimp only at hSw); go_simp; try (with_reducible rfl))
    try simp only [Act.put, List.setIfInBounds_toArray, List.set_cons_zero, List.set_cons_succ]
    refine wpAnyT_takeB (i := 10) (oi := ⟨some 40, .nilCheck (.tmp 39), _, _, _, _⟩) (v := ?vR4c1x10) rfl (by kernel_rfl) (by kernel_rfl) (by kernel_rfl) (by kernel_rfl) (fun _ _ _ h => h) (Or.inl ⟨by rfl, ?hyR4c1x10⟩) (by assumption) ?restR4c1x10
    case hyR4c1x10 => (intro w hSw; (try dsimp only at hSw); go_simp; try (with_reducible rfl))
    try simp only [Act.put, List.setIfInBounds_toArray, List.set_cons_zero, List.set_cons_succ]
    refine wpAnyT_takeB (i := 11) (oi := ⟨some 41, .fieldAddr 52 (.tmp 40) 1, _, _, _, _⟩) (v := ?vR4c1x11) rfl (by kernel_rfl) (by kernel_rfl) (by kernel_rfl) (by kernel_rfl) (fun _ _ _ h => h) (Or.inl ⟨by rfl, ?hyR4c1x11⟩) (by assumption) ?restR4c1x11
    case hyR4c1x11 => (intro w hSw; (try dsimp only at hSw); go_simp; try (with_reducible rfl))
    try simp only [Act.put, List.setIfInBounds_toArray, List.set_cons_zero, List.set_cons_succ]
    refine wpAnyT_take (i := 12) (oi := ⟨some 42, .load 3 (.tmp 41), _, _, _, _⟩) (v := ?vR4c1x12) rfl (by kernel_rfl) (by kernel_rfl) (by kernel_rfl) (by kernel_rfl) (by kernel_rfl) (fun _ _ _ h => h) (Or.inl ⟨by rfl, ?hyR4c1x12⟩) (by assumption) ?restR4c1x12
    case hyR4c1x12 => (intro w hSw; (try dsimp only at hSw); go_simp; try (with_reducible rfl))
    try simp only [Act.put, List.setIfInBounds_toArray, List.set_cons_zero, List.set_cons_succ]
    refine wpAnyT_one (i := 8) (o := ⟨some 38, .call { callee := .value (.func 20), args := #[(.tmp 37)], argTypes := #[50] }, _, _, _, _⟩) (by kernel_rfl) rfl (fun K hK => ?_)
    go_simp
    refine calls_at (HRw.out U HU0.out) (by with_reducible rfl) (by with_reducible rfl) ?_
    rintro e w1 ⟨rfl, hb1⟩
    have HV0 : Hid (ScAt w1 b c2) := HU0.out.below hb1
    have HV1 : Hid (Ofw (fun k => k = b) w w1) := HU1.out.trans (Ofw.of_below hb1)
    clear hb1 HRw
    go_wp2_with fail
    have fr : w1.frozen? ⟨b, 14, none⟩ = false := HV0.out.frozen 14
    refine hK.out _ _ ⟨trivial, fun _ => ⟨HV0.out.cell 13 (by decide), HV0.out.cell 14 (by decide)⟩⟩ ?_
    have hHeld := (⟨trivial, HV0.out.cell 13 (by decide), HV0.out.cell 14 (by decide)⟩ : True ∧ _ ∧ _)
    clear hK K
    try simp only [Act.put, List.setIfInBounds_toArray, List.set_cons_zero, List.set_cons_succ]
    refine wpAnyT_takeB (i := 13) (oi := ⟨some 43, .binOp .sub 3 (.tmp 38) (.tmp 42) 3, _, _, _, _⟩) (v := ?vR4c1x13) rfl (by kernel_rfl) (by kernel_rfl) (by kernel_rfl) (by kernel_rfl) (fun _ _ _ h => h) (Or.inl ⟨by rfl, ?hyR4c1x13⟩) (by assumption) ?restR4c1x13
    case hyR4c1x13 => (intro w hSw; (try dsimp only at hSw); go_simp; try (with_reducible rfl))
    try simp only [Act.put, List.setIfInBounds_toArray, List.set_cons_zero, List.set_cons_succ]
    refine wpAnyT_takeB (i := 14) (oi := ⟨some 44, .call { callee := .builtin .max, args := #[(.tmp 34), (.tmp 43)], argTypes := #[3, 3] }, _, _, _, _⟩) (v := .int .i64 M) rfl (by kernel_rfl) (by kernel_rfl) (by kernel_rfl) (by kernel_rfl) (fun _ _ _ h => h) (Or.inl ⟨by rfl, ?hyR4c1x14⟩) (by assumption) ?restR4c1x14
    case hyR4c1x14 => (intro w hSw; go_simp; first | (rw [wr64, go_max]; exact HM.out) | (rw [wr64]; exact HM.out) | exact HM.out)
    try simp only [Act.put, List.setIfInBounds_toArray, List.set_cons_zero, List.set_cons_succ]
    refine wpAnyT_takeB (i := 15) (oi := ⟨some 45, .nilCheck (.tmp 30), _, _, _, _⟩) (v := ?vR4c1x15) rfl (by kernel_rfl) (by kernel_rfl) (by kernel_rfl) (by kernel_rfl) (fun _ _ _ h => h) (Or.inl ⟨by rfl, ?hyR4c1x15⟩) (by assumption) ?restR4c1x15
    case hyR4c1x15 => (intro w hSw; (try dsimp only at hSw); go_simp; try (with_reducible rfl))
    try simp only [Act.put, List.setIfInBounds_toArray, List.set_cons_zero, List.set_cons_succ]
    refine wpAnyT_takeB (i := 16) (oi := ⟨some 46, .fieldAddr 52 (.tmp 45) 2, _, _, _, _⟩) (v := ?vR4c1x16) rfl (by kernel_rfl) (by kernel_rfl) (by kernel_rfl) (by kernel_rfl) (fun _ _ _ h => h) (Or.inl ⟨by rfl, ?hyR4c1x16⟩) (by assumption) ?restR4c1x16
    case hyR4c1x16 => (intro w hSw; (try dsimp only at hSw); go_simp; try (with_reducible rfl))
    try simp only [Act.put, List.setIfInBounds_toArray, List.set_cons_zero, List.set_cons_succ]
    refine wpAnyT_late (i := 17) (o := ⟨none, .store 3 (.tmp 46) (.tmp 44), _, _, _, _⟩) (by kernel_rfl) rfl (by kernel_rfl) (fun K hK => ?_)
    go_simp
    refine hK.out _ _ ?shR4c1x17 ?restR4c1x17
    case shR4c1x17 => ((try dsimp only); try trivial)
    clear hK K
    try simp only [Act.put, List.setIfInBounds_toArray, List.set_cons_zero, List.set_cons_succ]
    refine wpAnyT_done (by kernel_rfl) ?_ _
    obtain ⟨W3, hW3⟩ : ∃ W3, w1.setCell ⟨b, 14, none⟩ (.int .i64 M) = W3 := ⟨_, rfl⟩
    try rw [hW3]
    have hsc3 : ScAt W3 b (upd c2 14 M) := by rw [← hW3]; exact HV0.out.set 14 (by decide) _
    have HO3 : Hid (Ofw (fun k => k = b) w W3) := by rw [← hW3]; exact HV1.out.trans (Ofw.set (S := fun k => k = b) _ rfl)
    obtain ⟨c3, hc3⟩ : ∃ c3, upd c2 14 M = c3 := ⟨_, rfl⟩
    have HC3 : Hid (upd c2 14 (max (c2 14) (wrap64 (wrap64 (wrap64 (c2 3 + c2 4) + c2 11) - c2 13))) = c3) := by rw [HM.out]; exact hc3
    rw [hc3] at hsc3
    have HS3 : Hid (ScAt W3 b c3) := hsc3
    have m15 : W3.cell? ⟨b, 15, none⟩ = some (.int .i64 (c3 15)) := hsc3.cell 15 (by decide)
    have f15 : W3.frozen? ⟨b, 15, none⟩ = false := hsc3.frozen 15
    clear hM hW3 hc3 hsc3 HV0 HV1 hHeld fr HU0 HU1
    have hlay : Hid (lay1 c k il s.size = upd c3 15 (max (c3 15) (s.size : Int))) := by
      show _ = _
      dsimp only [lay1]
      rw [HC1.out, HC2.out, HC3.out]
    by_cases hml : c3 15 < (s.size : Int)
    · go_wp2_with fail
      go_end0
      refine ⟨rfl, ?_, HO3.out.trans (Ofw.set (S := fun k => k = b) _ rfl)⟩
      rw [hlay.out, ← go_max, if_pos (by omega)]
      exact HS3.out.set 15 (by decide) _
    · go_wp2_with fail
      go_end0
      refine ⟨rfl, ?_, HO3.out.trans (Ofw.set (S := fun k => k = b) _ rfl)⟩
      rw [hlay.out, ← go_max, if_neg (by omega)]
      exact HS3.out.set 15 (by decide) _
  case pos =>
    have hb6 : ((k : Int) == 6) = true := by simpa using hk6
    have l13 : W1.cell? ⟨b, 13, none⟩ = some (.int .i64 (c1 13)) := HS1.out.cell 13 (by decide)
    have l13f : W1.frozen? ⟨b, 13, none⟩ = false := HS1.out.frozen 13
    go_wp2_with fail
    go_region
    obtain ⟨W2, hW2⟩ : ∃ W2, (W1.setCell ⟨b, 13, none⟩ (.int .i64 (wrap64 (c1 13 + (il : Int))))).drew = W2 := ⟨_, rfl⟩
    rw [hW2]
    obtain ⟨c2, hc2⟩ : ∃ c2, upd c1 13 (wrap64 (c1 13 + (il : Int))) = c2 := ⟨_, rfl⟩
    have HC2 : Hid ((if k = 6 then upd c1 13 (wrap64 (c1 13 + (il : Int))) else c1) = c2) := by
      show _ = _
      rw [if_pos (by omega)]; exact hc2
    have HS2 : Hid (ScAt W2 b c2) := by rw [← hW2, ← hc2]; exact HS1.out.set 13 (by decide) _
    have HO2 : Hid (Ofw (fun k => k = b) w W2) := by rw [← hW2]; exact (HO1.out.trans (Ofw.set (S := fun k => k = b) _ rfl)).trans (Ofw.of_below (Below.refl _ _).drew)
    clear hc2 hW2 l0 l6 l13 l13f
    go_wp2_with fail
    have HRw : Hid (∀ w', ScAt w' b c2 → Calls Tryz.prog 20 #[.pointer (some ⟨b, 0, none⟩)] w' fun e w'' => e = .returned (.int .i64 (wrap64 (wrap64 (c2 3 + c2 4) + c2 11))) ∧ Below w'.heap.size w' w'') := fun w' h => rows_any b c2 w' h
    have HU0 : Hid (ScAt W2.drew b c2) := HS2.out.below (Below.refl _ _).drew
    have HU1 : Hid (Ofw (fun k => k = b) w W2.drew) := HO2.out.trans (Ofw.of_below (Below.refl _ _).drew)
    obtain ⟨M, hM⟩ : ∃ M, max (c2 14) (wrap64 (wrap64 (wrap64 (c2 3 + c2 4) + c2 11) - c2 13)) = M := ⟨_, rfl⟩
    have HM : Hid (max (c2 14) (wrap64 (wrap64 (wrap64 (c2 3 + c2 4) + c2 11) - c2 13)) = M) := hM
    refine wp_region_T (fun _ => True) (fun w' => w'.cell? ⟨b, 13, none⟩ = some (.int .i64 (c2 13)) ∧ w'.cell? ⟨b, 14, none⟩ = some (.int .i64 (c2 14))) [17] (by kernel_rfl) ⟨trivial, HU0.out.cell 13 (by decide), HU0.out.cell 14 (by decide)⟩ (fun hHeld => ?_)
    generalize W2.drew = U at HU0 HU1 hHeld ⊢
    refine wpAnyT_takeB (i := 0) (oi := ⟨some 30, .move (.tmp 0), _, _, _, _⟩) (v := ?vR4c2x0) rfl (by kernel_rfl) (by kernel_rfl) (by kernel_rfl) (by kernel_rfl) (fun _ _ _ h => h) (Or.inl ⟨by rfl, ?hyR4c2x0⟩) (by assumption) ?restR4c2x0
    case hyR4c2x0 => (intro w hSw; (try dsimp only at hSw); go_simp; try (with_reducible rfl))
    try simp only [Act.put, List.setIfInBounds_toArray, List.set_cons_zero, List.set_cons_succ]
    refine wpAnyT_takeB (i := 1) (oi := ⟨some 31, .move (.tmp 0), _, _, _, _⟩) (v := ?vR4c2x1) rfl (by kernel_rfl) (by kernel_rfl) (by kernel_rfl) (by kernel_rfl) (fun _ _ _ h => h) (Or.inl ⟨by rfl, ?hyR4c2x1⟩) (by assumption) ?restR4c2x1
    case hyR4c2x1 => (intro w hSw; (try dsimp only at hSw); go_simp; try (with_reducible rfl))
    try simp only [Act.put, List.setIfInBounds_toArray, List.set_cons_zero, List.set_cons_succ]
    refine wpAnyT_takeB (i := 2) (oi := ⟨some 32, .nilCheck (.tmp 31), _, _, _, _⟩) (v := ?vR4c2x2) rfl (by kernel_rfl) (by kernel_rfl) (by kernel_rfl) (by kernel_rfl) (fun _ _ _ h => h) (Or.inl ⟨by rfl, ?hyR4c2x2⟩) (by assumption) ?restR4c2x2
    case hyR4c2x2 => (intro w hSw; (try dsimp only at hSw); go_simp; try (with_reducible rfl))
    try simp only [Act.put, List.setIfInBounds_toArray, List.set_cons_zero, List.set_cons_succ]
    refine wpAnyT_takeB (i := 3) (oi := ⟨some 33, .fieldAddr 52 (.tmp 32) 2, _, _, _, _⟩) (v := ?vR4c2x3) rfl (by kernel_rfl) (by kernel_rfl) (by kernel_rfl) (by kernel_rfl) (fun _ _ _ h => h) (Or.inl ⟨by rfl, ?hyR4c2x3⟩) (by assumption) ?restR4c2x3
    case hyR4c2x3 => (intro w hSw; (try dsimp only at hSw); go_simp; try (with_reducible rfl))
    try simp only [Act.put, List.setIfInBounds_toArray, List.set_cons_zero, List.set_cons_succ]
    refine wpAnyT_take (i := 4) (oi := ⟨some 34, .load 3 (.tmp 33), _, _, _, _⟩) (v := ?vR4c2x4) rfl (by kernel_rfl) (by kernel_rfl) (by kernel_rfl) (by kernel_rfl) (by kernel_rfl) (fun _ _ _ h => h) (Or.inl ⟨by rfl, ?hyR4c2x4⟩) (by assumption) ?restR4c2x4
    case hyR4c2x4 => (intro w hSw; (try dsimp only at hSw); go_simp; try (with_reducible rfl))
    try simp only [Act.put, List.setIfInBounds_toArray, List.set_cons_zero, List.set_cons_succ]
    refine wpAnyT_takeB (i := 5) (oi := ⟨some 35, .move (.tmp 0), _, _, _, _⟩) (v := ?vR4c2x5) rfl (by kernel_rfl) (by kernel_rfl) (by kernel_rfl) (by kernel_rfl) (fun _ _ _ h => h) (Or.inl ⟨by rfl, ?hyR4c2x5⟩) (by assumption) ?restR4c2x5
    case hyR4c2x5 => (intro w hSw; (try dsimp only at hSw); go_simp; try (with_reducible rfl))
    try simp only [Act.put, List.setIfInBounds_toArray, List.set_cons_zero, List.set_cons_succ]
    refine wpAnyT_takeB (i := 6) (oi := ⟨some 36, .nilCheck (.tmp 35), _, _, _, _⟩) (v := ?vR4c2x6) rfl (by kernel_rfl) (by kernel_rfl) (by kernel_rfl) (by kernel_rfl) (fun _ _ _ h => h) (Or.inl ⟨by rfl, ?hyR4c2x6⟩) (by assumption) ?restR4c2x6
    case hyR4c2x6 => (intro w hSw; (try dsimp only at hSw); go_simp; try (with_reducible rfl))
    try simp only [Act.put, List.setIfInBounds_toArray, List.set_cons_zero, List.set_cons_succ]
    refine wpAnyT_takeB (i := 7) (oi := ⟨some 37, .fieldAddr 52 (.tmp 36) 0, _, _, _, _⟩) (v := ?vR4c2x7) rfl (by kernel_rfl) (by kernel_rfl) (by kernel_rfl) (by kernel_rfl) (fun _ _ _ h => h) (Or.inl ⟨by rfl, ?hyR4c2x7⟩) (by assumption) ?restR4c2x7
    case hyR4c2x7 => (intro w hSw; (try dsimp only at hSw); go_simp; try (with_reducible rfl))
    try simp only [Act.put, List.setIfInBounds_toArray, List.set_cons_zero, List.set_cons_succ]
    refine wpAnyT_takeB (i := 9) (oi := ⟨some 39, .move (.tmp 0), _, _, _, _⟩) (v := ?vR4c2x9) rfl (by kernel_rfl) (by kernel_rfl) (by kernel_rfl) (by kernel_rfl) (fun _ _ _ h => h) (Or.inl ⟨by rfl, ?hyR4c2x9⟩) (by assumption) ?restR4c2x9
    case hyR4c2x9 => (intro w hSw; (try dsimp only at hSw); go_simp; try (with_reducible rfl))
    try simp only [Act.put, List.setIfInBounds_toArray, List.set_cons_zero, List.set_cons_succ]
    refine wpAnyT_takeB (i := 10) (oi := ⟨some 40, .nilCheck (.tmp 39), _, _, _, _⟩) (v := ?vR4c2x10) rfl (by kernel_rfl) (by kernel_rfl) (by kernel_rfl) (by kernel_rfl) (fun _ _ _ h => h) (Or.inl ⟨by rfl, ?hyR4c2x10⟩) (by assumption) ?restR4c2x10
    case hyR4c2x10 => (intro w hSw; (try dsimp only at hSw); go_simp; try (with_reducible rfl))
    try simp only [Act.put, List.setIfInBounds_toArray, List.set_cons_zero, List.set_cons_succ]
    refine wpAnyT_takeB (i := 11) (oi := ⟨some 41, .fieldAddr 52 (.tmp 40) 1, _, _, _, _⟩) (v := ?vR4c2x11) rfl (by kernel_rfl) (by kernel_rfl) (by kernel_rfl) (by kernel_rfl) (fun _ _ _ h => h) (Or.inl ⟨by rfl, ?hyR4c2x11⟩) (by assumption) ?restR4c2x11
    case hyR4c2x11 => (intro w hSw; (try dsimp only at hSw); go_simp; try (with_reducible rfl))
    try simp only [Act.put, List.setIfInBounds_toArray, List.set_cons_zero, List.set_cons_succ]
    refine wpAnyT_take (i := 12) (oi := ⟨some 42, .load 3 (.tmp 41), _, _, _, _⟩) (v := ?vR4c2x12) rfl (by kernel_rfl) (by kernel_rfl) (by kernel_rfl) (by kernel_rfl) (by kernel_rfl) (fun _ _ _ h => h) (Or.inl ⟨by rfl, ?hyR4c2x12⟩) (by assumption) ?restR4c2x12
    case hyR4c2x12 => (intro w hSw; (try dsimp only at hSw); go_simp; try (with_reducible rfl))
    try simp only [Act.put, List.setIfInBounds_toArray, List.set_cons_zero, List.set_cons_succ]
    refine wpAnyT_one (i := 8) (o := ⟨some 38, .call { callee := .value (.func 20), args := #[(.tmp 37)], argTypes := #[50] }, _, _, _, _⟩) (by kernel_rfl) rfl (fun K hK => ?_)
    go_simp
    refine calls_at (HRw.out U HU0.out) (by with_reducible rfl) (by with_reducible rfl) ?_
    rintro e w1 ⟨rfl, hb1⟩
    have HV0 : Hid (ScAt w1 b c2) := HU0.out.below hb1
    have HV1 : Hid (Ofw (fun k => k = b) w w1) := HU1.out.trans (Ofw.of_below hb1)
    clear hb1 HRw
    go_wp2_with fail
    have fr : w1.frozen? ⟨b, 14, none⟩ = false := HV0.out.frozen 14
    refine hK.out _ _ ⟨trivial, fun _ => ⟨HV0.out.cell 13 (by decide), HV0.out.cell 14 (by decide)⟩⟩ ?_
    have hHeld := (⟨trivial, HV0.out.cell 13 (by decide), HV0.out.cell 14 (by decide)⟩ : True ∧ _ ∧ _)
    clear hK K
    try simp only [Act.put, List.setIfInBounds_toArray, List.set_cons_zero, List.set_cons_succ]
    refine wpAnyT_takeB (i := 13) (oi := ⟨some 43, .binOp .sub 3 (.tmp 38) (.tmp 42) 3, _, _, _, _⟩) (v := ?vR4c2x13) rfl (by kernel_rfl) (by kernel_rfl) (by kernel_rfl) (by kernel_rfl) (fun _ _ _ h => h) (Or.inl ⟨by rfl, ?hyR4c2x13⟩) (by assumption) ?restR4c2x13
    case hyR4c2x13 => (intro w hSw; (try dsimp only at hSw); go_simp; try (with_reducible rfl))
    try simp only [Act.put, List.setIfInBounds_toArray, List.set_cons_zero, List.set_cons_succ]
    refine wpAnyT_takeB (i := 14) (oi := ⟨some 44, .call { callee := .builtin .max, args := #[(.tmp 34), (.tmp 43)], argTypes := #[3, 3] }, _, _, _, _⟩) (v := .int .i64 M) rfl (by kernel_rfl) (by kernel_rfl) (by kernel_rfl) (by kernel_rfl) (fun _ _ _ h => h) (Or.inl ⟨by rfl, ?hyR4c2x14⟩) (by assumption) ?restR4c2x14
    case hyR4c2x14 => (intro w hSw; go_simp; first | (rw [wr64, go_max]; exact HM.out) | (rw [wr64]; exact HM.out) | exact HM.out)
    try simp only [Act.put, List.setIfInBounds_toArray, List.set_cons_zero, List.set_cons_succ]
    refine wpAnyT_takeB (i := 15) (oi := ⟨some 45, .nilCheck (.tmp 30), _, _, _, _⟩) (v := ?vR4c2x15) rfl (by kernel_rfl) (by kernel_rfl) (by kernel_rfl) (by kernel_rfl) (fun _ _ _ h => h) (Or.inl ⟨by rfl, ?hyR4c2x15⟩) (by assumption) ?restR4c2x15
    case hyR4c2x15 => (intro w hSw; (try dsimp only at hSw); go_simp; try (with_reducible rfl))
    try simp only [Act.put, List.setIfInBounds_toArray, List.set_cons_zero, List.set_cons_succ]
    refine wpAnyT_takeB (i := 16) (oi := ⟨some 46, .fieldAddr 52 (.tmp 45) 2, _, _, _, _⟩) (v := ?vR4c2x16) rfl (by kernel_rfl) (by kernel_rfl) (by kernel_rfl) (by kernel_rfl) (fun _ _ _ h => h) (Or.inl ⟨by rfl, ?hyR4c2x16⟩) (by assumption) ?restR4c2x16
    case hyR4c2x16 => (intro w hSw; (try dsimp only at hSw); go_simp; try (with_reducible rfl))
    try simp only [Act.put, List.setIfInBounds_toArray, List.set_cons_zero, List.set_cons_succ]
    refine wpAnyT_late (i := 17) (o := ⟨none, .store 3 (.tmp 46) (.tmp 44), _, _, _, _⟩) (by kernel_rfl) rfl (by kernel_rfl) (fun K hK => ?_)
    go_simp
    refine hK.out _ _ ?shR4c2x17 ?restR4c2x17
    case shR4c2x17 => ((try dsimp only); try trivial)
    clear hK K
    try simp only [Act.put, List.setIfInBounds_toArray, List.set_cons_zero, List.set_cons_succ]
    refine wpAnyT_done (by kernel_rfl) ?_ _
    obtain ⟨W3, hW3⟩ : ∃ W3, w1.setCell ⟨b, 14, none⟩ (.int .i64 M) = W3 := ⟨_, rfl⟩
    try rw [hW3]
    have hsc3 : ScAt W3 b (upd c2 14 M) := by rw [← hW3]; exact HV0.out.set 14 (by decide) _
    have HO3 : Hid (Ofw (fun k => k = b) w W3) := by rw [← hW3]; exact HV1.out.trans (Ofw.set (S := fun k => k = b) _ rfl)
    obtain ⟨c3, hc3⟩ : ∃ c3, upd c2 14 M = c3 := ⟨_, rfl⟩
    have HC3 : Hid (upd c2 14 (max (c2 14) (wrap64 (wrap64 (wrap64 (c2 3 + c2 4) + c2 11) - c2 13))) = c3) := by rw [HM.out]; exact hc3
    rw [hc3] at hsc3
    have HS3 : Hid (ScAt W3 b c3) := hsc3
    have m15 : W3.cell? ⟨b, 15, none⟩ = some (.int .i64 (c3 15)) := hsc3.cell 15 (by decide)
    have f15 : W3.frozen? ⟨b, 15, none⟩ = false := hsc3.frozen 15
    clear hM hW3 hc3 hsc3 HV0 HV1 hHeld fr HU0 HU1
    have hlay : Hid (lay1 c k il s.size = upd c3 15 (max (c3 15) (s.size : Int))) := by
      show _ = _
      dsimp only [lay1]
      rw [HC1.out, HC2.out, HC3.out]
    by_cases hml : c3 15 < (s.size : Int)
    · go_wp2_with fail
      go_end0
      refine ⟨rfl, ?_, HO3.out.trans (Ofw.set (S := fun k => k = b) _ rfl)⟩
      rw [hlay.out, ← go_max, if_pos (by omega)]
      exact HS3.out.set 15 (by decide) _
    · go_wp2_with fail
      go_end0
      refine ⟨rfl, ?_, HO3.out.trans (Ofw.set (S := fun k => k = b) _ rfl)⟩
      rw [hlay.out, ← go_max, if_neg (by omega)]
      exact HS3.out.set 15 (by decide) _

end Go.Proofs.YtgckmkdmlaocmaaGreatDoor
