import Derived.Test.YthohnmplbjhjaaaGreatDoorTyRegT
import Derived.Test.YthohnmplbjhjaaaGreatDoorJ36
namespace Go.Proofs.YthohnmplbjhjaaaGreatDoor
open Go Go.RowKit RegT
theorem xv {w : World} {N : Nat} {a0 a1 a2 a3 a4 a5 a6 a7 a8 a9 : Value} {t : TypeId} (h : w.heap[N]? = some (.cells #[a0, a1, a2, a3, a4, a5, a6, a7, a8, a9] t (0, 0))) : w.cell? ⟨N, 0, none⟩ = some a0 ∧ w.cell? ⟨N, 1, none⟩ = some a1 ∧ w.cell? ⟨N, 2, none⟩ = some a2 ∧ w.cell? ⟨N, 3, none⟩ = some a3 ∧ w.cell? ⟨N, 4, none⟩ = some a4 ∧ w.cell? ⟨N, 5, none⟩ = some a5 ∧ w.cell? ⟨N, 6, none⟩ = some a6 ∧ w.cell? ⟨N, 7, none⟩ = some a7 ∧ w.cell? ⟨N, 8, none⟩ = some a8 ∧ w.cell? ⟨N, 9, none⟩ = some a9 :=
  ⟨yc h 0, yc h 1, yc h 2, yc h 3, yc h 4, yc h 5, yc h 6, yc h 7, yc h 8, yc h 9⟩
set_option maxRecDepth 10000 in
set_option maxHeartbeats 2000000 in
theorem y5t {p0 p1 p3 p4 p5 p6 q0 q1 q3 q4 q5 q6 : Int} {pt px pb pr qt qx qb qr : Option Addr} {ptn ptc pxn pxc pbn pbc prn prc qtn qtc qxn qxc qbn qbc qrn qrc : Nat} (w : World) (HA : ∀ w', Below w.heap.size w w' → Calls Tryz.prog 51 #[.agg #[.int .i64 p0, .int .i64 p1, .slice pt ptn ptc, .int .i64 p3, .int .i64 p4, .int .i64 p5, .int .i64 p6, .slice px pxn pxc, .slice pb pbn pbc, .slice pr prn prc]] w' fun e w2 => e = .returned (.agg #[.int .i64 p0, .int .i64 p1, .int .i64 p3, .int .i64 p4, .int .i64 p5, .int .i64 p6]) ∧ Below w'.heap.size w' w2) (HB : ∀ w', Below w.heap.size w w' → Calls Tryz.prog 51 #[.agg #[.int .i64 q0, .int .i64 q1, .slice qt qtn qtc, .int .i64 q3, .int .i64 q4, .int .i64 q5, .int .i64 q6, .slice qx qxn qxc, .slice qb qbn qbc, .slice qr qrn qrc]] w' fun e w2 => e = .returned (.agg #[.int .i64 q0, .int .i64 q1, .int .i64 q3, .int .i64 q4, .int .i64 q5, .int .i64 q6]) ∧ Below w'.heap.size w' w2)
    (HPl : ∀ W, (binOp .eql 122 (.agg #[.int .i64 p0, .int .i64 p1, .int .i64 p3, .int .i64 p4, .int .i64 p5, .int .i64 p6]) (.agg #[.int .i64 q0, .int .i64 q1, .int .i64 q3, .int .i64 q4, .int .i64 q5, .int .i64 q6])).run Tryz.prog W = .ok (.bool false) W) :
    Calls Tryz.prog 31 #[.agg #[.int .i64 p0, .int .i64 p1, .slice pt ptn ptc, .int .i64 p3, .int .i64 p4, .int .i64 p5, .int .i64 p6, .slice px pxn pxc, .slice pb pbn pbc, .slice pr prn prc], .agg #[.int .i64 q0, .int .i64 q1, .slice qt qtn qtc, .int .i64 q3, .int .i64 q4, .int .i64 q5, .int .i64 q6, .slice qx qxn qxc, .slice qb qbn qbc, .slice qr qrn qrc]] w fun e w' => e = .returned (.bool false) ∧ Below w.heap.size w w' := by
  obtain ⟨V, hV⟩ : ∃ V, w.alloc (.cells #[.int .i64 p0, .int .i64 p1, .slice pt ptn ptc, .int .i64 p3, .int .i64 p4, .int .i64 p5, .int .i64 p6, .slice px pxn pxc, .slice pb pbn pbc, .slice pr prn prc] 61) = V := ⟨_, rfl⟩
  obtain ⟨X, hX⟩ : ∃ X, V.alloc (.cells #[.int .i64 q0, .int .i64 q1, .slice qt qtn qtc, .int .i64 q3, .int .i64 q4, .int .i64 q5, .int .i64 q6, .slice qx qxn qxc, .slice qb qbn qbc, .slice qr qrn qrc] 61) = X := ⟨_, rfl⟩
  obtain ⟨N1, hN1⟩ : ∃ N1, w.heap.size = N1 := ⟨_, rfl⟩
  obtain ⟨N2, hN2⟩ : ∃ N2, V.heap.size = N2 := ⟨_, rfl⟩
  have HBX : Hid (Below w.heap.size w X) := by
    show Below _ _ _
    rw [← hX, ← hV]
    exact ((Below.refl _ _).alloc (Nat.le_refl _) _).alloc (by simp) _
  have HHd : Hid (∀ w', Below X.heap.size X w' → (w'.cell? ⟨N1, 0, none⟩ = some (.int .i64 p0) ∧ w'.cell? ⟨N1, 1, none⟩ = some (.int .i64 p1) ∧ w'.cell? ⟨N1, 2, none⟩ = some (.slice pt ptn ptc) ∧ w'.cell? ⟨N1, 3, none⟩ = some (.int .i64 p3) ∧ w'.cell? ⟨N1, 4, none⟩ = some (.int .i64 p4) ∧ w'.cell? ⟨N1, 5, none⟩ = some (.int .i64 p5) ∧ w'.cell? ⟨N1, 6, none⟩ = some (.int .i64 p6) ∧ w'.cell? ⟨N1, 7, none⟩ = some (.slice px pxn pxc) ∧ w'.cell? ⟨N1, 8, none⟩ = some (.slice pb pbn pbc) ∧ w'.cell? ⟨N1, 9, none⟩ = some (.slice pr prn prc)) ∧ (w'.cell? ⟨N2, 0, none⟩ = some (.int .i64 q0) ∧ w'.cell? ⟨N2, 1, none⟩ = some (.int .i64 q1) ∧ w'.cell? ⟨N2, 2, none⟩ = some (.slice qt qtn qtc) ∧ w'.cell? ⟨N2, 3, none⟩ = some (.int .i64 q3) ∧ w'.cell? ⟨N2, 4, none⟩ = some (.int .i64 q4) ∧ w'.cell? ⟨N2, 5, none⟩ = some (.int .i64 q5) ∧ w'.cell? ⟨N2, 6, none⟩ = some (.int .i64 q6) ∧ w'.cell? ⟨N2, 7, none⟩ = some (.slice qx qxn qxc) ∧ w'.cell? ⟨N2, 8, none⟩ = some (.slice qb qbn qbc) ∧ w'.cell? ⟨N2, 9, none⟩ = some (.slice qr qrn qrc))) := fun w' hb => by
    have gV : V.heap[N1]? = some (.cells #[.int .i64 p0, .int .i64 p1, .slice pt ptn ptc, .int .i64 p3, .int .i64 p4, .int .i64 p5, .int .i64 p6, .slice px pxn pxc, .slice pb pbn pbc, .slice pr prn prc] 61 (0, 0)) := by rw [← hV, ← hN1]; exact heap_alloc_new w _
    have gX : X.heap[N2]? = some (.cells #[.int .i64 q0, .int .i64 q1, .slice qt qtn qtc, .int .i64 q3, .int .i64 q4, .int .i64 q5, .int .i64 q6, .slice qx qxn qxc, .slice qb qbn qbc, .slice qr qrn qrc] 61 (0, 0)) := by rw [← hX, ← hN2]; exact heap_alloc_new V _
    have gV1 : X.heap[N1]? = some (.cells #[.int .i64 p0, .int .i64 p1, .slice pt ptn ptc, .int .i64 p3, .int .i64 p4, .int .i64 p5, .int .i64 p6, .slice px pxn pxc, .slice pb pbn pbc, .slice pr prn prc] 61 (0, 0)) := by rw [← hX]; exact (heap_alloc_old V _ (Array.getElem?_eq_some_iff.1 gV).1).trans gV
    exact ⟨xv ((hb.block _ (Array.getElem?_eq_some_iff.1 gV1).1).trans gV1), xv ((hb.block _ (Array.getElem?_eq_some_iff.1 gX).1).trans gX)⟩
  have ZHA : Hid (∀ w', Below X.heap.size X w' → Calls Tryz.prog 51 #[.agg #[.int .i64 p0, .int .i64 p1, .slice pt ptn ptc, .int .i64 p3, .int .i64 p4, .int .i64 p5, .int .i64 p6, .slice px pxn pxc, .slice pb pbn pbc, .slice pr prn prc]] w' fun e w2 => e = .returned (.agg #[.int .i64 p0, .int .i64 p1, .int .i64 p3, .int .i64 p4, .int .i64 p5, .int .i64 p6]) ∧ Below w'.heap.size w' w2) := fun w' hb => HA w' (yj HBX.out hb)
  have ZHB : Hid (∀ w', Below X.heap.size X w' → Calls Tryz.prog 51 #[.agg #[.int .i64 q0, .int .i64 q1, .slice qt qtn qtc, .int .i64 q3, .int .i64 q4, .int .i64 q5, .int .i64 q6, .slice qx qxn qxc, .slice qb qbn qbc, .slice qr qrn qrc]] w' fun e w2 => e = .returned (.agg #[.int .i64 q0, .int .i64 q1, .int .i64 q3, .int .i64 q4, .int .i64 q5, .int .i64 q6]) ∧ Below w'.heap.size w' w2) := fun w' hb => HB w' (yj HBX.out hb)
  clear HA HB
  go_enter Tryz.func31, Tryz.ntmps31
  go_upto_region 1 with fail
  try rw [hV]
  try rw [hN1]
  try rw [hX]
  try rw [hN2]
  clear hV hN1 hX hN2
  have HBd : Hid (Below X.heap.size X X.drew) := (Below.refl _ _).drew
  refine YO (fun w' => (w'.cell? ⟨N1, 0, none⟩ = some (.int .i64 p0) ∧ w'.cell? ⟨N1, 1, none⟩ = some (.int .i64 p1) ∧ w'.cell? ⟨N1, 2, none⟩ = some (.slice pt ptn ptc) ∧ w'.cell? ⟨N1, 3, none⟩ = some (.int .i64 p3) ∧ w'.cell? ⟨N1, 4, none⟩ = some (.int .i64 p4) ∧ w'.cell? ⟨N1, 5, none⟩ = some (.int .i64 p5) ∧ w'.cell? ⟨N1, 6, none⟩ = some (.int .i64 p6) ∧ w'.cell? ⟨N1, 7, none⟩ = some (.slice px pxn pxc) ∧ w'.cell? ⟨N1, 8, none⟩ = some (.slice pb pbn pbc) ∧ w'.cell? ⟨N1, 9, none⟩ = some (.slice pr prn prc)) ∧ (w'.cell? ⟨N2, 0, none⟩ = some (.int .i64 q0) ∧ w'.cell? ⟨N2, 1, none⟩ = some (.int .i64 q1) ∧ w'.cell? ⟨N2, 2, none⟩ = some (.slice qt qtn qtc) ∧ w'.cell? ⟨N2, 3, none⟩ = some (.int .i64 q3) ∧ w'.cell? ⟨N2, 4, none⟩ = some (.int .i64 q4) ∧ w'.cell? ⟨N2, 5, none⟩ = some (.int .i64 q5) ∧ w'.cell? ⟨N2, 6, none⟩ = some (.int .i64 q6) ∧ w'.cell? ⟨N2, 7, none⟩ = some (.slice qx qxn qxc) ∧ w'.cell? ⟨N2, 8, none⟩ = some (.slice qb qbn qbc) ∧ w'.cell? ⟨N2, 9, none⟩ = some (.slice qr qrn qrc))) (fun _ => True) [99] rfl ⟨HHd.out _ HBd.out, trivial⟩ (fun hHeld => ?_)
  generalize X.drew = U at HBd hHeld ⊢
  refine yg (i := 0) (oi := ⟨some 5, .load 61 (.tmp 2), _, _, _, _⟩) (v := ?vR1c1x0) rfl (by kernel_rfl) (by kernel_rfl) (by kernel_rfl) (by kernel_rfl) (fun _ _ _ h => h) (Or.inl ⟨by rfl, ?hyR1c1x0⟩) (by assumption) ?restR1c1x0
  case hyR1c1x0 => (intro w hSw; (try dsimp only at hSw); go_simp; try (with_reducible rfl))
  try simp only [Act.put, List.setIfInBounds_toArray, List.set_cons_zero, List.set_cons_succ]
  refine yg (i := 2) (oi := ⟨some 7, .load 61 (.tmp 3), _, _, _, _⟩) (v := ?vR1c1x2) rfl (by kernel_rfl) (by kernel_rfl) (by kernel_rfl) (by kernel_rfl) (fun _ _ _ h => h) (Or.inl ⟨by rfl, ?hyR1c1x2⟩) (by assumption) ?restR1c1x2
  case hyR1c1x2 => (intro w hSw; (try dsimp only at hSw); go_simp; try (with_reducible rfl))
  try simp only [Act.put, List.setIfInBounds_toArray, List.set_cons_zero, List.set_cons_succ]
  refine zr (i := 1) (o := ⟨some 6, .call { callee := .value (.func 51), args := #[(.tmp 5)], argTypes := #[61] }, _, _, _, _⟩) (by kernel_rfl) rfl (fun K hK => ?_)
  go_simp
  refine cZ (ZHA.out _ HBd.out) ?_
  rintro e w1 ⟨rfl, hbw1⟩
  go_wp2_with fail
  have HB1 : Hid (Below X.heap.size X w1) := yj HBd.out hbw1
  clear hbw1 hHeld
  have hHeld := (⟨HHd.out _ HB1.out, trivial⟩ : _ ∧ True)
  refine hK.out _ _ ⟨hHeld.1, fun _ => trivial⟩ ?_
  clear hK K
  refine zr (i := 3) (o := ⟨some 8, .call { callee := .value (.func 51), args := #[(.tmp 7)], argTypes := #[61] }, _, _, _, _⟩) (by kernel_rfl) rfl (fun K hK => ?_)
  go_simp
  refine cZ (ZHB.out _ HB1.out) ?_
  rintro e w3 ⟨rfl, hbw3⟩
  go_wp2_with fail
  have HB3 : Hid (Below X.heap.size X w3) := yj HB1.out hbw3
  clear hbw3 hHeld
  have hHeld := (⟨HHd.out _ HB3.out, trivial⟩ : _ ∧ True)
  refine hK.out _ _ ⟨hHeld.1, fun _ => trivial⟩ ?_
  clear hK K
  refine yg (i := 4) (oi := ⟨some 9, .binOp .eql 122 (.tmp 6) (.tmp 8) 122, _, _, _, _⟩) (v := ?vR1c1x4) rfl (by kernel_rfl) (by kernel_rfl) (by kernel_rfl) (by kernel_rfl) (fun _ _ _ h => h) (Or.inl ⟨by rfl, ?hyR1c1x4⟩) (by assumption) ?restR1c1x4
  case hyR1c1x4 => (intro w hSw; (try dsimp only at hSw); go_simp; try (with_reducible rfl))
  try simp only [Act.put, List.setIfInBounds_toArray, List.set_cons_zero, List.set_cons_succ]
  refine yg (i := 5) (oi := ⟨some 10, .move (.tmp 9), _, _, _, _⟩) (v := ?vR1c1x5) rfl (by kernel_rfl) (by kernel_rfl) (by kernel_rfl) (by kernel_rfl) (fun _ _ _ h => h) (Or.inl ⟨by rfl, ?hyR1c1x5⟩) (by assumption) ?restR1c1x5
  case hyR1c1x5 => (intro w hSw; (try dsimp only at hSw); go_simp; try (with_reducible rfl))
  try simp only [Act.put, List.setIfInBounds_toArray, List.set_cons_zero, List.set_cons_succ]
  refine yg (i := 6) (oi := ⟨some 11, .fieldAddr 61 (.tmp 2) 2, _, _, _, _⟩) (v := undef) rfl (by kernel_rfl) (by kernel_rfl) (by kernel_rfl) (by kernel_rfl) (fun _ _ _ h => h) (Or.inr ⟨by rfl, rfl⟩) (by assumption) ?restR1c1x6
  try simp only [Act.put, List.setIfInBounds_toArray, List.set_cons_zero, List.set_cons_succ]
  refine yg (i := 7) (oi := ⟨some 12, .load 24 (.tmp 11), _, _, _, _⟩) (v := undef) rfl (by kernel_rfl) (by kernel_rfl) (by kernel_rfl) (by kernel_rfl) (fun _ _ _ h => h) (Or.inr ⟨by rfl, rfl⟩) (by assumption) ?restR1c1x7
  try simp only [Act.put, List.setIfInBounds_toArray, List.set_cons_zero, List.set_cons_succ]
  refine yg (i := 8) (oi := ⟨some 13, .fieldAddr 61 (.tmp 3) 2, _, _, _, _⟩) (v := undef) rfl (by kernel_rfl) (by kernel_rfl) (by kernel_rfl) (by kernel_rfl) (fun _ _ _ h => h) (Or.inr ⟨by rfl, rfl⟩) (by assumption) ?restR1c1x8
  try simp only [Act.put, List.setIfInBounds_toArray, List.set_cons_zero, List.set_cons_succ]
  refine yg (i := 9) (oi := ⟨some 14, .load 24 (.tmp 13), _, _, _, _⟩) (v := undef) rfl (by kernel_rfl) (by kernel_rfl) (by kernel_rfl) (by kernel_rfl) (fun _ _ _ h => h) (Or.inr ⟨by rfl, rfl⟩) (by assumption) ?restR1c1x9
  try simp only [Act.put, List.setIfInBounds_toArray, List.set_cons_zero, List.set_cons_succ]
  refine yg (i := 10) (oi := ⟨some 15, .call { callee := .value (.func 32), args := #[(.tmp 12), (.tmp 14)], argTypes := #[24, 24] }, _, _, _, _⟩) (v := undef) rfl (by kernel_rfl) (by kernel_rfl) (by kernel_rfl) (by kernel_rfl) (fun _ _ _ h => h) (Or.inr ⟨by rfl, rfl⟩) (by assumption) ?restR1c1x10
  try simp only [Act.put, List.setIfInBounds_toArray, List.set_cons_zero, List.set_cons_succ]
  refine yg (i := 11) (oi := ⟨some 16, .pick (.tmp 10) (.tmp 15) ((.const (.bool false))), _, _, _, _⟩) (v := ?vR1c1x11) rfl (by kernel_rfl) (by kernel_rfl) (by kernel_rfl) (by kernel_rfl) (fun _ _ _ h => h) (Or.inl ⟨by rfl, ?hyR1c1x11⟩) (by assumption) ?restR1c1x11
  case hyR1c1x11 => (intro w hSw; (try dsimp only at hSw); go_simp; try (with_reducible rfl))
  try simp only [Act.put, List.setIfInBounds_toArray, List.set_cons_zero, List.set_cons_succ]
  refine yg (i := 12) (oi := ⟨some 17, .move (.tmp 16), _, _, _, _⟩) (v := ?vR1c1x12) rfl (by kernel_rfl) (by kernel_rfl) (by kernel_rfl) (by kernel_rfl) (fun _ _ _ h => h) (Or.inl ⟨by rfl, ?hyR1c1x12⟩) (by assumption) ?restR1c1x12
  case hyR1c1x12 => (intro w hSw; (try dsimp only at hSw); go_simp; try (with_reducible rfl))
  try simp only [Act.put, List.setIfInBounds_toArray, List.set_cons_zero, List.set_cons_succ]
  refine yg (i := 13) (oi := ⟨some 18, .fieldAddr 61 (.tmp 2) 7, _, _, _, _⟩) (v := undef) rfl (by kernel_rfl) (by kernel_rfl) (by kernel_rfl) (by kernel_rfl) (fun _ _ _ h => h) (Or.inr ⟨by rfl, rfl⟩) (by assumption) ?restR1c1x13
  try simp only [Act.put, List.setIfInBounds_toArray, List.set_cons_zero, List.set_cons_succ]
  refine yg (i := 14) (oi := ⟨some 19, .load 58 (.tmp 18), _, _, _, _⟩) (v := undef) rfl (by kernel_rfl) (by kernel_rfl) (by kernel_rfl) (by kernel_rfl) (fun _ _ _ h => h) (Or.inr ⟨by rfl, rfl⟩) (by assumption) ?restR1c1x14
  try simp only [Act.put, List.setIfInBounds_toArray, List.set_cons_zero, List.set_cons_succ]
  refine yg (i := 15) (oi := ⟨some 20, .fieldAddr 61 (.tmp 3) 7, _, _, _, _⟩) (v := undef) rfl (by kernel_rfl) (by kernel_rfl) (by kernel_rfl) (by kernel_rfl) (fun _ _ _ h => h) (Or.inr ⟨by rfl, rfl⟩) (by assumption) ?restR1c1x15
  try simp only [Act.put, List.setIfInBounds_toArray, List.set_cons_zero, List.set_cons_succ]
  refine yg (i := 16) (oi := ⟨some 21, .load 58 (.tmp 20), _, _, _, _⟩) (v := undef) rfl (by kernel_rfl) (by kernel_rfl) (by kernel_rfl) (by kernel_rfl) (fun _ _ _ h => h) (Or.inr ⟨by rfl, rfl⟩) (by assumption) ?restR1c1x16
  try simp only [Act.put, List.setIfInBounds_toArray, List.set_cons_zero, List.set_cons_succ]
  refine yg (i := 17) (oi := ⟨some 22, .call { callee := .value (.func 52), args := #[(.tmp 19), (.tmp 21)], argTypes := #[58, 58] }, _, _, _, _⟩) (v := undef) rfl (by kernel_rfl) (by kernel_rfl) (by kernel_rfl) (by kernel_rfl) (fun _ _ _ h => h) (Or.inr ⟨by rfl, rfl⟩) (by assumption) ?restR1c1x17
  try simp only [Act.put, List.setIfInBounds_toArray, List.set_cons_zero, List.set_cons_succ]
  refine yg (i := 18) (oi := ⟨some 23, .pick (.tmp 17) (.tmp 22) ((.const (.bool false))), _, _, _, _⟩) (v := ?vR1c1x18) rfl (by kernel_rfl) (by kernel_rfl) (by kernel_rfl) (by kernel_rfl) (fun _ _ _ h => h) (Or.inl ⟨by rfl, ?hyR1c1x18⟩) (by assumption) ?restR1c1x18
  case hyR1c1x18 => (intro w hSw; (try dsimp only at hSw); go_simp; try (with_reducible rfl))
  try simp only [Act.put, List.setIfInBounds_toArray, List.set_cons_zero, List.set_cons_succ]
  refine yg (i := 19) (oi := ⟨some 24, .move (.tmp 23), _, _, _, _⟩) (v := ?vR1c1x19) rfl (by kernel_rfl) (by kernel_rfl) (by kernel_rfl) (by kernel_rfl) (fun _ _ _ h => h) (Or.inl ⟨by rfl, ?hyR1c1x19⟩) (by assumption) ?restR1c1x19
  case hyR1c1x19 => (intro w hSw; (try dsimp only at hSw); go_simp; try (with_reducible rfl))
  try simp only [Act.put, List.setIfInBounds_toArray, List.set_cons_zero, List.set_cons_succ]
  refine yg (i := 20) (oi := ⟨some 25, .fieldAddr 61 (.tmp 2) 8, _, _, _, _⟩) (v := undef) rfl (by kernel_rfl) (by kernel_rfl) (by kernel_rfl) (by kernel_rfl) (fun _ _ _ h => h) (Or.inr ⟨by rfl, rfl⟩) (by assumption) ?restR1c1x20
  try simp only [Act.put, List.setIfInBounds_toArray, List.set_cons_zero, List.set_cons_succ]
  refine yg (i := 21) (oi := ⟨some 26, .load 58 (.tmp 25), _, _, _, _⟩) (v := undef) rfl (by kernel_rfl) (by kernel_rfl) (by kernel_rfl) (by kernel_rfl) (fun _ _ _ h => h) (Or.inr ⟨by rfl, rfl⟩) (by assumption) ?restR1c1x21
  try simp only [Act.put, List.setIfInBounds_toArray, List.set_cons_zero, List.set_cons_succ]
  refine yg (i := 22) (oi := ⟨some 27, .fieldAddr 61 (.tmp 3) 8, _, _, _, _⟩) (v := undef) rfl (by kernel_rfl) (by kernel_rfl) (by kernel_rfl) (by kernel_rfl) (fun _ _ _ h => h) (Or.inr ⟨by rfl, rfl⟩) (by assumption) ?restR1c1x22
  try simp only [Act.put, List.setIfInBounds_toArray, List.set_cons_zero, List.set_cons_succ]
  refine yg (i := 23) (oi := ⟨some 28, .load 58 (.tmp 27), _, _, _, _⟩) (v := undef) rfl (by kernel_rfl) (by kernel_rfl) (by kernel_rfl) (by kernel_rfl) (fun _ _ _ h => h) (Or.inr ⟨by rfl, rfl⟩) (by assumption) ?restR1c1x23
  try simp only [Act.put, List.setIfInBounds_toArray, List.set_cons_zero, List.set_cons_succ]
  refine yg (i := 24) (oi := ⟨some 29, .call { callee := .value (.func 52), args := #[(.tmp 26), (.tmp 28)], argTypes := #[58, 58] }, _, _, _, _⟩) (v := undef) rfl (by kernel_rfl) (by kernel_rfl) (by kernel_rfl) (by kernel_rfl) (fun _ _ _ h => h) (Or.inr ⟨by rfl, rfl⟩) (by assumption) ?restR1c1x24
  try simp only [Act.put, List.setIfInBounds_toArray, List.set_cons_zero, List.set_cons_succ]
  refine yg (i := 25) (oi := ⟨some 30, .pick (.tmp 24) (.tmp 29) ((.const (.bool false))), _, _, _, _⟩) (v := ?vR1c1x25) rfl (by kernel_rfl) (by kernel_rfl) (by kernel_rfl) (by kernel_rfl) (fun _ _ _ h => h) (Or.inl ⟨by rfl, ?hyR1c1x25⟩) (by assumption) ?restR1c1x25
  case hyR1c1x25 => (intro w hSw; (try dsimp only at hSw); go_simp; try (with_reducible rfl))
  try simp only [Act.put, List.setIfInBounds_toArray, List.set_cons_zero, List.set_cons_succ]
  refine yg (i := 26) (oi := ⟨some 31, .move (.tmp 30), _, _, _, _⟩) (v := ?vR1c1x26) rfl (by kernel_rfl) (by kernel_rfl) (by kernel_rfl) (by kernel_rfl) (fun _ _ _ h => h) (Or.inl ⟨by rfl, ?hyR1c1x26⟩) (by assumption) ?restR1c1x26
  case hyR1c1x26 => (intro w hSw; (try dsimp only at hSw); go_simp; try (with_reducible rfl))
  try simp only [Act.put, List.setIfInBounds_toArray, List.set_cons_zero, List.set_cons_succ]
  refine yg (i := 27) (oi := ⟨some 32, .fieldAddr 61 (.tmp 2) 9, _, _, _, _⟩) (v := undef) rfl (by kernel_rfl) (by kernel_rfl) (by kernel_rfl) (by kernel_rfl) (fun _ _ _ h => h) (Or.inr ⟨by rfl, rfl⟩) (by assumption) ?restR1c1x27
  try simp only [Act.put, List.setIfInBounds_toArray, List.set_cons_zero, List.set_cons_succ]
  refine yg (i := 28) (oi := ⟨some 33, .load 59 (.tmp 32), _, _, _, _⟩) (v := undef) rfl (by kernel_rfl) (by kernel_rfl) (by kernel_rfl) (by kernel_rfl) (fun _ _ _ h => h) (Or.inr ⟨by rfl, rfl⟩) (by assumption) ?restR1c1x28
  try simp only [Act.put, List.setIfInBounds_toArray, List.set_cons_zero, List.set_cons_succ]
  refine yg (i := 29) (oi := ⟨some 34, .fieldAddr 61 (.tmp 3) 9, _, _, _, _⟩) (v := undef) rfl (by kernel_rfl) (by kernel_rfl) (by kernel_rfl) (by kernel_rfl) (fun _ _ _ h => h) (Or.inr ⟨by rfl, rfl⟩) (by assumption) ?restR1c1x29
  try simp only [Act.put, List.setIfInBounds_toArray, List.set_cons_zero, List.set_cons_succ]
  refine yg (i := 30) (oi := ⟨some 35, .load 59 (.tmp 34), _, _, _, _⟩) (v := undef) rfl (by kernel_rfl) (by kernel_rfl) (by kernel_rfl) (by kernel_rfl) (fun _ _ _ h => h) (Or.inr ⟨by rfl, rfl⟩) (by assumption) ?restR1c1x30
  try simp only [Act.put, List.setIfInBounds_toArray, List.set_cons_zero, List.set_cons_succ]
  refine yg (i := 31) (oi := ⟨some 36, .call { callee := .value (.func 53), args := #[(.tmp 33), (.tmp 35), Operand.func 52], argTypes := #[59, 59, 124] }, _, _, _, _⟩) (v := undef) rfl (by kernel_rfl) (by kernel_rfl) (by kernel_rfl) (by kernel_rfl) (fun _ _ _ h => h) (Or.inr ⟨by rfl, rfl⟩) (by assumption) ?restR1c1x31
  try simp only [Act.put, List.setIfInBounds_toArray, List.set_cons_zero, List.set_cons_succ]
  refine yg (i := 32) (oi := ⟨some 37, .pick (.tmp 31) (.tmp 36) ((.const (.bool false))), _, _, _, _⟩) (v := ?vR1c1x32) rfl (by kernel_rfl) (by kernel_rfl) (by kernel_rfl) (by kernel_rfl) (fun _ _ _ h => h) (Or.inl ⟨by rfl, ?hyR1c1x32⟩) (by assumption) ?restR1c1x32
  case hyR1c1x32 => (intro w hSw; (try dsimp only at hSw); go_simp; try (with_reducible rfl))
  try simp only [Act.put, List.setIfInBounds_toArray, List.set_cons_zero, List.set_cons_succ]
  refine yg (i := 33) (oi := ⟨some 4, .assign (.tmp 37), _, _, _, _⟩) (v := ?vR1c1x33) rfl (by kernel_rfl) (by kernel_rfl) (by kernel_rfl) (by kernel_rfl) (fun _ _ _ h => h) (Or.inl ⟨by rfl, ?hyR1c1x33⟩) (by assumption) ?restR1c1x33
  case hyR1c1x33 => (intro w hSw; (try dsimp only at hSw); go_simp; try (with_reducible rfl))
  try simp only [Act.put, List.setIfInBounds_toArray, List.set_cons_zero, List.set_cons_succ]
  refine YP (by kernel_rfl) ?_ _
  go_wp2_with fail
  go_ret
  exact ⟨rfl, yj HBX.out HB3.out⟩
set_option maxRecDepth 10000 in
set_option maxHeartbeats 2000000 in
theorem y5u {p0 p1 p3 p4 p5 p6 q0 q1 q3 q4 q5 q6 : Int} {pt px pb pr qt qx qb qr : Option Addr} {ptn ptc pxn pxc pbn pbc prn prc qtn qtc qxn qxc qbn qbc qrn qrc : Nat} (w : World) (HA : ∀ w', Below w.heap.size w w' → Calls Tryz.prog 51 #[.agg #[.int .i64 p0, .int .i64 p1, .slice pt ptn ptc, .int .i64 p3, .int .i64 p4, .int .i64 p5, .int .i64 p6, .slice px pxn pxc, .slice pb pbn pbc, .slice pr prn prc]] w' fun e w2 => e = .returned (.agg #[.int .i64 p0, .int .i64 p1, .int .i64 p3, .int .i64 p4, .int .i64 p5, .int .i64 p6]) ∧ Below w'.heap.size w' w2) (HB : ∀ w', Below w.heap.size w w' → Calls Tryz.prog 51 #[.agg #[.int .i64 q0, .int .i64 q1, .slice qt qtn qtc, .int .i64 q3, .int .i64 q4, .int .i64 q5, .int .i64 q6, .slice qx qxn qxc, .slice qb qbn qbc, .slice qr qrn qrc]] w' fun e w2 => e = .returned (.agg #[.int .i64 q0, .int .i64 q1, .int .i64 q3, .int .i64 q4, .int .i64 q5, .int .i64 q6]) ∧ Below w'.heap.size w' w2)
    (HPl : ∀ W, (binOp .eql 122 (.agg #[.int .i64 p0, .int .i64 p1, .int .i64 p3, .int .i64 p4, .int .i64 p5, .int .i64 p6]) (.agg #[.int .i64 q0, .int .i64 q1, .int .i64 q3, .int .i64 q4, .int .i64 q5, .int .i64 q6])).run Tryz.prog W = .ok (.bool true) W)
    (Ht : ∀ w', Below w.heap.size w w' → Calls Tryz.prog 32 #[.slice pt ptn ptc, .slice qt qtn qtc] w' fun e w2 => e = .returned (.bool false) ∧ Below w'.heap.size w' w2) :
    Calls Tryz.prog 31 #[.agg #[.int .i64 p0, .int .i64 p1, .slice pt ptn ptc, .int .i64 p3, .int .i64 p4, .int .i64 p5, .int .i64 p6, .slice px pxn pxc, .slice pb pbn pbc, .slice pr prn prc], .agg #[.int .i64 q0, .int .i64 q1, .slice qt qtn qtc, .int .i64 q3, .int .i64 q4, .int .i64 q5, .int .i64 q6, .slice qx qxn qxc, .slice qb qbn qbc, .slice qr qrn qrc]] w fun e w' => e = .returned (.bool false) ∧ Below w.heap.size w w' := by
  obtain ⟨V, hV⟩ : ∃ V, w.alloc (.cells #[.int .i64 p0, .int .i64 p1, .slice pt ptn ptc, .int .i64 p3, .int .i64 p4, .int .i64 p5, .int .i64 p6, .slice px pxn pxc, .slice pb pbn pbc, .slice pr prn prc] 61) = V := ⟨_, rfl⟩
  obtain ⟨X, hX⟩ : ∃ X, V.alloc (.cells #[.int .i64 q0, .int .i64 q1, .slice qt qtn qtc, .int .i64 q3, .int .i64 q4, .int .i64 q5, .int .i64 q6, .slice qx qxn qxc, .slice qb qbn qbc, .slice qr qrn qrc] 61) = X := ⟨_, rfl⟩
  obtain ⟨N1, hN1⟩ : ∃ N1, w.heap.size = N1 := ⟨_, rfl⟩
  obtain ⟨N2, hN2⟩ : ∃ N2, V.heap.size = N2 := ⟨_, rfl⟩
  have HBX : Hid (Below w.heap.size w X) := by
    show Below _ _ _
    rw [← hX, ← hV]
    exact ((Below.refl _ _).alloc (Nat.le_refl _) _).alloc (by simp) _
  have HHd : Hid (∀ w', Below X.heap.size X w' → (w'.cell? ⟨N1, 0, none⟩ = some (.int .i64 p0) ∧ w'.cell? ⟨N1, 1, none⟩ = some (.int .i64 p1) ∧ w'.cell? ⟨N1, 2, none⟩ = some (.slice pt ptn ptc) ∧ w'.cell? ⟨N1, 3, none⟩ = some (.int .i64 p3) ∧ w'.cell? ⟨N1, 4, none⟩ = some (.int .i64 p4) ∧ w'.cell? ⟨N1, 5, none⟩ = some (.int .i64 p5) ∧ w'.cell? ⟨N1, 6, none⟩ = some (.int .i64 p6) ∧ w'.cell? ⟨N1, 7, none⟩ = some (.slice px pxn pxc) ∧ w'.cell? ⟨N1, 8, none⟩ = some (.slice pb pbn pbc) ∧ w'.cell? ⟨N1, 9, none⟩ = some (.slice pr prn prc)) ∧ (w'.cell? ⟨N2, 0, none⟩ = some (.int .i64 q0) ∧ w'.cell? ⟨N2, 1, none⟩ = some (.int .i64 q1) ∧ w'.cell? ⟨N2, 2, none⟩ = some (.slice qt qtn qtc) ∧ w'.cell? ⟨N2, 3, none⟩ = some (.int .i64 q3) ∧ w'.cell? ⟨N2, 4, none⟩ = some (.int .i64 q4) ∧ w'.cell? ⟨N2, 5, none⟩ = some (.int .i64 q5) ∧ w'.cell? ⟨N2, 6, none⟩ = some (.int .i64 q6) ∧ w'.cell? ⟨N2, 7, none⟩ = some (.slice qx qxn qxc) ∧ w'.cell? ⟨N2, 8, none⟩ = some (.slice qb qbn qbc) ∧ w'.cell? ⟨N2, 9, none⟩ = some (.slice qr qrn qrc))) := fun w' hb => by
    have gV : V.heap[N1]? = some (.cells #[.int .i64 p0, .int .i64 p1, .slice pt ptn ptc, .int .i64 p3, .int .i64 p4, .int .i64 p5, .int .i64 p6, .slice px pxn pxc, .slice pb pbn pbc, .slice pr prn prc] 61 (0, 0)) := by rw [← hV, ← hN1]; exact heap_alloc_new w _
    have gX : X.heap[N2]? = some (.cells #[.int .i64 q0, .int .i64 q1, .slice qt qtn qtc, .int .i64 q3, .int .i64 q4, .int .i64 q5, .int .i64 q6, .slice qx qxn qxc, .slice qb qbn qbc, .slice qr qrn qrc] 61 (0, 0)) := by rw [← hX, ← hN2]; exact heap_alloc_new V _
    have gV1 : X.heap[N1]? = some (.cells #[.int .i64 p0, .int .i64 p1, .slice pt ptn ptc, .int .i64 p3, .int .i64 p4, .int .i64 p5, .int .i64 p6, .slice px pxn pxc, .slice pb pbn pbc, .slice pr prn prc] 61 (0, 0)) := by rw [← hX]; exact (heap_alloc_old V _ (Array.getElem?_eq_some_iff.1 gV).1).trans gV
    exact ⟨xv ((hb.block _ (Array.getElem?_eq_some_iff.1 gV1).1).trans gV1), xv ((hb.block _ (Array.getElem?_eq_some_iff.1 gX).1).trans gX)⟩
  have ZHA : Hid (∀ w', Below X.heap.size X w' → Calls Tryz.prog 51 #[.agg #[.int .i64 p0, .int .i64 p1, .slice pt ptn ptc, .int .i64 p3, .int .i64 p4, .int .i64 p5, .int .i64 p6, .slice px pxn pxc, .slice pb pbn pbc, .slice pr prn prc]] w' fun e w2 => e = .returned (.agg #[.int .i64 p0, .int .i64 p1, .int .i64 p3, .int .i64 p4, .int .i64 p5, .int .i64 p6]) ∧ Below w'.heap.size w' w2) := fun w' hb => HA w' (yj HBX.out hb)
  have ZHB : Hid (∀ w', Below X.heap.size X w' → Calls Tryz.prog 51 #[.agg #[.int .i64 q0, .int .i64 q1, .slice qt qtn qtc, .int .i64 q3, .int .i64 q4, .int .i64 q5, .int .i64 q6, .slice qx qxn qxc, .slice qb qbn qbc, .slice qr qrn qrc]] w' fun e w2 => e = .returned (.agg #[.int .i64 q0, .int .i64 q1, .int .i64 q3, .int .i64 q4, .int .i64 q5, .int .i64 q6]) ∧ Below w'.heap.size w' w2) := fun w' hb => HB w' (yj HBX.out hb)
  have ZHt : Hid (∀ w', Below X.heap.size X w' → Calls Tryz.prog 32 #[.slice pt ptn ptc, .slice qt qtn qtc] w' fun e w2 => e = .returned (.bool false) ∧ Below w'.heap.size w' w2) := fun w' hb => Ht w' (yj HBX.out hb)
  clear HA HB Ht
  go_enter Tryz.func31, Tryz.ntmps31
  go_upto_region 1 with fail
  try rw [hV]
  try rw [hN1]
  try rw [hX]
  try rw [hN2]
  clear hV hN1 hX hN2
  have HBd : Hid (Below X.heap.size X X.drew) := (Below.refl _ _).drew
  refine YO (fun w' => (w'.cell? ⟨N1, 0, none⟩ = some (.int .i64 p0) ∧ w'.cell? ⟨N1, 1, none⟩ = some (.int .i64 p1) ∧ w'.cell? ⟨N1, 2, none⟩ = some (.slice pt ptn ptc) ∧ w'.cell? ⟨N1, 3, none⟩ = some (.int .i64 p3) ∧ w'.cell? ⟨N1, 4, none⟩ = some (.int .i64 p4) ∧ w'.cell? ⟨N1, 5, none⟩ = some (.int .i64 p5) ∧ w'.cell? ⟨N1, 6, none⟩ = some (.int .i64 p6) ∧ w'.cell? ⟨N1, 7, none⟩ = some (.slice px pxn pxc) ∧ w'.cell? ⟨N1, 8, none⟩ = some (.slice pb pbn pbc) ∧ w'.cell? ⟨N1, 9, none⟩ = some (.slice pr prn prc)) ∧ (w'.cell? ⟨N2, 0, none⟩ = some (.int .i64 q0) ∧ w'.cell? ⟨N2, 1, none⟩ = some (.int .i64 q1) ∧ w'.cell? ⟨N2, 2, none⟩ = some (.slice qt qtn qtc) ∧ w'.cell? ⟨N2, 3, none⟩ = some (.int .i64 q3) ∧ w'.cell? ⟨N2, 4, none⟩ = some (.int .i64 q4) ∧ w'.cell? ⟨N2, 5, none⟩ = some (.int .i64 q5) ∧ w'.cell? ⟨N2, 6, none⟩ = some (.int .i64 q6) ∧ w'.cell? ⟨N2, 7, none⟩ = some (.slice qx qxn qxc) ∧ w'.cell? ⟨N2, 8, none⟩ = some (.slice qb qbn qbc) ∧ w'.cell? ⟨N2, 9, none⟩ = some (.slice qr qrn qrc))) (fun _ => True) [99] rfl ⟨HHd.out _ HBd.out, trivial⟩ (fun hHeld => ?_)
  generalize X.drew = U at HBd hHeld ⊢
  refine yg (i := 0) (oi := ⟨some 5, .load 61 (.tmp 2), _, _, _, _⟩) (v := ?vR1c2x0) rfl (by kernel_rfl) (by kernel_rfl) (by kernel_rfl) (by kernel_rfl) (fun _ _ _ h => h) (Or.inl ⟨by rfl, ?hyR1c2x0⟩) (by assumption) ?restR1c2x0
  case hyR1c2x0 => (intro w hSw; (try dsimp only at hSw); go_simp; try (with_reducible rfl))
  try simp only [Act.put, List.setIfInBounds_toArray, List.set_cons_zero, List.set_cons_succ]
  refine yg (i := 2) (oi := ⟨some 7, .load 61 (.tmp 3), _, _, _, _⟩) (v := ?vR1c2x2) rfl (by kernel_rfl) (by kernel_rfl) (by kernel_rfl) (by kernel_rfl) (fun _ _ _ h => h) (Or.inl ⟨by rfl, ?hyR1c2x2⟩) (by assumption) ?restR1c2x2
  case hyR1c2x2 => (intro w hSw; (try dsimp only at hSw); go_simp; try (with_reducible rfl))
  try simp only [Act.put, List.setIfInBounds_toArray, List.set_cons_zero, List.set_cons_succ]
  refine zr (i := 1) (o := ⟨some 6, .call { callee := .value (.func 51), args := #[(.tmp 5)], argTypes := #[61] }, _, _, _, _⟩) (by kernel_rfl) rfl (fun K hK => ?_)
  go_simp
  refine cZ (ZHA.out _ HBd.out) ?_
  rintro e w1 ⟨rfl, hbw1⟩
  go_wp2_with fail
  have HB1 : Hid (Below X.heap.size X w1) := yj HBd.out hbw1
  clear hbw1 hHeld
  have hHeld := (⟨HHd.out _ HB1.out, trivial⟩ : _ ∧ True)
  refine hK.out _ _ ⟨hHeld.1, fun _ => trivial⟩ ?_
  clear hK K
  refine zr (i := 3) (o := ⟨some 8, .call { callee := .value (.func 51), args := #[(.tmp 7)], argTypes := #[61] }, _, _, _, _⟩) (by kernel_rfl) rfl (fun K hK => ?_)
  go_simp
  refine cZ (ZHB.out _ HB1.out) ?_
  rintro e w3 ⟨rfl, hbw3⟩
  go_wp2_with fail
  have HB3 : Hid (Below X.heap.size X w3) := yj HB1.out hbw3
  clear hbw3 hHeld
  have hHeld := (⟨HHd.out _ HB3.out, trivial⟩ : _ ∧ True)
  refine hK.out _ _ ⟨hHeld.1, fun _ => trivial⟩ ?_
  clear hK K
  refine yg (i := 4) (oi := ⟨some 9, .binOp .eql 122 (.tmp 6) (.tmp 8) 122, _, _, _, _⟩) (v := ?vR1c2x4) rfl (by kernel_rfl) (by kernel_rfl) (by kernel_rfl) (by kernel_rfl) (fun _ _ _ h => h) (Or.inl ⟨by rfl, ?hyR1c2x4⟩) (by assumption) ?restR1c2x4
  case hyR1c2x4 => (intro w hSw; (try dsimp only at hSw); go_simp; try (with_reducible rfl))
  try simp only [Act.put, List.setIfInBounds_toArray, List.set_cons_zero, List.set_cons_succ]
  refine yg (i := 5) (oi := ⟨some 10, .move (.tmp 9), _, _, _, _⟩) (v := ?vR1c2x5) rfl (by kernel_rfl) (by kernel_rfl) (by kernel_rfl) (by kernel_rfl) (fun _ _ _ h => h) (Or.inl ⟨by rfl, ?hyR1c2x5⟩) (by assumption) ?restR1c2x5
  case hyR1c2x5 => (intro w hSw; (try dsimp only at hSw); go_simp; try (with_reducible rfl))
  try simp only [Act.put, List.setIfInBounds_toArray, List.set_cons_zero, List.set_cons_succ]
  refine yg (i := 6) (oi := ⟨some 11, .fieldAddr 61 (.tmp 2) 2, _, _, _, _⟩) (v := ?vR1c2x6) rfl (by kernel_rfl) (by kernel_rfl) (by kernel_rfl) (by kernel_rfl) (fun _ _ _ h => h) (Or.inl ⟨by rfl, ?hyR1c2x6⟩) (by assumption) ?restR1c2x6
  case hyR1c2x6 => (intro w hSw; (try dsimp only at hSw); go_simp; try (with_reducible rfl))
  try simp only [Act.put, List.setIfInBounds_toArray, List.set_cons_zero, List.set_cons_succ]
  refine yg (i := 7) (oi := ⟨some 12, .load 24 (.tmp 11), _, _, _, _⟩) (v := ?vR1c2x7) rfl (by kernel_rfl) (by kernel_rfl) (by kernel_rfl) (by kernel_rfl) (fun _ _ _ h => h) (Or.inl ⟨by rfl, ?hyR1c2x7⟩) (by assumption) ?restR1c2x7
  case hyR1c2x7 => (intro w hSw; (try dsimp only at hSw); go_simp; try (with_reducible rfl))
  try simp only [Act.put, List.setIfInBounds_toArray, List.set_cons_zero, List.set_cons_succ]
  refine yg (i := 8) (oi := ⟨some 13, .fieldAddr 61 (.tmp 3) 2, _, _, _, _⟩) (v := ?vR1c2x8) rfl (by kernel_rfl) (by kernel_rfl) (by kernel_rfl) (by kernel_rfl) (fun _ _ _ h => h) (Or.inl ⟨by rfl, ?hyR1c2x8⟩) (by assumption) ?restR1c2x8
  case hyR1c2x8 => (intro w hSw; (try dsimp only at hSw); go_simp; try (with_reducible rfl))
  try simp only [Act.put, List.setIfInBounds_toArray, List.set_cons_zero, List.set_cons_succ]
  refine yg (i := 9) (oi := ⟨some 14, .load 24 (.tmp 13), _, _, _, _⟩) (v := ?vR1c2x9) rfl (by kernel_rfl) (by kernel_rfl) (by kernel_rfl) (by kernel_rfl) (fun _ _ _ h => h) (Or.inl ⟨by rfl, ?hyR1c2x9⟩) (by assumption) ?restR1c2x9
  case hyR1c2x9 => (intro w hSw; (try dsimp only at hSw); go_simp; try (with_reducible rfl))
  try simp only [Act.put, List.setIfInBounds_toArray, List.set_cons_zero, List.set_cons_succ]
  refine zr (i := 10) (o := ⟨some 15, .call { callee := .value (.func 32), args := #[(.tmp 12), (.tmp 14)], argTypes := #[24, 24] }, _, _, _, _⟩) (by kernel_rfl) rfl (fun K hK => ?_)
  go_simp
  refine cZ (ZHt.out _ HB3.out) ?_
  rintro e w10 ⟨rfl, hbw10⟩
  go_wp2_with fail
  have HB10 : Hid (Below X.heap.size X w10) := yj HB3.out hbw10
  clear hbw10 hHeld
  have hHeld := (⟨HHd.out _ HB10.out, trivial⟩ : _ ∧ True)
  refine hK.out _ _ ⟨hHeld.1, fun _ => trivial⟩ ?_
  clear hK K
  refine yg (i := 11) (oi := ⟨some 16, .pick (.tmp 10) (.tmp 15) ((.const (.bool false))), _, _, _, _⟩) (v := ?vR1c2x11) rfl (by kernel_rfl) (by kernel_rfl) (by kernel_rfl) (by kernel_rfl) (fun _ _ _ h => h) (Or.inl ⟨by rfl, ?hyR1c2x11⟩) (by assumption) ?restR1c2x11
  case hyR1c2x11 => (intro w hSw; (try dsimp only at hSw); go_simp; try (with_reducible rfl))
  try simp only [Act.put, List.setIfInBounds_toArray, List.set_cons_zero, List.set_cons_succ]
  refine yg (i := 12) (oi := ⟨some 17, .move (.tmp 16), _, _, _, _⟩) (v := ?vR1c2x12) rfl (by kernel_rfl) (by kernel_rfl) (by kernel_rfl) (by kernel_rfl) (fun _ _ _ h => h) (Or.inl ⟨by rfl, ?hyR1c2x12⟩) (by assumption) ?restR1c2x12
  case hyR1c2x12 => (intro w hSw; (try dsimp only at hSw); go_simp; try (with_reducible rfl))
  try simp only [Act.put, List.setIfInBounds_toArray, List.set_cons_zero, List.set_cons_succ]
  refine yg (i := 13) (oi := ⟨some 18, .fieldAddr 61 (.tmp 2) 7, _, _, _, _⟩) (v := undef) rfl (by kernel_rfl) (by kernel_rfl) (by kernel_rfl) (by kernel_rfl) (fun _ _ _ h => h) (Or.inr ⟨by rfl, rfl⟩) (by assumption) ?restR1c2x13
  try simp only [Act.put, List.setIfInBounds_toArray, List.set_cons_zero, List.set_cons_succ]
  refine yg (i := 14) (oi := ⟨some 19, .load 58 (.tmp 18), _, _, _, _⟩) (v := undef) rfl (by kernel_rfl) (by kernel_rfl) (by kernel_rfl) (by kernel_rfl) (fun _ _ _ h => h) (Or.inr ⟨by rfl, rfl⟩) (by assumption) ?restR1c2x14
  try simp only [Act.put, List.setIfInBounds_toArray, List.set_cons_zero, List.set_cons_succ]
  refine yg (i := 15) (oi := ⟨some 20, .fieldAddr 61 (.tmp 3) 7, _, _, _, _⟩) (v := undef) rfl (by kernel_rfl) (by kernel_rfl) (by kernel_rfl) (by kernel_rfl) (fun _ _ _ h => h) (Or.inr ⟨by rfl, rfl⟩) (by assumption) ?restR1c2x15
  try simp only [Act.put, List.setIfInBounds_toArray, List.set_cons_zero, List.set_cons_succ]
  refine yg (i := 16) (oi := ⟨some 21, .load 58 (.tmp 20), _, _, _, _⟩) (v := undef) rfl (by kernel_rfl) (by kernel_rfl) (by kernel_rfl) (by kernel_rfl) (fun _ _ _ h => h) (Or.inr ⟨by rfl, rfl⟩) (by assumption) ?restR1c2x16
  try simp only [Act.put, List.setIfInBounds_toArray, List.set_cons_zero, List.set_cons_succ]
  refine yg (i := 17) (oi := ⟨some 22, .call { callee := .value (.func 52), args := #[(.tmp 19), (.tmp 21)], argTypes := #[58, 58] }, _, _, _, _⟩) (v := undef) rfl (by kernel_rfl) (by kernel_rfl) (by kernel_rfl) (by kernel_rfl) (fun _ _ _ h => h) (Or.inr ⟨by rfl, rfl⟩) (by assumption) ?restR1c2x17
  try simp only [Act.put, List.setIfInBounds_toArray, List.set_cons_zero, List.set_cons_succ]
  refine yg (i := 18) (oi := ⟨some 23, .pick (.tmp 17) (.tmp 22) ((.const (.bool false))), _, _, _, _⟩) (v := ?vR1c2x18) rfl (by kernel_rfl) (by kernel_rfl) (by kernel_rfl) (by kernel_rfl) (fun _ _ _ h => h) (Or.inl ⟨by rfl, ?hyR1c2x18⟩) (by assumption) ?restR1c2x18
  case hyR1c2x18 => (intro w hSw; (try dsimp only at hSw); go_simp; try (with_reducible rfl))
  try simp only [Act.put, List.setIfInBounds_toArray, List.set_cons_zero, List.set_cons_succ]
  refine yg (i := 19) (oi := ⟨some 24, .move (.tmp 23), _, _, _, _⟩) (v := ?vR1c2x19) rfl (by kernel_rfl) (by kernel_rfl) (by kernel_rfl) (by kernel_rfl) (fun _ _ _ h => h) (Or.inl ⟨by rfl, ?hyR1c2x19⟩) (by assumption) ?restR1c2x19
  case hyR1c2x19 => (intro w hSw; (try dsimp only at hSw); go_simp; try (with_reducible rfl))
  try simp only [Act.put, List.setIfInBounds_toArray, List.set_cons_zero, List.set_cons_succ]
  refine yg (i := 20) (oi := ⟨some 25, .fieldAddr 61 (.tmp 2) 8, _, _, _, _⟩) (v := undef) rfl (by kernel_rfl) (by kernel_rfl) (by kernel_rfl) (by kernel_rfl) (fun _ _ _ h => h) (Or.inr ⟨by rfl, rfl⟩) (by assumption) ?restR1c2x20
  try simp only [Act.put, List.setIfInBounds_toArray, List.set_cons_zero, List.set_cons_succ]
  refine yg (i := 21) (oi := ⟨some 26, .load 58 (.tmp 25), _, _, _, _⟩) (v := undef) rfl (by kernel_rfl) (by kernel_rfl) (by kernel_rfl) (by kernel_rfl) (fun _ _ _ h => h) (Or.inr ⟨by rfl, rfl⟩) (by assumption) ?restR1c2x21
  try simp only [Act.put, List.setIfInBounds_toArray, List.set_cons_zero, List.set_cons_succ]
  refine yg (i := 22) (oi := ⟨some 27, .fieldAddr 61 (.tmp 3) 8, _, _, _, _⟩) (v := undef) rfl (by kernel_rfl) (by kernel_rfl) (by kernel_rfl) (by kernel_rfl) (fun _ _ _ h => h) (Or.inr ⟨by rfl, rfl⟩) (by assumption) ?restR1c2x22
  try simp only [Act.put, List.setIfInBounds_toArray, List.set_cons_zero, List.set_cons_succ]
  refine yg (i := 23) (oi := ⟨some 28, .load 58 (.tmp 27), _, _, _, _⟩) (v := undef) rfl (by kernel_rfl) (by kernel_rfl) (by kernel_rfl) (by kernel_rfl) (fun _ _ _ h => h) (Or.inr ⟨by rfl, rfl⟩) (by assumption) ?restR1c2x23
  try simp only [Act.put, List.setIfInBounds_toArray, List.set_cons_zero, List.set_cons_succ]
  refine yg (i := 24) (oi := ⟨some 29, .call { callee := .value (.func 52), args := #[(.tmp 26), (.tmp 28)], argTypes := #[58, 58] }, _, _, _, _⟩) (v := undef) rfl (by kernel_rfl) (by kernel_rfl) (by kernel_rfl) (by kernel_rfl) (fun _ _ _ h => h) (Or.inr ⟨by rfl, rfl⟩) (by assumption) ?restR1c2x24
  try simp only [Act.put, List.setIfInBounds_toArray, List.set_cons_zero, List.set_cons_succ]
  refine yg (i := 25) (oi := ⟨some 30, .pick (.tmp 24) (.tmp 29) ((.const (.bool false))), _, _, _, _⟩) (v := ?vR1c2x25) rfl (by kernel_rfl) (by kernel_rfl) (by kernel_rfl) (by kernel_rfl) (fun _ _ _ h => h) (Or.inl ⟨by rfl, ?hyR1c2x25⟩) (by assumption) ?restR1c2x25
  case hyR1c2x25 => (intro w hSw; (try dsimp only at hSw); go_simp; try (with_reducible rfl))
  try simp only [Act.put, List.setIfInBounds_toArray, List.set_cons_zero, List.set_cons_succ]
  refine yg (i := 26) (oi := ⟨some 31, .move (.tmp 30), _, _, _, _⟩) (v := ?vR1c2x26) rfl (by kernel_rfl) (by kernel_rfl) (by kernel_rfl) (by kernel_rfl) (fun _ _ _ h => h) (Or.inl ⟨by rfl, ?hyR1c2x26⟩) (by assumption) ?restR1c2x26
  case hyR1c2x26 => (intro w hSw; (try dsimp only at hSw); go_simp; try (with_reducible rfl))
  try simp only [Act.put, List.setIfInBounds_toArray, List.set_cons_zero, List.set_cons_succ]
  refine yg (i := 27) (oi := ⟨some 32, .fieldAddr 61 (.tmp 2) 9, _, _, _, _⟩) (v := undef) rfl (by kernel_rfl) (by kernel_rfl) (by kernel_rfl) (by kernel_rfl) (fun _ _ _ h => h) (Or.inr ⟨by rfl, rfl⟩) (by assumption) ?restR1c2x27
  try simp only [Act.put, List.setIfInBounds_toArray, List.set_cons_zero, List.set_cons_succ]
  refine yg (i := 28) (oi := ⟨some 33, .load 59 (.tmp 32), _, _, _, _⟩) (v := undef) rfl (by kernel_rfl) (by kernel_rfl) (by kernel_rfl) (by kernel_rfl) (fun _ _ _ h => h) (Or.inr ⟨by rfl, rfl⟩) (by assumption) ?restR1c2x28
  try simp only [Act.put, List.setIfInBounds_toArray, List.set_cons_zero, List.set_cons_succ]
  refine yg (i := 29) (oi := ⟨some 34, .fieldAddr 61 (.tmp 3) 9, _, _, _, _⟩) (v := undef) rfl (by kernel_rfl) (by kernel_rfl) (by kernel_rfl) (by kernel_rfl) (fun _ _ _ h => h) (Or.inr ⟨by rfl, rfl⟩) (by assumption) ?restR1c2x29
  try simp only [Act.put, List.setIfInBounds_toArray, List.set_cons_zero, List.set_cons_succ]
  refine yg (i := 30) (oi := ⟨some 35, .load 59 (.tmp 34), _, _, _, _⟩) (v := undef) rfl (by kernel_rfl) (by kernel_rfl) (by kernel_rfl) (by kernel_rfl) (fun _ _ _ h => h) (Or.inr ⟨by rfl, rfl⟩) (by assumption) ?restR1c2x30
  try simp only [Act.put, List.setIfInBounds_toArray, List.set_cons_zero, List.set_cons_succ]
  refine yg (i := 31) (oi := ⟨some 36, .call { callee := .value (.func 53), args := #[(.tmp 33), (.tmp 35), Operand.func 52], argTypes := #[59, 59, 124] }, _, _, _, _⟩) (v := undef) rfl (by kernel_rfl) (by kernel_rfl) (by kernel_rfl) (by kernel_rfl) (fun _ _ _ h => h) (Or.inr ⟨by rfl, rfl⟩) (by assumption) ?restR1c2x31
  try simp only [Act.put, List.setIfInBounds_toArray, List.set_cons_zero, List.set_cons_succ]
  refine yg (i := 32) (oi := ⟨some 37, .pick (.tmp 31) (.tmp 36) ((.const (.bool false))), _, _, _, _⟩) (v := ?vR1c2x32) rfl (by kernel_rfl) (by kernel_rfl) (by kernel_rfl) (by kernel_rfl) (fun _ _ _ h => h) (Or.inl ⟨by rfl, ?hyR1c2x32⟩) (by assumption) ?restR1c2x32
  case hyR1c2x32 => (intro w hSw; (try dsimp only at hSw); go_simp; try (with_reducible rfl))
  try simp only [Act.put, List.setIfInBounds_toArray, List.set_cons_zero, List.set_cons_succ]
  refine yg (i := 33) (oi := ⟨some 4, .assign (.tmp 37), _, _, _, _⟩) (v := ?vR1c2x33) rfl (by kernel_rfl) (by kernel_rfl) (by kernel_rfl) (by kernel_rfl) (fun _ _ _ h => h) (Or.inl ⟨by rfl, ?hyR1c2x33⟩) (by assumption) ?restR1c2x33
  case hyR1c2x33 => (intro w hSw; (try dsimp only at hSw); go_simp; try (with_reducible rfl))
  try simp only [Act.put, List.setIfInBounds_toArray, List.set_cons_zero, List.set_cons_succ]
  refine YP (by kernel_rfl) ?_ _
  go_wp2_with fail
  go_ret
  exact ⟨rfl, yj HBX.out HB10.out⟩
set_option maxRecDepth 10000 in
set_option maxHeartbeats 2000000 in
theorem y5v {p0 p1 p3 p4 p5 p6 q0 q1 q3 q4 q5 q6 : Int} {pt px pb pr qt qx qb qr : Option Addr} {ptn ptc pxn pxc pbn pbc prn prc qtn qtc qxn qxc qbn qbc qrn qrc : Nat} (w : World) (HA : ∀ w', Below w.heap.size w w' → Calls Tryz.prog 51 #[.agg #[.int .i64 p0, .int .i64 p1, .slice pt ptn ptc, .int .i64 p3, .int .i64 p4, .int .i64 p5, .int .i64 p6, .slice px pxn pxc, .slice pb pbn pbc, .slice pr prn prc]] w' fun e w2 => e = .returned (.agg #[.int .i64 p0, .int .i64 p1, .int .i64 p3, .int .i64 p4, .int .i64 p5, .int .i64 p6]) ∧ Below w'.heap.size w' w2) (HB : ∀ w', Below w.heap.size w w' → Calls Tryz.prog 51 #[.agg #[.int .i64 q0, .int .i64 q1, .slice qt qtn qtc, .int .i64 q3, .int .i64 q4, .int .i64 q5, .int .i64 q6, .slice qx qxn qxc, .slice qb qbn qbc, .slice qr qrn qrc]] w' fun e w2 => e = .returned (.agg #[.int .i64 q0, .int .i64 q1, .int .i64 q3, .int .i64 q4, .int .i64 q5, .int .i64 q6]) ∧ Below w'.heap.size w' w2)
    (HPl : ∀ W, (binOp .eql 122 (.agg #[.int .i64 p0, .int .i64 p1, .int .i64 p3, .int .i64 p4, .int .i64 p5, .int .i64 p6]) (.agg #[.int .i64 q0, .int .i64 q1, .int .i64 q3, .int .i64 q4, .int .i64 q5, .int .i64 q6])).run Tryz.prog W = .ok (.bool true) W)
    (Ht : ∀ w', Below w.heap.size w w' → Calls Tryz.prog 32 #[.slice pt ptn ptc, .slice qt qtn qtc] w' fun e w2 => e = .returned (.bool true) ∧ Below w'.heap.size w' w2)
    (Hx : ∀ w', Below w.heap.size w w' → Calls Tryz.prog 52 #[.slice px pxn pxc, .slice qx qxn qxc] w' fun e w2 => e = .returned (.bool false) ∧ Below w'.heap.size w' w2) :
    Calls Tryz.prog 31 #[.agg #[.int .i64 p0, .int .i64 p1, .slice pt ptn ptc, .int .i64 p3, .int .i64 p4, .int .i64 p5, .int .i64 p6, .slice px pxn pxc, .slice pb pbn pbc, .slice pr prn prc], .agg #[.int .i64 q0, .int .i64 q1, .slice qt qtn qtc, .int .i64 q3, .int .i64 q4, .int .i64 q5, .int .i64 q6, .slice qx qxn qxc, .slice qb qbn qbc, .slice qr qrn qrc]] w fun e w' => e = .returned (.bool false) ∧ Below w.heap.size w w' := by
  obtain ⟨V, hV⟩ : ∃ V, w.alloc (.cells #[.int .i64 p0, .int .i64 p1, .slice pt ptn ptc, .int .i64 p3, .int .i64 p4, .int .i64 p5, .int .i64 p6, .slice px pxn pxc, .slice pb pbn pbc, .slice pr prn prc] 61) = V := ⟨_, rfl⟩
  obtain ⟨X, hX⟩ : ∃ X, V.alloc (.cells #[.int .i64 q0, .int .i64 q1, .slice qt qtn qtc, .int .i64 q3, .int .i64 q4, .int .i64 q5, .int .i64 q6, .slice qx qxn qxc, .slice qb qbn qbc, .slice qr qrn qrc] 61) = X := ⟨_, rfl⟩
  obtain ⟨N1, hN1⟩ : ∃ N1, w.heap.size = N1 := ⟨_, rfl⟩
  obtain ⟨N2, hN2⟩ : ∃ N2, V.heap.size = N2 := ⟨_, rfl⟩
  have HBX : Hid (Below w.heap.size w X) := by
    show Below _ _ _
    rw [← hX, ← hV]
    exact ((Below.refl _ _).alloc (Nat.le_refl _) _).alloc (by simp) _
  have HHd : Hid (∀ w', Below X.heap.size X w' → (w'.cell? ⟨N1, 0, none⟩ = some (.int .i64 p0) ∧ w'.cell? ⟨N1, 1, none⟩ = some (.int .i64 p1) ∧ w'.cell? ⟨N1, 2, none⟩ = some (.slice pt ptn ptc) ∧ w'.cell? ⟨N1, 3, none⟩ = some (.int .i64 p3) ∧ w'.cell? ⟨N1, 4, none⟩ = some (.int .i64 p4) ∧ w'.cell? ⟨N1, 5, none⟩ = some (.int .i64 p5) ∧ w'.cell? ⟨N1, 6, none⟩ = some (.int .i64 p6) ∧ w'.cell? ⟨N1, 7, none⟩ = some (.slice px pxn pxc) ∧ w'.cell? ⟨N1, 8, none⟩ = some (.slice pb pbn pbc) ∧ w'.cell? ⟨N1, 9, none⟩ = some (.slice pr prn prc)) ∧ (w'.cell? ⟨N2, 0, none⟩ = some (.int .i64 q0) ∧ w'.cell? ⟨N2, 1, none⟩ = some (.int .i64 q1) ∧ w'.cell? ⟨N2, 2, none⟩ = some (.slice qt qtn qtc) ∧ w'.cell? ⟨N2, 3, none⟩ = some (.int .i64 q3) ∧ w'.cell? ⟨N2, 4, none⟩ = some (.int .i64 q4) ∧ w'.cell? ⟨N2, 5, none⟩ = some (.int .i64 q5) ∧ w'.cell? ⟨N2, 6, none⟩ = some (.int .i64 q6) ∧ w'.cell? ⟨N2, 7, none⟩ = some (.slice qx qxn qxc) ∧ w'.cell? ⟨N2, 8, none⟩ = some (.slice qb qbn qbc) ∧ w'.cell? ⟨N2, 9, none⟩ = some (.slice qr qrn qrc))) := fun w' hb => by
    have gV : V.heap[N1]? = some (.cells #[.int .i64 p0, .int .i64 p1, .slice pt ptn ptc, .int .i64 p3, .int .i64 p4, .int .i64 p5, .int .i64 p6, .slice px pxn pxc, .slice pb pbn pbc, .slice pr prn prc] 61 (0, 0)) := by rw [← hV, ← hN1]; exact heap_alloc_new w _
    have gX : X.heap[N2]? = some (.cells #[.int .i64 q0, .int .i64 q1, .slice qt qtn qtc, .int .i64 q3, .int .i64 q4, .int .i64 q5, .int .i64 q6, .slice qx qxn qxc, .slice qb qbn qbc, .slice qr qrn qrc] 61 (0, 0)) := by rw [← hX, ← hN2]; exact heap_alloc_new V _
    have gV1 : X.heap[N1]? = some (.cells #[.int .i64 p0, .int .i64 p1, .slice pt ptn ptc, .int .i64 p3, .int .i64 p4, .int .i64 p5, .int .i64 p6, .slice px pxn pxc, .slice pb pbn pbc, .slice pr prn prc] 61 (0, 0)) := by rw [← hX]; exact (heap_alloc_old V _ (Array.getElem?_eq_some_iff.1 gV).1).trans gV
    exact ⟨xv ((hb.block _ (Array.getElem?_eq_some_iff.1 gV1).1).trans gV1), xv ((hb.block _ (Array.getElem?_eq_some_iff.1 gX).1).trans gX)⟩
  have ZHA : Hid (∀ w', Below X.heap.size X w' → Calls Tryz.prog 51 #[.agg #[.int .i64 p0, .int .i64 p1, .slice pt ptn ptc, .int .i64 p3, .int .i64 p4, .int .i64 p5, .int .i64 p6, .slice px pxn pxc, .slice pb pbn pbc, .slice pr prn prc]] w' fun e w2 => e = .returned (.agg #[.int .i64 p0, .int .i64 p1, .int .i64 p3, .int .i64 p4, .int .i64 p5, .int .i64 p6]) ∧ Below w'.heap.size w' w2) := fun w' hb => HA w' (yj HBX.out hb)
  have ZHB : Hid (∀ w', Below X.heap.size X w' → Calls Tryz.prog 51 #[.agg #[.int .i64 q0, .int .i64 q1, .slice qt qtn qtc, .int .i64 q3, .int .i64 q4, .int .i64 q5, .int .i64 q6, .slice qx qxn qxc, .slice qb qbn qbc, .slice qr qrn qrc]] w' fun e w2 => e = .returned (.agg #[.int .i64 q0, .int .i64 q1, .int .i64 q3, .int .i64 q4, .int .i64 q5, .int .i64 q6]) ∧ Below w'.heap.size w' w2) := fun w' hb => HB w' (yj HBX.out hb)
  have ZHt : Hid (∀ w', Below X.heap.size X w' → Calls Tryz.prog 32 #[.slice pt ptn ptc, .slice qt qtn qtc] w' fun e w2 => e = .returned (.bool true) ∧ Below w'.heap.size w' w2) := fun w' hb => Ht w' (yj HBX.out hb)
  have ZHx : Hid (∀ w', Below X.heap.size X w' → Calls Tryz.prog 52 #[.slice px pxn pxc, .slice qx qxn qxc] w' fun e w2 => e = .returned (.bool false) ∧ Below w'.heap.size w' w2) := fun w' hb => Hx w' (yj HBX.out hb)
  clear HA HB Ht Hx
  go_enter Tryz.func31, Tryz.ntmps31
  go_upto_region 1 with fail
  try rw [hV]
  try rw [hN1]
  try rw [hX]
  try rw [hN2]
  clear hV hN1 hX hN2
  have HBd : Hid (Below X.heap.size X X.drew) := (Below.refl _ _).drew
  refine YO (fun w' => (w'.cell? ⟨N1, 0, none⟩ = some (.int .i64 p0) ∧ w'.cell? ⟨N1, 1, none⟩ = some (.int .i64 p1) ∧ w'.cell? ⟨N1, 2, none⟩ = some (.slice pt ptn ptc) ∧ w'.cell? ⟨N1, 3, none⟩ = some (.int .i64 p3) ∧ w'.cell? ⟨N1, 4, none⟩ = some (.int .i64 p4) ∧ w'.cell? ⟨N1, 5, none⟩ = some (.int .i64 p5) ∧ w'.cell? ⟨N1, 6, none⟩ = some (.int .i64 p6) ∧ w'.cell? ⟨N1, 7, none⟩ = some (.slice px pxn pxc) ∧ w'.cell? ⟨N1, 8, none⟩ = some (.slice pb pbn pbc) ∧ w'.cell? ⟨N1, 9, none⟩ = some (.slice pr prn prc)) ∧ (w'.cell? ⟨N2, 0, none⟩ = some (.int .i64 q0) ∧ w'.cell? ⟨N2, 1, none⟩ = some (.int .i64 q1) ∧ w'.cell? ⟨N2, 2, none⟩ = some (.slice qt qtn qtc) ∧ w'.cell? ⟨N2, 3, none⟩ = some (.int .i64 q3) ∧ w'.cell? ⟨N2, 4, none⟩ = some (.int .i64 q4) ∧ w'.cell? ⟨N2, 5, none⟩ = some (.int .i64 q5) ∧ w'.cell? ⟨N2, 6, none⟩ = some (.int .i64 q6) ∧ w'.cell? ⟨N2, 7, none⟩ = some (.slice qx qxn qxc) ∧ w'.cell? ⟨N2, 8, none⟩ = some (.slice qb qbn qbc) ∧ w'.cell? ⟨N2, 9, none⟩ = some (.slice qr qrn qrc))) (fun _ => True) [99] rfl ⟨HHd.out _ HBd.out, trivial⟩ (fun hHeld => ?_)
  generalize X.drew = U at HBd hHeld ⊢
  refine yg (i := 0) (oi := ⟨some 5, .load 61 (.tmp 2), _, _, _, _⟩) (v := ?vR1c3x0) rfl (by kernel_rfl) (by kernel_rfl) (by kernel_rfl) (by kernel_rfl) (fun _ _ _ h => h) (Or.inl ⟨by rfl, ?hyR1c3x0⟩) (by assumption) ?restR1c3x0
  case hyR1c3x0 => (intro w hSw; (try dsimp only at hSw); go_simp; try (with_reducible rfl))
  try simp only [Act.put, List.setIfInBounds_toArray, List.set_cons_zero, List.set_cons_succ]
  refine yg (i := 2) (oi := ⟨some 7, .load 61 (.tmp 3), _, _, _, _⟩) (v := ?vR1c3x2) rfl (by kernel_rfl) (by kernel_rfl) (by kernel_rfl) (by kernel_rfl) (fun _ _ _ h => h) (Or.inl ⟨by rfl, ?hyR1c3x2⟩) (by assumption) ?restR1c3x2
  case hyR1c3x2 => (intro w hSw; (try dsimp only at hSw); go_simp; try (with_reducible rfl))
  try simp only [Act.put, List.setIfInBounds_toArray, List.set_cons_zero, List.set_cons_succ]
  refine zr (i := 1) (o := ⟨some 6, .call { callee := .value (.func 51), args := #[(.tmp 5)], argTypes := #[61] }, _, _, _, _⟩) (by kernel_rfl) rfl (fun K hK => ?_)
  go_simp
  refine cZ (ZHA.out _ HBd.out) ?_
  rintro e w1 ⟨rfl, hbw1⟩
  go_wp2_with fail
  have HB1 : Hid (Below X.heap.size X w1) := yj HBd.out hbw1
  clear hbw1 hHeld
  have hHeld := (⟨HHd.out _ HB1.out, trivial⟩ : _ ∧ True)
  refine hK.out _ _ ⟨hHeld.1, fun _ => trivial⟩ ?_
  clear hK K
  refine zr (i := 3) (o := ⟨some 8, .call { callee := .value (.func 51), args := #[(.tmp 7)], argTypes := #[61] }, _, _, _, _⟩) (by kernel_rfl) rfl (fun K hK => ?_)
  go_simp
  refine cZ (ZHB.out _ HB1.out) ?_
  rintro e w3 ⟨rfl, hbw3⟩
  go_wp2_with fail
  have HB3 : Hid (Below X.heap.size X w3) := yj HB1.out hbw3
  clear hbw3 hHeld
  have hHeld := (⟨HHd.out _ HB3.out, trivial⟩ : _ ∧ True)
  refine hK.out _ _ ⟨hHeld.1, fun _ => trivial⟩ ?_
  clear hK K
  refine yg (i := 4) (oi := ⟨some 9, .binOp .eql 122 (.tmp 6) (.tmp 8) 122, _, _, _, _⟩) (v := ?vR1c3x4) rfl (by kernel_rfl) (by kernel_rfl) (by kernel_rfl) (by kernel_rfl) (fun _ _ _ h => h) (Or.inl ⟨by rfl, ?hyR1c3x4⟩) (by assumption) ?restR1c3x4
  case hyR1c3x4 => (intro w hSw; (try dsimp only at hSw); go_simp; try (with_reducible rfl))
  try simp only [Act.put, List.setIfInBounds_toArray, List.set_cons_zero, List.set_cons_succ]
  refine yg (i := 5) (oi := ⟨some 10, .move (.tmp 9), _, _, _, _⟩) (v := ?vR1c3x5) rfl (by kernel_rfl) (by kernel_rfl) (by kernel_rfl) (by kernel_rfl) (fun _ _ _ h => h) (Or.inl ⟨by rfl, ?hyR1c3x5⟩) (by assumption) ?restR1c3x5
  case hyR1c3x5 => (intro w hSw; (try dsimp only at hSw); go_simp; try (with_reducible rfl))
  try simp only [Act.put, List.setIfInBounds_toArray, List.set_cons_zero, List.set_cons_succ]
  refine yg (i := 6) (oi := ⟨some 11, .fieldAddr 61 (.tmp 2) 2, _, _, _, _⟩) (v := ?vR1c3x6) rfl (by kernel_rfl) (by kernel_rfl) (by kernel_rfl) (by kernel_rfl) (fun _ _ _ h => h) (Or.inl ⟨by rfl, ?hyR1c3x6⟩) (by assumption) ?restR1c3x6
  case hyR1c3x6 => (intro w hSw; (try dsimp only at hSw); go_simp; try (with_reducible rfl))
  try simp only [Act.put, List.setIfInBounds_toArray, List.set_cons_zero, List.set_cons_succ]
  refine yg (i := 7) (oi := ⟨some 12, .load 24 (.tmp 11), _, _, _, _⟩) (v := ?vR1c3x7) rfl (by kernel_rfl) (by kernel_rfl) (by kernel_rfl) (by kernel_rfl) (fun _ _ _ h => h) (Or.inl ⟨by rfl, ?hyR1c3x7⟩) (by assumption) ?restR1c3x7
  case hyR1c3x7 => (intro w hSw; (try dsimp only at hSw); go_simp; try (with_reducible rfl))
  try simp only [Act.put, List.setIfInBounds_toArray, List.set_cons_zero, List.set_cons_succ]
  refine yg (i := 8) (oi := ⟨some 13, .fieldAddr 61 (.tmp 3) 2, _, _, _, _⟩) (v := ?vR1c3x8) rfl (by kernel_rfl) (by kernel_rfl) (by kernel_rfl) (by kernel_rfl) (fun _ _ _ h => h) (Or.inl ⟨by rfl, ?hyR1c3x8⟩) (by assumption) ?restR1c3x8
  case hyR1c3x8 => (intro w hSw; (try dsimp only at hSw); go_simp; try (with_reducible rfl))
  try simp only [Act.put, List.setIfInBounds_toArray, List.set_cons_zero, List.set_cons_succ]
  refine yg (i := 9) (oi := ⟨some 14, .load 24 (.tmp 13), _, _, _, _⟩) (v := ?vR1c3x9) rfl (by kernel_rfl) (by kernel_rfl) (by kernel_rfl) (by kernel_rfl) (fun _ _ _ h => h) (Or.inl ⟨by rfl, ?hyR1c3x9⟩) (by assumption) ?restR1c3x9
  case hyR1c3x9 => (intro w hSw; (try dsimp only at hSw); go_simp; try (with_reducible rfl))
  try simp only [Act.put, List.setIfInBounds_toArray, List.set_cons_zero, List.set_cons_succ]
  refine zr (i := 10) (o := ⟨some 15, .call { callee := .value (.func 32), args := #[(.tmp 12), (.tmp 14)], argTypes := #[24, 24] }, _, _, _, _⟩) (by kernel_rfl) rfl (fun K hK => ?_)
  go_simp
  refine cZ (ZHt.out _ HB3.out) ?_
  rintro e w10 ⟨rfl, hbw10⟩
  go_wp2_with fail
  have HB10 : Hid (Below X.heap.size X w10) := yj HB3.out hbw10
  clear hbw10 hHeld
  have hHeld := (⟨HHd.out _ HB10.out, trivial⟩ : _ ∧ True)
  refine hK.out _ _ ⟨hHeld.1, fun _ => trivial⟩ ?_
  clear hK K
  refine yg (i := 11) (oi := ⟨some 16, .pick (.tmp 10) (.tmp 15) ((.const (.bool false))), _, _, _, _⟩) (v := ?vR1c3x11) rfl (by kernel_rfl) (by kernel_rfl) (by kernel_rfl) (by kernel_rfl) (fun _ _ _ h => h) (Or.inl ⟨by rfl, ?hyR1c3x11⟩) (by assumption) ?restR1c3x11
  case hyR1c3x11 => (intro w hSw; (try dsimp only at hSw); go_simp; try (with_reducible rfl))
  try simp only [Act.put, List.setIfInBounds_toArray, List.set_cons_zero, List.set_cons_succ]
  refine yg (i := 12) (oi := ⟨some 17, .move (.tmp 16), _, _, _, _⟩) (v := ?vR1c3x12) rfl (by kernel_rfl) (by kernel_rfl) (by kernel_rfl) (by kernel_rfl) (fun _ _ _ h => h) (Or.inl ⟨by rfl, ?hyR1c3x12⟩) (by assumption) ?restR1c3x12
  case hyR1c3x12 => (intro w hSw; (try dsimp only at hSw); go_simp; try (with_reducible rfl))
  try simp only [Act.put, List.setIfInBounds_toArray, List.set_cons_zero, List.set_cons_succ]
  refine yg (i := 13) (oi := ⟨some 18, .fieldAddr 61 (.tmp 2) 7, _, _, _, _⟩) (v := ?vR1c3x13) rfl (by kernel_rfl) (by kernel_rfl) (by kernel_rfl) (by kernel_rfl) (fun _ _ _ h => h) (Or.inl ⟨by rfl, ?hyR1c3x13⟩) (by assumption) ?restR1c3x13
  case hyR1c3x13 => (intro w hSw; (try dsimp only at hSw); go_simp; try (with_reducible rfl))
  try simp only [Act.put, List.setIfInBounds_toArray, List.set_cons_zero, List.set_cons_succ]
  refine yg (i := 14) (oi := ⟨some 19, .load 58 (.tmp 18), _, _, _, _⟩) (v := ?vR1c3x14) rfl (by kernel_rfl) (by kernel_rfl) (by kernel_rfl) (by kernel_rfl) (fun _ _ _ h => h) (Or.inl ⟨by rfl, ?hyR1c3x14⟩) (by assumption) ?restR1c3x14
  case hyR1c3x14 => (intro w hSw; (try dsimp only at hSw); go_simp; try (with_reducible rfl))
  try simp only [Act.put, List.setIfInBounds_toArray, List.set_cons_zero, List.set_cons_succ]
  refine yg (i := 15) (oi := ⟨some 20, .fieldAddr 61 (.tmp 3) 7, _, _, _, _⟩) (v := ?vR1c3x15) rfl (by kernel_rfl) (by kernel_rfl) (by kernel_rfl) (by kernel_rfl) (fun _ _ _ h => h) (Or.inl ⟨by rfl, ?hyR1c3x15⟩) (by assumption) ?restR1c3x15
  case hyR1c3x15 => (intro w hSw; (try dsimp only at hSw); go_simp; try (with_reducible rfl))
  try simp only [Act.put, List.setIfInBounds_toArray, List.set_cons_zero, List.set_cons_succ]
  refine yg (i := 16) (oi := ⟨some 21, .load 58 (.tmp 20), _, _, _, _⟩) (v := ?vR1c3x16) rfl (by kernel_rfl) (by kernel_rfl) (by kernel_rfl) (by kernel_rfl) (fun _ _ _ h => h) (Or.inl ⟨by rfl, ?hyR1c3x16⟩) (by assumption) ?restR1c3x16
  case hyR1c3x16 => (intro w hSw; (try dsimp only at hSw); go_simp; try (with_reducible rfl))
  try simp only [Act.put, List.setIfInBounds_toArray, List.set_cons_zero, List.set_cons_succ]
  refine zr (i := 17) (o := ⟨some 22, .call { callee := .value (.func 52), args := #[(.tmp 19), (.tmp 21)], argTypes := #[58, 58] }, _, _, _, _⟩) (by kernel_rfl) rfl (fun K hK => ?_)
  go_simp
  refine cZ (ZHx.out _ HB10.out) ?_
  rintro e w17 ⟨rfl, hbw17⟩
  go_wp2_with fail
  have HB17 : Hid (Below X.heap.size X w17) := yj HB10.out hbw17
  clear hbw17 hHeld
  have hHeld := (⟨HHd.out _ HB17.out, trivial⟩ : _ ∧ True)
  refine hK.out _ _ ⟨hHeld.1, fun _ => trivial⟩ ?_
  clear hK K
  refine yg (i := 18) (oi := ⟨some 23, .pick (.tmp 17) (.tmp 22) ((.const (.bool false))), _, _, _, _⟩) (v := ?vR1c3x18) rfl (by kernel_rfl) (by kernel_rfl) (by kernel_rfl) (by kernel_rfl) (fun _ _ _ h => h) (Or.inl ⟨by rfl, ?hyR1c3x18⟩) (by assumption) ?restR1c3x18
  case hyR1c3x18 => (intro w hSw; (try dsimp only at hSw); go_simp; try (with_reducible rfl))
  try simp only [Act.put, List.setIfInBounds_toArray, List.set_cons_zero, List.set_cons_succ]
  refine yg (i := 19) (oi := ⟨some 24, .move (.tmp 23), _, _, _, _⟩) (v := ?vR1c3x19) rfl (by kernel_rfl) (by kernel_rfl) (by kernel_rfl) (by kernel_rfl) (fun _ _ _ h => h) (Or.inl ⟨by rfl, ?hyR1c3x19⟩) (by assumption) ?restR1c3x19
  case hyR1c3x19 => (intro w hSw; (try dsimp only at hSw); go_simp; try (with_reducible rfl))
  try simp only [Act.put, List.setIfInBounds_toArray, List.set_cons_zero, List.set_cons_succ]
  refine yg (i := 20) (oi := ⟨some 25, .fieldAddr 61 (.tmp 2) 8, _, _, _, _⟩) (v := undef) rfl (by kernel_rfl) (by kernel_rfl) (by kernel_rfl) (by kernel_rfl) (fun _ _ _ h => h) (Or.inr ⟨by rfl, rfl⟩) (by assumption) ?restR1c3x20
  try simp only [Act.put, List.setIfInBounds_toArray, List.set_cons_zero, List.set_cons_succ]
  refine yg (i := 21) (oi := ⟨some 26, .load 58 (.tmp 25), _, _, _, _⟩) (v := undef) rfl (by kernel_rfl) (by kernel_rfl) (by kernel_rfl) (by kernel_rfl) (fun _ _ _ h => h) (Or.inr ⟨by rfl, rfl⟩) (by assumption) ?restR1c3x21
  try simp only [Act.put, List.setIfInBounds_toArray, List.set_cons_zero, List.set_cons_succ]
  refine yg (i := 22) (oi := ⟨some 27, .fieldAddr 61 (.tmp 3) 8, _, _, _, _⟩) (v := undef) rfl (by kernel_rfl) (by kernel_rfl) (by kernel_rfl) (by kernel_rfl) (fun _ _ _ h => h) (Or.inr ⟨by rfl, rfl⟩) (by assumption) ?restR1c3x22
  try simp only [Act.put, List.setIfInBounds_toArray, List.set_cons_zero, List.set_cons_succ]
  refine yg (i := 23) (oi := ⟨some 28, .load 58 (.tmp 27), _, _, _, _⟩) (v := undef) rfl (by kernel_rfl) (by kernel_rfl) (by kernel_rfl) (by kernel_rfl) (fun _ _ _ h => h) (Or.inr ⟨by rfl, rfl⟩) (by assumption) ?restR1c3x23
  try simp only [Act.put, List.setIfInBounds_toArray, List.set_cons_zero, List.set_cons_succ]
  refine yg (i := 24) (oi := ⟨some 29, .call { callee := .value (.func 52), args := #[(.tmp 26), (.tmp 28)], argTypes := #[58, 58] }, _, _, _, _⟩) (v := undef) rfl (by kernel_rfl) (by kernel_rfl) (by kernel_rfl) (by kernel_rfl) (fun _ _ _ h => h) (Or.inr ⟨by rfl, rfl⟩) (by assumption) ?restR1c3x24
  try simp only [Act.put, List.setIfInBounds_toArray, List.set_cons_zero, List.set_cons_succ]
  refine yg (i := 25) (oi := ⟨some 30, .pick (.tmp 24) (.tmp 29) ((.const (.bool false))), _, _, _, _⟩) (v := ?vR1c3x25) rfl (by kernel_rfl) (by kernel_rfl) (by kernel_rfl) (by kernel_rfl) (fun _ _ _ h => h) (Or.inl ⟨by rfl, ?hyR1c3x25⟩) (by assumption) ?restR1c3x25
  case hyR1c3x25 => (intro w hSw; (try dsimp only at hSw); go_simp; try (with_reducible rfl))
  try simp only [Act.put, List.setIfInBounds_toArray, List.set_cons_zero, List.set_cons_succ]
  refine yg (i := 26) (oi := ⟨some 31, .move (.tmp 30), _, _, _, _⟩) (v := ?vR1c3x26) rfl (by kernel_rfl) (by kernel_rfl) (by kernel_rfl) (by kernel_rfl) (fun _ _ _ h => h) (Or.inl ⟨by rfl, ?hyR1c3x26⟩) (by assumption) ?restR1c3x26
  case hyR1c3x26 => (intro w hSw; (try dsimp only at hSw); go_simp; try (with_reducible rfl))
  try simp only [Act.put, List.setIfInBounds_toArray, List.set_cons_zero, List.set_cons_succ]
  refine yg (i := 27) (oi := ⟨some 32, .fieldAddr 61 (.tmp 2) 9, _, _, _, _⟩) (v := undef) rfl (by kernel_rfl) (by kernel_rfl) (by kernel_rfl) (by kernel_rfl) (fun _ _ _ h => h) (Or.inr ⟨by rfl, rfl⟩) (by assumption) ?restR1c3x27
  try simp only [Act.put, List.setIfInBounds_toArray, List.set_cons_zero, List.set_cons_succ]
  refine yg (i := 28) (oi := ⟨some 33, .load 59 (.tmp 32), _, _, _, _⟩) (v := undef) rfl (by kernel_rfl) (by kernel_rfl) (by kernel_rfl) (by kernel_rfl) (fun _ _ _ h => h) (Or.inr ⟨by rfl, rfl⟩) (by assumption) ?restR1c3x28
  try simp only [Act.put, List.setIfInBounds_toArray, List.set_cons_zero, List.set_cons_succ]
  refine yg (i := 29) (oi := ⟨some 34, .fieldAddr 61 (.tmp 3) 9, _, _, _, _⟩) (v := undef) rfl (by kernel_rfl) (by kernel_rfl) (by kernel_rfl) (by kernel_rfl) (fun _ _ _ h => h) (Or.inr ⟨by rfl, rfl⟩) (by assumption) ?restR1c3x29
  try simp only [Act.put, List.setIfInBounds_toArray, List.set_cons_zero, List.set_cons_succ]
  refine yg (i := 30) (oi := ⟨some 35, .load 59 (.tmp 34), _, _, _, _⟩) (v := undef) rfl (by kernel_rfl) (by kernel_rfl) (by kernel_rfl) (by kernel_rfl) (fun _ _ _ h => h) (Or.inr ⟨by rfl, rfl⟩) (by assumption) ?restR1c3x30
  try simp only [Act.put, List.setIfInBounds_toArray, List.set_cons_zero, List.set_cons_succ]
  refine yg (i := 31) (oi := ⟨some 36, .call { callee := .value (.func 53), args := #[(.tmp 33), (.tmp 35), Operand.func 52], argTypes := #[59, 59, 124] }, _, _, _, _⟩) (v := undef) rfl (by kernel_rfl) (by kernel_rfl) (by kernel_rfl) (by kernel_rfl) (fun _ _ _ h => h) (Or.inr ⟨by rfl, rfl⟩) (by assumption) ?restR1c3x31
  try simp only [Act.put, List.setIfInBounds_toArray, List.set_cons_zero, List.set_cons_succ]
  refine yg (i := 32) (oi := ⟨some 37, .pick (.tmp 31) (.tmp 36) ((.const (.bool false))), _, _, _, _⟩) (v := ?vR1c3x32) rfl (by kernel_rfl) (by kernel_rfl) (by kernel_rfl) (by kernel_rfl) (fun _ _ _ h => h) (Or.inl ⟨by rfl, ?hyR1c3x32⟩) (by assumption) ?restR1c3x32
  case hyR1c3x32 => (intro w hSw; (try dsimp only at hSw); go_simp; try (with_reducible rfl))
  try simp only [Act.put, List.setIfInBounds_toArray, List.set_cons_zero, List.set_cons_succ]
  refine yg (i := 33) (oi := ⟨some 4, .assign (.tmp 37), _, _, _, _⟩) (v := ?vR1c3x33) rfl (by kernel_rfl) (by kernel_rfl) (by kernel_rfl) (by kernel_rfl) (fun _ _ _ h => h) (Or.inl ⟨by rfl, ?hyR1c3x33⟩) (by assumption) ?restR1c3x33
  case hyR1c3x33 => (intro w hSw; (try dsimp only at hSw); go_simp; try (with_reducible rfl))
  try simp only [Act.put, List.setIfInBounds_toArray, List.set_cons_zero, List.set_cons_succ]
  refine YP (by kernel_rfl) ?_ _
  go_wp2_with fail
  go_ret
  exact ⟨rfl, yj HBX.out HB17.out⟩
set_option maxRecDepth 10000 in
set_option maxHeartbeats 2000000 in
theorem y5w {p0 p1 p3 p4 p5 p6 q0 q1 q3 q4 q5 q6 : Int} {pt px pb pr qt qx qb qr : Option Addr} {ptn ptc pxn pxc pbn pbc prn prc qtn qtc qxn qxc qbn qbc qrn qrc : Nat} (w : World) (HA : ∀ w', Below w.heap.size w w' → Calls Tryz.prog 51 #[.agg #[.int .i64 p0, .int .i64 p1, .slice pt ptn ptc, .int .i64 p3, .int .i64 p4, .int .i64 p5, .int .i64 p6, .slice px pxn pxc, .slice pb pbn pbc, .slice pr prn prc]] w' fun e w2 => e = .returned (.agg #[.int .i64 p0, .int .i64 p1, .int .i64 p3, .int .i64 p4, .int .i64 p5, .int .i64 p6]) ∧ Below w'.heap.size w' w2) (HB : ∀ w', Below w.heap.size w w' → Calls Tryz.prog 51 #[.agg #[.int .i64 q0, .int .i64 q1, .slice qt qtn qtc, .int .i64 q3, .int .i64 q4, .int .i64 q5, .int .i64 q6, .slice qx qxn qxc, .slice qb qbn qbc, .slice qr qrn qrc]] w' fun e w2 => e = .returned (.agg #[.int .i64 q0, .int .i64 q1, .int .i64 q3, .int .i64 q4, .int .i64 q5, .int .i64 q6]) ∧ Below w'.heap.size w' w2)
    (HPl : ∀ W, (binOp .eql 122 (.agg #[.int .i64 p0, .int .i64 p1, .int .i64 p3, .int .i64 p4, .int .i64 p5, .int .i64 p6]) (.agg #[.int .i64 q0, .int .i64 q1, .int .i64 q3, .int .i64 q4, .int .i64 q5, .int .i64 q6])).run Tryz.prog W = .ok (.bool true) W)
    (Ht : ∀ w', Below w.heap.size w w' → Calls Tryz.prog 32 #[.slice pt ptn ptc, .slice qt qtn qtc] w' fun e w2 => e = .returned (.bool true) ∧ Below w'.heap.size w' w2)
    (Hx : ∀ w', Below w.heap.size w w' → Calls Tryz.prog 52 #[.slice px pxn pxc, .slice qx qxn qxc] w' fun e w2 => e = .returned (.bool true) ∧ Below w'.heap.size w' w2)
    (Hb : ∀ w', Below w.heap.size w w' → Calls Tryz.prog 52 #[.slice pb pbn pbc, .slice qb qbn qbc] w' fun e w2 => e = .returned (.bool false) ∧ Below w'.heap.size w' w2) :
    Calls Tryz.prog 31 #[.agg #[.int .i64 p0, .int .i64 p1, .slice pt ptn ptc, .int .i64 p3, .int .i64 p4, .int .i64 p5, .int .i64 p6, .slice px pxn pxc, .slice pb pbn pbc, .slice pr prn prc], .agg #[.int .i64 q0, .int .i64 q1, .slice qt qtn qtc, .int .i64 q3, .int .i64 q4, .int .i64 q5, .int .i64 q6, .slice qx qxn qxc, .slice qb qbn qbc, .slice qr qrn qrc]] w fun e w' => e = .returned (.bool false) ∧ Below w.heap.size w w' := by
  obtain ⟨V, hV⟩ : ∃ V, w.alloc (.cells #[.int .i64 p0, .int .i64 p1, .slice pt ptn ptc, .int .i64 p3, .int .i64 p4, .int .i64 p5, .int .i64 p6, .slice px pxn pxc, .slice pb pbn pbc, .slice pr prn prc] 61) = V := ⟨_, rfl⟩
  obtain ⟨X, hX⟩ : ∃ X, V.alloc (.cells #[.int .i64 q0, .int .i64 q1, .slice qt qtn qtc, .int .i64 q3, .int .i64 q4, .int .i64 q5, .int .i64 q6, .slice qx qxn qxc, .slice qb qbn qbc, .slice qr qrn qrc] 61) = X := ⟨_, rfl⟩
  obtain ⟨N1, hN1⟩ : ∃ N1, w.heap.size = N1 := ⟨_, rfl⟩
  obtain ⟨N2, hN2⟩ : ∃ N2, V.heap.size = N2 := ⟨_, rfl⟩
  have HBX : Hid (Below w.heap.size w X) := by
    show Below _ _ _
    rw [← hX, ← hV]
    exact ((Below.refl _ _).alloc (Nat.le_refl _) _).alloc (by simp) _
  have HHd : Hid (∀ w', Below X.heap.size X w' → (w'.cell? ⟨N1, 0, none⟩ = some (.int .i64 p0) ∧ w'.cell? ⟨N1, 1, none⟩ = some (.int .i64 p1) ∧ w'.cell? ⟨N1, 2, none⟩ = some (.slice pt ptn ptc) ∧ w'.cell? ⟨N1, 3, none⟩ = some (.int .i64 p3) ∧ w'.cell? ⟨N1, 4, none⟩ = some (.int .i64 p4) ∧ w'.cell? ⟨N1, 5, none⟩ = some (.int .i64 p5) ∧ w'.cell? ⟨N1, 6, none⟩ = some (.int .i64 p6) ∧ w'.cell? ⟨N1, 7, none⟩ = some (.slice px pxn pxc) ∧ w'.cell? ⟨N1, 8, none⟩ = some (.slice pb pbn pbc) ∧ w'.cell? ⟨N1, 9, none⟩ = some (.slice pr prn prc)) ∧ (w'.cell? ⟨N2, 0, none⟩ = some (.int .i64 q0) ∧ w'.cell? ⟨N2, 1, none⟩ = some (.int .i64 q1) ∧ w'.cell? ⟨N2, 2, none⟩ = some (.slice qt qtn qtc) ∧ w'.cell? ⟨N2, 3, none⟩ = some (.int .i64 q3) ∧ w'.cell? ⟨N2, 4, none⟩ = some (.int .i64 q4) ∧ w'.cell? ⟨N2, 5, none⟩ = some (.int .i64 q5) ∧ w'.cell? ⟨N2, 6, none⟩ = some (.int .i64 q6) ∧ w'.cell? ⟨N2, 7, none⟩ = some (.slice qx qxn qxc) ∧ w'.cell? ⟨N2, 8, none⟩ = some (.slice qb qbn qbc) ∧ w'.cell? ⟨N2, 9, none⟩ = some (.slice qr qrn qrc))) := fun w' hb => by
    have gV : V.heap[N1]? = some (.cells #[.int .i64 p0, .int .i64 p1, .slice pt ptn ptc, .int .i64 p3, .int .i64 p4, .int .i64 p5, .int .i64 p6, .slice px pxn pxc, .slice pb pbn pbc, .slice pr prn prc] 61 (0, 0)) := by rw [← hV, ← hN1]; exact heap_alloc_new w _
    have gX : X.heap[N2]? = some (.cells #[.int .i64 q0, .int .i64 q1, .slice qt qtn qtc, .int .i64 q3, .int .i64 q4, .int .i64 q5, .int .i64 q6, .slice qx qxn qxc, .slice qb qbn qbc, .slice qr qrn qrc] 61 (0, 0)) := by rw [← hX, ← hN2]; exact heap_alloc_new V _
    have gV1 : X.heap[N1]? = some (.cells #[.int .i64 p0, .int .i64 p1, .slice pt ptn ptc, .int .i64 p3, .int .i64 p4, .int .i64 p5, .int .i64 p6, .slice px pxn pxc, .slice pb pbn pbc, .slice pr prn prc] 61 (0, 0)) := by rw [← hX]; exact (heap_alloc_old V _ (Array.getElem?_eq_some_iff.1 gV).1).trans gV
    exact ⟨xv ((hb.block _ (Array.getElem?_eq_some_iff.1 gV1).1).trans gV1), xv ((hb.block _ (Array.getElem?_eq_some_iff.1 gX).1).trans gX)⟩
  have ZHA : Hid (∀ w', Below X.heap.size X w' → Calls Tryz.prog 51 #[.agg #[.int .i64 p0, .int .i64 p1, .slice pt ptn ptc, .int .i64 p3, .int .i64 p4, .int .i64 p5, .int .i64 p6, .slice px pxn pxc, .slice pb pbn pbc, .slice pr prn prc]] w' fun e w2 => e = .returned (.agg #[.int .i64 p0, .int .i64 p1, .int .i64 p3, .int .i64 p4, .int .i64 p5, .int .i64 p6]) ∧ Below w'.heap.size w' w2) := fun w' hb => HA w' (yj HBX.out hb)
  have ZHB : Hid (∀ w', Below X.heap.size X w' → Calls Tryz.prog 51 #[.agg #[.int .i64 q0, .int .i64 q1, .slice qt qtn qtc, .int .i64 q3, .int .i64 q4, .int .i64 q5, .int .i64 q6, .slice qx qxn qxc, .slice qb qbn qbc, .slice qr qrn qrc]] w' fun e w2 => e = .returned (.agg #[.int .i64 q0, .int .i64 q1, .int .i64 q3, .int .i64 q4, .int .i64 q5, .int .i64 q6]) ∧ Below w'.heap.size w' w2) := fun w' hb => HB w' (yj HBX.out hb)
  have ZHt : Hid (∀ w', Below X.heap.size X w' → Calls Tryz.prog 32 #[.slice pt ptn ptc, .slice qt qtn qtc] w' fun e w2 => e = .returned (.bool true) ∧ Below w'.heap.size w' w2) := fun w' hb => Ht w' (yj HBX.out hb)
  have ZHx : Hid (∀ w', Below X.heap.size X w' → Calls Tryz.prog 52 #[.slice px pxn pxc, .slice qx qxn qxc] w' fun e w2 => e = .returned (.bool true) ∧ Below w'.heap.size w' w2) := fun w' hb => Hx w' (yj HBX.out hb)
  have ZHb : Hid (∀ w', Below X.heap.size X w' → Calls Tryz.prog 52 #[.slice pb pbn pbc, .slice qb qbn qbc] w' fun e w2 => e = .returned (.bool false) ∧ Below w'.heap.size w' w2) := fun w' hb => Hb w' (yj HBX.out hb)
  clear HA HB Ht Hx Hb
  go_enter Tryz.func31, Tryz.ntmps31
  go_upto_region 1 with fail
  try rw [hV]
  try rw [hN1]
  try rw [hX]
  try rw [hN2]
  clear hV hN1 hX hN2
  have HBd : Hid (Below X.heap.size X X.drew) := (Below.refl _ _).drew
  refine YO (fun w' => (w'.cell? ⟨N1, 0, none⟩ = some (.int .i64 p0) ∧ w'.cell? ⟨N1, 1, none⟩ = some (.int .i64 p1) ∧ w'.cell? ⟨N1, 2, none⟩ = some (.slice pt ptn ptc) ∧ w'.cell? ⟨N1, 3, none⟩ = some (.int .i64 p3) ∧ w'.cell? ⟨N1, 4, none⟩ = some (.int .i64 p4) ∧ w'.cell? ⟨N1, 5, none⟩ = some (.int .i64 p5) ∧ w'.cell? ⟨N1, 6, none⟩ = some (.int .i64 p6) ∧ w'.cell? ⟨N1, 7, none⟩ = some (.slice px pxn pxc) ∧ w'.cell? ⟨N1, 8, none⟩ = some (.slice pb pbn pbc) ∧ w'.cell? ⟨N1, 9, none⟩ = some (.slice pr prn prc)) ∧ (w'.cell? ⟨N2, 0, none⟩ = some (.int .i64 q0) ∧ w'.cell? ⟨N2, 1, none⟩ = some (.int .i64 q1) ∧ w'.cell? ⟨N2, 2, none⟩ = some (.slice qt qtn qtc) ∧ w'.cell? ⟨N2, 3, none⟩ = some (.int .i64 q3) ∧ w'.cell? ⟨N2, 4, none⟩ = some (.int .i64 q4) ∧ w'.cell? ⟨N2, 5, none⟩ = some (.int .i64 q5) ∧ w'.cell? ⟨N2, 6, none⟩ = some (.int .i64 q6) ∧ w'.cell? ⟨N2, 7, none⟩ = some (.slice qx qxn qxc) ∧ w'.cell? ⟨N2, 8, none⟩ = some (.slice qb qbn qbc) ∧ w'.cell? ⟨N2, 9, none⟩ = some (.slice qr qrn qrc))) (fun _ => True) [99] rfl ⟨HHd.out _ HBd.out, trivial⟩ (fun hHeld => ?_)
  generalize X.drew = U at HBd hHeld ⊢
  refine yg (i := 0) (oi := ⟨some 5, .load 61 (.tmp 2), _, _, _, _⟩) (v := ?vR1c4x0) rfl (by kernel_rfl) (by kernel_rfl) (by kernel_rfl) (by kernel_rfl) (fun _ _ _ h => h) (Or.inl ⟨by rfl, ?hyR1c4x0⟩) (by assumption) ?restR1c4x0
  case hyR1c4x0 => (intro w hSw; (try dsimp only at hSw); go_simp; try (with_reducible rfl))
  try simp only [Act.put, List.setIfInBounds_toArray, List.set_cons_zero, List.set_cons_succ]
  refine yg (i := 2) (oi := ⟨some 7, .load 61 (.tmp 3), _, _, _, _⟩) (v := ?vR1c4x2) rfl (by kernel_rfl) (by kernel_rfl) (by kernel_rfl) (by kernel_rfl) (fun _ _ _ h => h) (Or.inl ⟨by rfl, ?hyR1c4x2⟩) (by assumption) ?restR1c4x2
  case hyR1c4x2 => (intro w hSw; (try dsimp only at hSw); go_simp; try (with_reducible rfl))
  try simp only [Act.put, List.setIfInBounds_toArray, List.set_cons_zero, List.set_cons_succ]
  refine zr (i := 1) (o := ⟨some 6, .call { callee := .value (.func 51), args := #[(.tmp 5)], argTypes := #[61] }, _, _, _, _⟩) (by kernel_rfl) rfl (fun K hK => ?_)
  go_simp
  refine cZ (ZHA.out _ HBd.out) ?_
  rintro e w1 ⟨rfl, hbw1⟩
  go_wp2_with fail
  have HB1 : Hid (Below X.heap.size X w1) := yj HBd.out hbw1
  clear hbw1 hHeld
  have hHeld := (⟨HHd.out _ HB1.out, trivial⟩ : _ ∧ True)
  refine hK.out _ _ ⟨hHeld.1, fun _ => trivial⟩ ?_
  clear hK K
  refine zr (i := 3) (o := ⟨some 8, .call { callee := .value (.func 51), args := #[(.tmp 7)], argTypes := #[61] }, _, _, _, _⟩) (by kernel_rfl) rfl (fun K hK => ?_)
  go_simp
  refine cZ (ZHB.out _ HB1.out) ?_
  rintro e w3 ⟨rfl, hbw3⟩
  go_wp2_with fail
  have HB3 : Hid (Below X.heap.size X w3) := yj HB1.out hbw3
  clear hbw3 hHeld
  have hHeld := (⟨HHd.out _ HB3.out, trivial⟩ : _ ∧ True)
  refine hK.out _ _ ⟨hHeld.1, fun _ => trivial⟩ ?_
  clear hK K
  refine yg (i := 4) (oi := ⟨some 9, .binOp .eql 122 (.tmp 6) (.tmp 8) 122, _, _, _, _⟩) (v := ?vR1c4x4) rfl (by kernel_rfl) (by kernel_rfl) (by kernel_rfl) (by kernel_rfl) (fun _ _ _ h => h) (Or.inl ⟨by rfl, ?hyR1c4x4⟩) (by assumption) ?restR1c4x4
  case hyR1c4x4 => (intro w hSw; (try dsimp only at hSw); go_simp; try (with_reducible rfl))
  try simp only [Act.put, List.setIfInBounds_toArray, List.set_cons_zero, List.set_cons_succ]
  refine yg (i := 5) (oi := ⟨some 10, .move (.tmp 9), _, _, _, _⟩) (v := ?vR1c4x5) rfl (by kernel_rfl) (by kernel_rfl) (by kernel_rfl) (by kernel_rfl) (fun _ _ _ h => h) (Or.inl ⟨by rfl, ?hyR1c4x5⟩) (by assumption) ?restR1c4x5
  case hyR1c4x5 => (intro w hSw; (try dsimp only at hSw); go_simp; try (with_reducible rfl))
  try simp only [Act.put, List.setIfInBounds_toArray, List.set_cons_zero, List.set_cons_succ]
  refine yg (i := 6) (oi := ⟨some 11, .fieldAddr 61 (.tmp 2) 2, _, _, _, _⟩) (v := ?vR1c4x6) rfl (by kernel_rfl) (by kernel_rfl) (by kernel_rfl) (by kernel_rfl) (fun _ _ _ h => h) (Or.inl ⟨by rfl, ?hyR1c4x6⟩) (by assumption) ?restR1c4x6
  case hyR1c4x6 => (intro w hSw; (try dsimp only at hSw); go_simp; try (with_reducible rfl))
  try simp only [Act.put, List.setIfInBounds_toArray, List.set_cons_zero, List.set_cons_succ]
  refine yg (i := 7) (oi := ⟨some 12, .load 24 (.tmp 11), _, _, _, _⟩) (v := ?vR1c4x7) rfl (by kernel_rfl) (by kernel_rfl) (by kernel_rfl) (by kernel_rfl) (fun _ _ _ h => h) (Or.inl ⟨by rfl, ?hyR1c4x7⟩) (by assumption) ?restR1c4x7
  case hyR1c4x7 => (intro w hSw; (try dsimp only at hSw); go_simp; try (with_reducible rfl))
  try simp only [Act.put, List.setIfInBounds_toArray, List.set_cons_zero, List.set_cons_succ]
  refine yg (i := 8) (oi := ⟨some 13, .fieldAddr 61 (.tmp 3) 2, _, _, _, _⟩) (v := ?vR1c4x8) rfl (by kernel_rfl) (by kernel_rfl) (by kernel_rfl) (by kernel_rfl) (fun _ _ _ h => h) (Or.inl ⟨by rfl, ?hyR1c4x8⟩) (by assumption) ?restR1c4x8
  case hyR1c4x8 => (intro w hSw; (try dsimp only at hSw); go_simp; try (with_reducible rfl))
  try simp only [Act.put, List.setIfInBounds_toArray, List.set_cons_zero, List.set_cons_succ]
  refine yg (i := 9) (oi := ⟨some 14, .load 24 (.tmp 13), _, _, _, _⟩) (v := ?vR1c4x9) rfl (by kernel_rfl) (by kernel_rfl) (by kernel_rfl) (by kernel_rfl) (fun _ _ _ h => h) (Or.inl ⟨by rfl, ?hyR1c4x9⟩) (by assumption) ?restR1c4x9
  case hyR1c4x9 => (intro w hSw; (try dsimp only at hSw); go_simp; try (with_reducible rfl))
  try simp only [Act.put, List.setIfInBounds_toArray, List.set_cons_zero, List.set_cons_succ]
  refine zr (i := 10) (o := ⟨some 15, .call { callee := .value (.func 32), args := #[(.tmp 12), (.tmp 14)], argTypes := #[24, 24] }, _, _, _, _⟩) (by kernel_rfl) rfl (fun K hK => ?_)
  go_simp
  refine cZ (ZHt.out _ HB3.out) ?_
  rintro e w10 ⟨rfl, hbw10⟩
  go_wp2_with fail
  have HB10 : Hid (Below X.heap.size X w10) := yj HB3.out hbw10
  clear hbw10 hHeld
  have hHeld := (⟨HHd.out _ HB10.out, trivial⟩ : _ ∧ True)
  refine hK.out _ _ ⟨hHeld.1, fun _ => trivial⟩ ?_
  clear hK K
  refine yg (i := 11) (oi := ⟨some 16, .pick (.tmp 10) (.tmp 15) ((.const (.bool false))), _, _, _, _⟩) (v := ?vR1c4x11) rfl (by kernel_rfl) (by kernel_rfl) (by kernel_rfl) (by kernel_rfl) (fun _ _ _ h => h) (Or.inl ⟨by rfl, ?hyR1c4x11⟩) (by assumption) ?restR1c4x11
  case hyR1c4x11 => (intro w hSw; (try dsimp only at hSw); go_simp; try (with_reducible rfl))
  try simp only [Act.put, List.setIfInBounds_toArray, List.set_cons_zero, List.set_cons_succ]
  refine yg (i := 12) (oi := ⟨some 17, .move (.tmp 16), _, _, _, _⟩) (v := ?vR1c4x12) rfl (by kernel_rfl) (by kernel_rfl) (by kernel_rfl) (by kernel_rfl) (fun _ _ _ h => h) (Or.inl ⟨by rfl, ?hyR1c4x12⟩) (by assumption) ?restR1c4x12
  case hyR1c4x12 => (intro w hSw; (try dsimp only at hSw); go_simp; try (with_reducible rfl))
  try simp only [Act.put, List.setIfInBounds_toArray, List.set_cons_zero, List.set_cons_succ]
  refine yg (i := 13) (oi := ⟨some 18, .fieldAddr 61 (.tmp 2) 7, _, _, _, _⟩) (v := ?vR1c4x13) rfl (by kernel_rfl) (by kernel_rfl) (by kernel_rfl) (by kernel_rfl) (fun _ _ _ h => h) (Or.inl ⟨by rfl, ?hyR1c4x13⟩) (by assumption) ?restR1c4x13
  case hyR1c4x13 => (intro w hSw; (try dsimp only at hSw); go_simp; try (with_reducible rfl))
  try simp only [Act.put, List.setIfInBounds_toArray, List.set_cons_zero, List.set_cons_succ]
  refine yg (i := 14) (oi := ⟨some 19, .load 58 (.tmp 18), _, _, _, _⟩) (v := ?vR1c4x14) rfl (by kernel_rfl) (by kernel_rfl) (by kernel_rfl) (by kernel_rfl) (fun _ _ _ h => h) (Or.inl ⟨by rfl, ?hyR1c4x14⟩) (by assumption) ?restR1c4x14
  case hyR1c4x14 => (intro w hSw; (try dsimp only at hSw); go_simp; try (with_reducible rfl))
  try simp only [Act.put, List.setIfInBounds_toArray, List.set_cons_zero, List.set_cons_succ]
  refine yg (i := 15) (oi := ⟨some 20, .fieldAddr 61 (.tmp 3) 7, _, _, _, _⟩) (v := ?vR1c4x15) rfl (by kernel_rfl) (by kernel_rfl) (by kernel_rfl) (by kernel_rfl) (fun _ _ _ h => h) (Or.inl ⟨by rfl, ?hyR1c4x15⟩) (by assumption) ?restR1c4x15
  case hyR1c4x15 => (intro w hSw; (try dsimp only at hSw); go_simp; try (with_reducible rfl))
  try simp only [Act.put, List.setIfInBounds_toArray, List.set_cons_zero, List.set_cons_succ]
  refine yg (i := 16) (oi := ⟨some 21, .load 58 (.tmp 20), _, _, _, _⟩) (v := ?vR1c4x16) rfl (by kernel_rfl) (by kernel_rfl) (by kernel_rfl) (by kernel_rfl) (fun _ _ _ h => h) (Or.inl ⟨by rfl, ?hyR1c4x16⟩) (by assumption) ?restR1c4x16
  case hyR1c4x16 => (intro w hSw; (try dsimp only at hSw); go_simp; try (with_reducible rfl))
  try simp only [Act.put, List.setIfInBounds_toArray, List.set_cons_zero, List.set_cons_succ]
  refine zr (i := 17) (o := ⟨some 22, .call { callee := .value (.func 52), args := #[(.tmp 19), (.tmp 21)], argTypes := #[58, 58] }, _, _, _, _⟩) (by kernel_rfl) rfl (fun K hK => ?_)
  go_simp
  refine cZ (ZHx.out _ HB10.out) ?_
  rintro e w17 ⟨rfl, hbw17⟩
  go_wp2_with fail
  have HB17 : Hid (Below X.heap.size X w17) := yj HB10.out hbw17
  clear hbw17 hHeld
  have hHeld := (⟨HHd.out _ HB17.out, trivial⟩ : _ ∧ True)
  refine hK.out _ _ ⟨hHeld.1, fun _ => trivial⟩ ?_
  clear hK K
  refine yg (i := 18) (oi := ⟨some 23, .pick (.tmp 17) (.tmp 22) ((.const (.bool false))), _, _, _, _⟩) (v := ?vR1c4x18) rfl (by kernel_rfl) (by kernel_rfl) (by kernel_rfl) (by kernel_rfl) (fun _ _ _ h => h) (Or.inl ⟨by rfl, ?hyR1c4x18⟩) (by assumption) ?restR1c4x18
  case hyR1c4x18 => (intro w hSw; (try dsimp only at hSw); go_simp; try (with_reducible rfl))
  try simp only [Act.put, List.setIfInBounds_toArray, List.set_cons_zero, List.set_cons_succ]
  refine yg (i := 19) (oi := ⟨some 24, .move (.tmp 23), _, _, _, _⟩) (v := ?vR1c4x19) rfl (by kernel_rfl) (by kernel_rfl) (by kernel_rfl) (by kernel_rfl) (fun _ _ _ h => h) (Or.inl ⟨by rfl, ?hyR1c4x19⟩) (by assumption) ?restR1c4x19
  case hyR1c4x19 => (intro w hSw; (try dsimp only at hSw); go_simp; try (with_reducible rfl))
  try simp only [Act.put, List.setIfInBounds_toArray, List.set_cons_zero, List.set_cons_succ]
  refine yg (i := 20) (oi := ⟨some 25, .fieldAddr 61 (.tmp 2) 8, _, _, _, _⟩) (v := ?vR1c4x20) rfl (by kernel_rfl) (by kernel_rfl) (by kernel_rfl) (by kernel_rfl) (fun _ _ _ h => h) (Or.inl ⟨by rfl, ?hyR1c4x20⟩) (by assumption) ?restR1c4x20
  case hyR1c4x20 => (intro w hSw; (try dsimp only at hSw); go_simp; try (with_reducible rfl))
  try simp only [Act.put, List.setIfInBounds_toArray, List.set_cons_zero, List.set_cons_succ]
  refine yg (i := 21) (oi := ⟨some 26, .load 58 (.tmp 25), _, _, _, _⟩) (v := ?vR1c4x21) rfl (by kernel_rfl) (by kernel_rfl) (by kernel_rfl) (by kernel_rfl) (fun _ _ _ h => h) (Or.inl ⟨by rfl, ?hyR1c4x21⟩) (by assumption) ?restR1c4x21
  case hyR1c4x21 => (intro w hSw; (try dsimp only at hSw); go_simp; try (with_reducible rfl))
  try simp only [Act.put, List.setIfInBounds_toArray, List.set_cons_zero, List.set_cons_succ]
  refine yg (i := 22) (oi := ⟨some 27, .fieldAddr 61 (.tmp 3) 8, _, _, _, _⟩) (v := ?vR1c4x22) rfl (by kernel_rfl) (by kernel_rfl) (by kernel_rfl) (by kernel_rfl) (fun _ _ _ h => h) (Or.inl ⟨by rfl, ?hyR1c4x22⟩) (by assumption) ?restR1c4x22
  case hyR1c4x22 => (intro w hSw; (try dsimp only at hSw); go_simp; try (with_reducible rfl))
  try simp only [Act.put, List.setIfInBounds_toArray, List.set_cons_zero, List.set_cons_succ]
  refine yg (i := 23) (oi := ⟨some 28, .load 58 (.tmp 27), _, _, _, _⟩) (v := ?vR1c4x23) rfl (by kernel_rfl) (by kernel_rfl) (by kernel_rfl) (by kernel_rfl) (fun _ _ _ h => h) (Or.inl ⟨by rfl, ?hyR1c4x23⟩) (by assumption) ?restR1c4x23
  case hyR1c4x23 => (intro w hSw; (try dsimp only at hSw); go_simp; try (with_reducible rfl))
  try simp only [Act.put, List.setIfInBounds_toArray, List.set_cons_zero, List.set_cons_succ]
  refine zr (i := 24) (o := ⟨some 29, .call { callee := .value (.func 52), args := #[(.tmp 26), (.tmp 28)], argTypes := #[58, 58] }, _, _, _, _⟩) (by kernel_rfl) rfl (fun K hK => ?_)
  go_simp
  refine cZ (ZHb.out _ HB17.out) ?_
  rintro e w24 ⟨rfl, hbw24⟩
  go_wp2_with fail
  have HB24 : Hid (Below X.heap.size X w24) := yj HB17.out hbw24
  clear hbw24 hHeld
  have hHeld := (⟨HHd.out _ HB24.out, trivial⟩ : _ ∧ True)
  refine hK.out _ _ ⟨hHeld.1, fun _ => trivial⟩ ?_
  clear hK K
  refine yg (i := 25) (oi := ⟨some 30, .pick (.tmp 24) (.tmp 29) ((.const (.bool false))), _, _, _, _⟩) (v := ?vR1c4x25) rfl (by kernel_rfl) (by kernel_rfl) (by kernel_rfl) (by kernel_rfl) (fun _ _ _ h => h) (Or.inl ⟨by rfl, ?hyR1c4x25⟩) (by assumption) ?restR1c4x25
  case hyR1c4x25 => (intro w hSw; (try dsimp only at hSw); go_simp; try (with_reducible rfl))
  try simp only [Act.put, List.setIfInBounds_toArray, List.set_cons_zero, List.set_cons_succ]
  refine yg (i := 26) (oi := ⟨some 31, .move (.tmp 30), _, _, _, _⟩) (v := ?vR1c4x26) rfl (by kernel_rfl) (by kernel_rfl) (by kernel_rfl) (by kernel_rfl) (fun _ _ _ h => h) (Or.inl ⟨by rfl, ?hyR1c4x26⟩) (by assumption) ?restR1c4x26
  case hyR1c4x26 => (intro w hSw; (try dsimp only at hSw); go_simp; try (with_reducible rfl))
  try simp only [Act.put, List.setIfInBounds_toArray, List.set_cons_zero, List.set_cons_succ]
  refine yg (i := 27) (oi := ⟨some 32, .fieldAddr 61 (.tmp 2) 9, _, _, _, _⟩) (v := undef) rfl (by kernel_rfl) (by kernel_rfl) (by kernel_rfl) (by kernel_rfl) (fun _ _ _ h => h) (Or.inr ⟨by rfl, rfl⟩) (by assumption) ?restR1c4x27
  try simp only [Act.put, List.setIfInBounds_toArray, List.set_cons_zero, List.set_cons_succ]
  refine yg (i := 28) (oi := ⟨some 33, .load 59 (.tmp 32), _, _, _, _⟩) (v := undef) rfl (by kernel_rfl) (by kernel_rfl) (by kernel_rfl) (by kernel_rfl) (fun _ _ _ h => h) (Or.inr ⟨by rfl, rfl⟩) (by assumption) ?restR1c4x28
  try simp only [Act.put, List.setIfInBounds_toArray, List.set_cons_zero, List.set_cons_succ]
  refine yg (i := 29) (oi := ⟨some 34, .fieldAddr 61 (.tmp 3) 9, _, _, _, _⟩) (v := undef) rfl (by kernel_rfl) (by kernel_rfl) (by kernel_rfl) (by kernel_rfl) (fun _ _ _ h => h) (Or.inr ⟨by rfl, rfl⟩) (by assumption) ?restR1c4x29
  try simp only [Act.put, List.setIfInBounds_toArray, List.set_cons_zero, List.set_cons_succ]
  refine yg (i := 30) (oi := ⟨some 35, .load 59 (.tmp 34), _, _, _, _⟩) (v := undef) rfl (by kernel_rfl) (by kernel_rfl) (by kernel_rfl) (by kernel_rfl) (fun _ _ _ h => h) (Or.inr ⟨by rfl, rfl⟩) (by assumption) ?restR1c4x30
  try simp only [Act.put, List.setIfInBounds_toArray, List.set_cons_zero, List.set_cons_succ]
  refine yg (i := 31) (oi := ⟨some 36, .call { callee := .value (.func 53), args := #[(.tmp 33), (.tmp 35), Operand.func 52], argTypes := #[59, 59, 124] }, _, _, _, _⟩) (v := undef) rfl (by kernel_rfl) (by kernel_rfl) (by kernel_rfl) (by kernel_rfl) (fun _ _ _ h => h) (Or.inr ⟨by rfl, rfl⟩) (by assumption) ?restR1c4x31
  try simp only [Act.put, List.setIfInBounds_toArray, List.set_cons_zero, List.set_cons_succ]
  refine yg (i := 32) (oi := ⟨some 37, .pick (.tmp 31) (.tmp 36) ((.const (.bool false))), _, _, _, _⟩) (v := ?vR1c4x32) rfl (by kernel_rfl) (by kernel_rfl) (by kernel_rfl) (by kernel_rfl) (fun _ _ _ h => h) (Or.inl ⟨by rfl, ?hyR1c4x32⟩) (by assumption) ?restR1c4x32
  case hyR1c4x32 => (intro w hSw; (try dsimp only at hSw); go_simp; try (with_reducible rfl))
  try simp only [Act.put, List.setIfInBounds_toArray, List.set_cons_zero, List.set_cons_succ]
  refine yg (i := 33) (oi := ⟨some 4, .assign (.tmp 37), _, _, _, _⟩) (v := ?vR1c4x33) rfl (by kernel_rfl) (by kernel_rfl) (by kernel_rfl) (by kernel_rfl) (fun _ _ _ h => h) (Or.inl ⟨by rfl, ?hyR1c4x33⟩) (by assumption) ?restR1c4x33
  case hyR1c4x33 => (intro w hSw; (try dsimp only at hSw); go_simp; try (with_reducible rfl))
  try simp only [Act.put, List.setIfInBounds_toArray, List.set_cons_zero, List.set_cons_succ]
  refine YP (by kernel_rfl) ?_ _
  go_wp2_with fail
  go_ret
  exact ⟨rfl, yj HBX.out HB24.out⟩
set_option maxRecDepth 10000 in
set_option maxHeartbeats 2000000 in
theorem y5x {p0 p1 p3 p4 p5 p6 q0 q1 q3 q4 q5 q6 : Int} {pt px pb pr qt qx qb qr : Option Addr} {ptn ptc pxn pxc pbn pbc prn prc qtn qtc qxn qxc qbn qbc qrn qrc : Nat} (w : World) (R : Bool) (HA : ∀ w', Below w.heap.size w w' → Calls Tryz.prog 51 #[.agg #[.int .i64 p0, .int .i64 p1, .slice pt ptn ptc, .int .i64 p3, .int .i64 p4, .int .i64 p5, .int .i64 p6, .slice px pxn pxc, .slice pb pbn pbc, .slice pr prn prc]] w' fun e w2 => e = .returned (.agg #[.int .i64 p0, .int .i64 p1, .int .i64 p3, .int .i64 p4, .int .i64 p5, .int .i64 p6]) ∧ Below w'.heap.size w' w2) (HB : ∀ w', Below w.heap.size w w' → Calls Tryz.prog 51 #[.agg #[.int .i64 q0, .int .i64 q1, .slice qt qtn qtc, .int .i64 q3, .int .i64 q4, .int .i64 q5, .int .i64 q6, .slice qx qxn qxc, .slice qb qbn qbc, .slice qr qrn qrc]] w' fun e w2 => e = .returned (.agg #[.int .i64 q0, .int .i64 q1, .int .i64 q3, .int .i64 q4, .int .i64 q5, .int .i64 q6]) ∧ Below w'.heap.size w' w2)
    (HPl : ∀ W, (binOp .eql 122 (.agg #[.int .i64 p0, .int .i64 p1, .int .i64 p3, .int .i64 p4, .int .i64 p5, .int .i64 p6]) (.agg #[.int .i64 q0, .int .i64 q1, .int .i64 q3, .int .i64 q4, .int .i64 q5, .int .i64 q6])).run Tryz.prog W = .ok (.bool true) W)
    (Ht : ∀ w', Below w.heap.size w w' → Calls Tryz.prog 32 #[.slice pt ptn ptc, .slice qt qtn qtc] w' fun e w2 => e = .returned (.bool true) ∧ Below w'.heap.size w' w2)
    (Hx : ∀ w', Below w.heap.size w w' → Calls Tryz.prog 52 #[.slice px pxn pxc, .slice qx qxn qxc] w' fun e w2 => e = .returned (.bool true) ∧ Below w'.heap.size w' w2)
    (Hb : ∀ w', Below w.heap.size w w' → Calls Tryz.prog 52 #[.slice pb pbn pbc, .slice qb qbn qbc] w' fun e w2 => e = .returned (.bool true) ∧ Below w'.heap.size w' w2)
    (Hr : ∀ w', Below w.heap.size w w' → Calls Tryz.prog 53 #[.slice pr prn prc, .slice qr qrn qrc, .func (.func 52) #[] #[]] w' fun e w2 => e = .returned (.bool R) ∧ Below w'.heap.size w' w2) :
    Calls Tryz.prog 31 #[.agg #[.int .i64 p0, .int .i64 p1, .slice pt ptn ptc, .int .i64 p3, .int .i64 p4, .int .i64 p5, .int .i64 p6, .slice px pxn pxc, .slice pb pbn pbc, .slice pr prn prc], .agg #[.int .i64 q0, .int .i64 q1, .slice qt qtn qtc, .int .i64 q3, .int .i64 q4, .int .i64 q5, .int .i64 q6, .slice qx qxn qxc, .slice qb qbn qbc, .slice qr qrn qrc]] w fun e w' => e = .returned (.bool R) ∧ Below w.heap.size w w' := by
  obtain ⟨V, hV⟩ : ∃ V, w.alloc (.cells #[.int .i64 p0, .int .i64 p1, .slice pt ptn ptc, .int .i64 p3, .int .i64 p4, .int .i64 p5, .int .i64 p6, .slice px pxn pxc, .slice pb pbn pbc, .slice pr prn prc] 61) = V := ⟨_, rfl⟩
  obtain ⟨X, hX⟩ : ∃ X, V.alloc (.cells #[.int .i64 q0, .int .i64 q1, .slice qt qtn qtc, .int .i64 q3, .int .i64 q4, .int .i64 q5, .int .i64 q6, .slice qx qxn qxc, .slice qb qbn qbc, .slice qr qrn qrc] 61) = X := ⟨_, rfl⟩
  obtain ⟨N1, hN1⟩ : ∃ N1, w.heap.size = N1 := ⟨_, rfl⟩
  obtain ⟨N2, hN2⟩ : ∃ N2, V.heap.size = N2 := ⟨_, rfl⟩
  have HBX : Hid (Below w.heap.size w X) := by
    show Below _ _ _
    rw [← hX, ← hV]
    exact ((Below.refl _ _).alloc (Nat.le_refl _) _).alloc (by simp) _
  have HHd : Hid (∀ w', Below X.heap.size X w' → (w'.cell? ⟨N1, 0, none⟩ = some (.int .i64 p0) ∧ w'.cell? ⟨N1, 1, none⟩ = some (.int .i64 p1) ∧ w'.cell? ⟨N1, 2, none⟩ = some (.slice pt ptn ptc) ∧ w'.cell? ⟨N1, 3, none⟩ = some (.int .i64 p3) ∧ w'.cell? ⟨N1, 4, none⟩ = some (.int .i64 p4) ∧ w'.cell? ⟨N1, 5, none⟩ = some (.int .i64 p5) ∧ w'.cell? ⟨N1, 6, none⟩ = some (.int .i64 p6) ∧ w'.cell? ⟨N1, 7, none⟩ = some (.slice px pxn pxc) ∧ w'.cell? ⟨N1, 8, none⟩ = some (.slice pb pbn pbc) ∧ w'.cell? ⟨N1, 9, none⟩ = some (.slice pr prn prc)) ∧ (w'.cell? ⟨N2, 0, none⟩ = some (.int .i64 q0) ∧ w'.cell? ⟨N2, 1, none⟩ = some (.int .i64 q1) ∧ w'.cell? ⟨N2, 2, none⟩ = some (.slice qt qtn qtc) ∧ w'.cell? ⟨N2, 3, none⟩ = some (.int .i64 q3) ∧ w'.cell? ⟨N2, 4, none⟩ = some (.int .i64 q4) ∧ w'.cell? ⟨N2, 5, none⟩ = some (.int .i64 q5) ∧ w'.cell? ⟨N2, 6, none⟩ = some (.int .i64 q6) ∧ w'.cell? ⟨N2, 7, none⟩ = some (.slice qx qxn qxc) ∧ w'.cell? ⟨N2, 8, none⟩ = some (.slice qb qbn qbc) ∧ w'.cell? ⟨N2, 9, none⟩ = some (.slice qr qrn qrc))) := fun w' hb => by
    have gV : V.heap[N1]? = some (.cells #[.int .i64 p0, .int .i64 p1, .slice pt ptn ptc, .int .i64 p3, .int .i64 p4, .int .i64 p5, .int .i64 p6, .slice px pxn pxc, .slice pb pbn pbc, .slice pr prn prc] 61 (0, 0)) := by rw [← hV, ← hN1]; exact heap_alloc_new w _
    have gX : X.heap[N2]? = some (.cells #[.int .i64 q0, .int .i64 q1, .slice qt qtn qtc, .int .i64 q3, .int .i64 q4, .int .i64 q5, .int .i64 q6, .slice qx qxn qxc, .slice qb qbn qbc, .slice qr qrn qrc] 61 (0, 0)) := by rw [← hX, ← hN2]; exact heap_alloc_new V _
    have gV1 : X.heap[N1]? = some (.cells #[.int .i64 p0, .int .i64 p1, .slice pt ptn ptc, .int .i64 p3, .int .i64 p4, .int .i64 p5, .int .i64 p6, .slice px pxn pxc, .slice pb pbn pbc, .slice pr prn prc] 61 (0, 0)) := by rw [← hX]; exact (heap_alloc_old V _ (Array.getElem?_eq_some_iff.1 gV).1).trans gV
    exact ⟨xv ((hb.block _ (Array.getElem?_eq_some_iff.1 gV1).1).trans gV1), xv ((hb.block _ (Array.getElem?_eq_some_iff.1 gX).1).trans gX)⟩
  have ZHA : Hid (∀ w', Below X.heap.size X w' → Calls Tryz.prog 51 #[.agg #[.int .i64 p0, .int .i64 p1, .slice pt ptn ptc, .int .i64 p3, .int .i64 p4, .int .i64 p5, .int .i64 p6, .slice px pxn pxc, .slice pb pbn pbc, .slice pr prn prc]] w' fun e w2 => e = .returned (.agg #[.int .i64 p0, .int .i64 p1, .int .i64 p3, .int .i64 p4, .int .i64 p5, .int .i64 p6]) ∧ Below w'.heap.size w' w2) := fun w' hb => HA w' (yj HBX.out hb)
  have ZHB : Hid (∀ w', Below X.heap.size X w' → Calls Tryz.prog 51 #[.agg #[.int .i64 q0, .int .i64 q1, .slice qt qtn qtc, .int .i64 q3, .int .i64 q4, .int .i64 q5, .int .i64 q6, .slice qx qxn qxc, .slice qb qbn qbc, .slice qr qrn qrc]] w' fun e w2 => e = .returned (.agg #[.int .i64 q0, .int .i64 q1, .int .i64 q3, .int .i64 q4, .int .i64 q5, .int .i64 q6]) ∧ Below w'.heap.size w' w2) := fun w' hb => HB w' (yj HBX.out hb)
  have ZHt : Hid (∀ w', Below X.heap.size X w' → Calls Tryz.prog 32 #[.slice pt ptn ptc, .slice qt qtn qtc] w' fun e w2 => e = .returned (.bool true) ∧ Below w'.heap.size w' w2) := fun w' hb => Ht w' (yj HBX.out hb)
  have ZHx : Hid (∀ w', Below X.heap.size X w' → Calls Tryz.prog 52 #[.slice px pxn pxc, .slice qx qxn qxc] w' fun e w2 => e = .returned (.bool true) ∧ Below w'.heap.size w' w2) := fun w' hb => Hx w' (yj HBX.out hb)
  have ZHb : Hid (∀ w', Below X.heap.size X w' → Calls Tryz.prog 52 #[.slice pb pbn pbc, .slice qb qbn qbc] w' fun e w2 => e = .returned (.bool true) ∧ Below w'.heap.size w' w2) := fun w' hb => Hb w' (yj HBX.out hb)
  have ZHr : Hid (∀ w', Below X.heap.size X w' → Calls Tryz.prog 53 #[.slice pr prn prc, .slice qr qrn qrc, .func (.func 52) #[] #[]] w' fun e w2 => e = .returned (.bool R) ∧ Below w'.heap.size w' w2) := fun w' hb => Hr w' (yj HBX.out hb)
  clear HA HB Ht Hx Hb Hr
  go_enter Tryz.func31, Tryz.ntmps31
  go_upto_region 1 with fail
  try rw [hV]
  try rw [hN1]
  try rw [hX]
  try rw [hN2]
  clear hV hN1 hX hN2
  have HBd : Hid (Below X.heap.size X X.drew) := (Below.refl _ _).drew
  refine YO (fun w' => (w'.cell? ⟨N1, 0, none⟩ = some (.int .i64 p0) ∧ w'.cell? ⟨N1, 1, none⟩ = some (.int .i64 p1) ∧ w'.cell? ⟨N1, 2, none⟩ = some (.slice pt ptn ptc) ∧ w'.cell? ⟨N1, 3, none⟩ = some (.int .i64 p3) ∧ w'.cell? ⟨N1, 4, none⟩ = some (.int .i64 p4) ∧ w'.cell? ⟨N1, 5, none⟩ = some (.int .i64 p5) ∧ w'.cell? ⟨N1, 6, none⟩ = some (.int .i64 p6) ∧ w'.cell? ⟨N1, 7, none⟩ = some (.slice px pxn pxc) ∧ w'.cell? ⟨N1, 8, none⟩ = some (.slice pb pbn pbc) ∧ w'.cell? ⟨N1, 9, none⟩ = some (.slice pr prn prc)) ∧ (w'.cell? ⟨N2, 0, none⟩ = some (.int .i64 q0) ∧ w'.cell? ⟨N2, 1, none⟩ = some (.int .i64 q1) ∧ w'.cell? ⟨N2, 2, none⟩ = some (.slice qt qtn qtc) ∧ w'.cell? ⟨N2, 3, none⟩ = some (.int .i64 q3) ∧ w'.cell? ⟨N2, 4, none⟩ = some (.int .i64 q4) ∧ w'.cell? ⟨N2, 5, none⟩ = some (.int .i64 q5) ∧ w'.cell? ⟨N2, 6, none⟩ = some (.int .i64 q6) ∧ w'.cell? ⟨N2, 7, none⟩ = some (.slice qx qxn qxc) ∧ w'.cell? ⟨N2, 8, none⟩ = some (.slice qb qbn qbc) ∧ w'.cell? ⟨N2, 9, none⟩ = some (.slice qr qrn qrc))) (fun _ => True) [99] rfl ⟨HHd.out _ HBd.out, trivial⟩ (fun hHeld => ?_)
  generalize X.drew = U at HBd hHeld ⊢
  refine yg (i := 0) (oi := ⟨some 5, .load 61 (.tmp 2), _, _, _, _⟩) (v := ?vR1c5x0) rfl (by kernel_rfl) (by kernel_rfl) (by kernel_rfl) (by kernel_rfl) (fun _ _ _ h => h) (Or.inl ⟨by rfl, ?hyR1c5x0⟩) (by assumption) ?restR1c5x0
  case hyR1c5x0 => (intro w hSw; (try dsimp only at hSw); go_simp; try (with_reducible rfl))
  try simp only [Act.put, List.setIfInBounds_toArray, List.set_cons_zero, List.set_cons_succ]
  refine yg (i := 2) (oi := ⟨some 7, .load 61 (.tmp 3), _, _, _, _⟩) (v := ?vR1c5x2) rfl (by kernel_rfl) (by kernel_rfl) (by kernel_rfl) (by kernel_rfl) (fun _ _ _ h => h) (Or.inl ⟨by rfl, ?hyR1c5x2⟩) (by assumption) ?restR1c5x2
  case hyR1c5x2 => (intro w hSw; (try dsimp only at hSw); go_simp; try (with_reducible rfl))
  try simp only [Act.put, List.setIfInBounds_toArray, List.set_cons_zero, List.set_cons_succ]
  refine zr (i := 1) (o := ⟨some 6, .call { callee := .value (.func 51), args := #[(.tmp 5)], argTypes := #[61] }, _, _, _, _⟩) (by kernel_rfl) rfl (fun K hK => ?_)
  go_simp
  refine cZ (ZHA.out _ HBd.out) ?_
  rintro e w1 ⟨rfl, hbw1⟩
  go_wp2_with fail
  have HB1 : Hid (Below X.heap.size X w1) := yj HBd.out hbw1
  clear hbw1 hHeld
  have hHeld := (⟨HHd.out _ HB1.out, trivial⟩ : _ ∧ True)
  refine hK.out _ _ ⟨hHeld.1, fun _ => trivial⟩ ?_
  clear hK K
  refine zr (i := 3) (o := ⟨some 8, .call { callee := .value (.func 51), args := #[(.tmp 7)], argTypes := #[61] }, _, _, _, _⟩) (by kernel_rfl) rfl (fun K hK => ?_)
  go_simp
  refine cZ (ZHB.out _ HB1.out) ?_
  rintro e w3 ⟨rfl, hbw3⟩
  go_wp2_with fail
  have HB3 : Hid (Below X.heap.size X w3) := yj HB1.out hbw3
  clear hbw3 hHeld
  have hHeld := (⟨HHd.out _ HB3.out, trivial⟩ : _ ∧ True)
  refine hK.out _ _ ⟨hHeld.1, fun _ => trivial⟩ ?_
  clear hK K
  refine yg (i := 4) (oi := ⟨some 9, .binOp .eql 122 (.tmp 6) (.tmp 8) 122, _, _, _, _⟩) (v := ?vR1c5x4) rfl (by kernel_rfl) (by kernel_rfl) (by kernel_rfl) (by kernel_rfl) (fun _ _ _ h => h) (Or.inl ⟨by rfl, ?hyR1c5x4⟩) (by assumption) ?restR1c5x4
  case hyR1c5x4 => (intro w hSw; (try dsimp only at hSw); go_simp; try (with_reducible rfl))
  try simp only [Act.put, List.setIfInBounds_toArray, List.set_cons_zero, List.set_cons_succ]
  refine yg (i := 5) (oi := ⟨some 10, .move (.tmp 9), _, _, _, _⟩) (v := ?vR1c5x5) rfl (by kernel_rfl) (by kernel_rfl) (by kernel_rfl) (by kernel_rfl) (fun _ _ _ h => h) (Or.inl ⟨by rfl, ?hyR1c5x5⟩) (by assumption) ?restR1c5x5
  case hyR1c5x5 => (intro w hSw; (try dsimp only at hSw); go_simp; try (with_reducible rfl))
  try simp only [Act.put, List.setIfInBounds_toArray, List.set_cons_zero, List.set_cons_succ]
  refine yg (i := 6) (oi := ⟨some 11, .fieldAddr 61 (.tmp 2) 2, _, _, _, _⟩) (v := ?vR1c5x6) rfl (by kernel_rfl) (by kernel_rfl) (by kernel_rfl) (by kernel_rfl) (fun _ _ _ h => h) (Or.inl ⟨by rfl, ?hyR1c5x6⟩) (by assumption) ?restR1c5x6
  case hyR1c5x6 => (intro w hSw; (try dsimp only at hSw); go_simp; try (with_reducible rfl))
  try simp only [Act.put, List.setIfInBounds_toArray, List.set_cons_zero, List.set_cons_succ]
  refine yg (i := 7) (oi := ⟨some 12, .load 24 (.tmp 11), _, _, _, _⟩) (v := ?vR1c5x7) rfl (by kernel_rfl) (by kernel_rfl) (by kernel_rfl) (by kernel_rfl) (fun _ _ _ h => h) (Or.inl ⟨by rfl, ?hyR1c5x7⟩) (by assumption) ?restR1c5x7
  case hyR1c5x7 => (intro w hSw; (try dsimp only at hSw); go_simp; try (with_reducible rfl))
  try simp only [Act.put, List.setIfInBounds_toArray, List.set_cons_zero, List.set_cons_succ]
  refine yg (i := 8) (oi := ⟨some 13, .fieldAddr 61 (.tmp 3) 2, _, _, _, _⟩) (v := ?vR1c5x8) rfl (by kernel_rfl) (by kernel_rfl) (by kernel_rfl) (by kernel_rfl) (fun _ _ _ h => h) (Or.inl ⟨by rfl, ?hyR1c5x8⟩) (by assumption) ?restR1c5x8
  case hyR1c5x8 => (intro w hSw; (try dsimp only at hSw); go_simp; try (with_reducible rfl))
  try simp only [Act.put, List.setIfInBounds_toArray, List.set_cons_zero, List.set_cons_succ]
  refine yg (i := 9) (oi := ⟨some 14, .load 24 (.tmp 13), _, _, _, _⟩) (v := ?vR1c5x9) rfl (by kernel_rfl) (by kernel_rfl) (by kernel_rfl) (by kernel_rfl) (fun _ _ _ h => h) (Or.inl ⟨by rfl, ?hyR1c5x9⟩) (by assumption) ?restR1c5x9
  case hyR1c5x9 => (intro w hSw; (try dsimp only at hSw); go_simp; try (with_reducible rfl))
  try simp only [Act.put, List.setIfInBounds_toArray, List.set_cons_zero, List.set_cons_succ]
  refine zr (i := 10) (o := ⟨some 15, .call { callee := .value (.func 32), args := #[(.tmp 12), (.tmp 14)], argTypes := #[24, 24] }, _, _, _, _⟩) (by kernel_rfl) rfl (fun K hK => ?_)
  go_simp
  refine cZ (ZHt.out _ HB3.out) ?_
  rintro e w10 ⟨rfl, hbw10⟩
  go_wp2_with fail
  have HB10 : Hid (Below X.heap.size X w10) := yj HB3.out hbw10
  clear hbw10 hHeld
  have hHeld := (⟨HHd.out _ HB10.out, trivial⟩ : _ ∧ True)
  refine hK.out _ _ ⟨hHeld.1, fun _ => trivial⟩ ?_
  clear hK K
  refine yg (i := 11) (oi := ⟨some 16, .pick (.tmp 10) (.tmp 15) ((.const (.bool false))), _, _, _, _⟩) (v := ?vR1c5x11) rfl (by kernel_rfl) (by kernel_rfl) (by kernel_rfl) (by kernel_rfl) (fun _ _ _ h => h) (Or.inl ⟨by rfl, ?hyR1c5x11⟩) (by assumption) ?restR1c5x11
  case hyR1c5x11 => (intro w hSw; (try dsimp only at hSw); go_simp; try (with_reducible rfl))
  try simp only [Act.put, List.setIfInBounds_toArray, List.set_cons_zero, List.set_cons_succ]
  refine yg (i := 12) (oi := ⟨some 17, .move (.tmp 16), _, _, _, _⟩) (v := ?vR1c5x12) rfl (by kernel_rfl) (by kernel_rfl) (by kernel_rfl) (by kernel_rfl) (fun _ _ _ h => h) (Or.inl ⟨by rfl, ?hyR1c5x12⟩) (by assumption) ?restR1c5x12
  case hyR1c5x12 => (intro w hSw; (try dsimp only at hSw); go_simp; try (with_reducible rfl))
  try simp only [Act.put, List.setIfInBounds_toArray, List.set_cons_zero, List.set_cons_succ]
  refine yg (i := 13) (oi := ⟨some 18, .fieldAddr 61 (.tmp 2) 7, _, _, _, _⟩) (v := ?vR1c5x13) rfl (by kernel_rfl) (by kernel_rfl) (by kernel_rfl) (by kernel_rfl) (fun _ _ _ h => h) (Or.inl ⟨by rfl, ?hyR1c5x13⟩) (by assumption) ?restR1c5x13
  case hyR1c5x13 => (intro w hSw; (try dsimp only at hSw); go_simp; try (with_reducible rfl))
  try simp only [Act.put, List.setIfInBounds_toArray, List.set_cons_zero, List.set_cons_succ]
  refine yg (i := 14) (oi := ⟨some 19, .load 58 (.tmp 18), _, _, _, _⟩) (v := ?vR1c5x14) rfl (by kernel_rfl) (by kernel_rfl) (by kernel_rfl) (by kernel_rfl) (fun _ _ _ h => h) (Or.inl ⟨by rfl, ?hyR1c5x14⟩) (by assumption) ?restR1c5x14
  case hyR1c5x14 => (intro w hSw; (try dsimp only at hSw); go_simp; try (with_reducible rfl))
  try simp only [Act.put, List.setIfInBounds_toArray, List.set_cons_zero, List.set_cons_succ]
  refine yg (i := 15) (oi := ⟨some 20, .fieldAddr 61 (.tmp 3) 7, _, _, _, _⟩) (v := ?vR1c5x15) rfl (by kernel_rfl) (by kernel_rfl) (by kernel_rfl) (by kernel_rfl) (fun _ _ _ h => h) (Or.inl ⟨by rfl, ?hyR1c5x15⟩) (by assumption) ?restR1c5x15
  case hyR1c5x15 => (intro w hSw; (try dsimp only at hSw); go_simp; try (with_reducible rfl))
  try simp only [Act.put, List.setIfInBounds_toArray, List.set_cons_zero, List.set_cons_succ]
  refine yg (i := 16) (oi := ⟨some 21, .load 58 (.tmp 20), _, _, _, _⟩) (v := ?vR1c5x16) rfl (by kernel_rfl) (by kernel_rfl) (by kernel_rfl) (by kernel_rfl) (fun _ _ _ h => h) (Or.inl ⟨by rfl, ?hyR1c5x16⟩) (by assumption) ?restR1c5x16
  case hyR1c5x16 => (intro w hSw; (try dsimp only at hSw); go_simp; try (with_reducible rfl))
  try simp only [Act.put, List.setIfInBounds_toArray, List.set_cons_zero, List.set_cons_succ]
  refine zr (i := 17) (o := ⟨some 22, .call { callee := .value (.func 52), args := #[(.tmp 19), (.tmp 21)], argTypes := #[58, 58] }, _, _, _, _⟩) (by kernel_rfl) rfl (fun K hK => ?_)
  go_simp
  refine cZ (ZHx.out _ HB10.out) ?_
  rintro e w17 ⟨rfl, hbw17⟩
  go_wp2_with fail
  have HB17 : Hid (Below X.heap.size X w17) := yj HB10.out hbw17
  clear hbw17 hHeld
  have hHeld := (⟨HHd.out _ HB17.out, trivial⟩ : _ ∧ True)
  refine hK.out _ _ ⟨hHeld.1, fun _ => trivial⟩ ?_
  clear hK K
  refine yg (i := 18) (oi := ⟨some 23, .pick (.tmp 17) (.tmp 22) ((.const (.bool false))), _, _, _, _⟩) (v := ?vR1c5x18) rfl (by kernel_rfl) (by kernel_rfl) (by kernel_rfl) (by kernel_rfl) (fun _ _ _ h => h) (Or.inl ⟨by rfl, ?hyR1c5x18⟩) (by assumption) ?restR1c5x18
  case hyR1c5x18 => (intro w hSw; (try dsimp only at hSw); go_simp; try (with_reducible rfl))
  try simp only [Act.put, List.setIfInBounds_toArray, List.set_cons_zero, List.set_cons_succ]
  refine yg (i := 19) (oi := ⟨some 24, .move (.tmp 23), _, _, _, _⟩) (v := ?vR1c5x19) rfl (by kernel_rfl) (by kernel_rfl) (by kernel_rfl) (by kernel_rfl) (fun _ _ _ h => h) (Or.inl ⟨by rfl, ?hyR1c5x19⟩) (by assumption) ?restR1c5x19
  case hyR1c5x19 => (intro w hSw; (try dsimp only at hSw); go_simp; try (with_reducible rfl))
  try simp only [Act.put, List.setIfInBounds_toArray, List.set_cons_zero, List.set_cons_succ]
  refine yg (i := 20) (oi := ⟨some 25, .fieldAddr 61 (.tmp 2) 8, _, _, _, _⟩) (v := ?vR1c5x20) rfl (by kernel_rfl) (by kernel_rfl) (by kernel_rfl) (by kernel_rfl) (fun _ _ _ h => h) (Or.inl ⟨by rfl, ?hyR1c5x20⟩) (by assumption) ?restR1c5x20
  case hyR1c5x20 => (intro w hSw; (try dsimp only at hSw); go_simp; try (with_reducible rfl))
  try simp only [Act.put, List.setIfInBounds_toArray, List.set_cons_zero, List.set_cons_succ]
  refine yg (i := 21) (oi := ⟨some 26, .load 58 (.tmp 25), _, _, _, _⟩) (v := ?vR1c5x21) rfl (by kernel_rfl) (by kernel_rfl) (by kernel_rfl) (by kernel_rfl) (fun _ _ _ h => h) (Or.inl ⟨by rfl, ?hyR1c5x21⟩) (by assumption) ?restR1c5x21
  case hyR1c5x21 => (intro w hSw; (try dsimp only at hSw); go_simp; try (with_reducible rfl))
  try simp only [Act.put, List.setIfInBounds_toArray, List.set_cons_zero, List.set_cons_succ]
  refine yg (i := 22) (oi := ⟨some 27, .fieldAddr 61 (.tmp 3) 8, _, _, _, _⟩) (v := ?vR1c5x22) rfl (by kernel_rfl) (by kernel_rfl) (by kernel_rfl) (by kernel_rfl) (fun _ _ _ h => h) (Or.inl ⟨by rfl, ?hyR1c5x22⟩) (by assumption) ?restR1c5x22
  case hyR1c5x22 => (intro w hSw; (try dsimp only at hSw); go_simp; try (with_reducible rfl))
  try simp only [Act.put, List.setIfInBounds_toArray, List.set_cons_zero, List.set_cons_succ]
  refine yg (i := 23) (oi := ⟨some 28, .load 58 (.tmp 27), _, _, _, _⟩) (v := ?vR1c5x23) rfl (by kernel_rfl) (by kernel_rfl) (by kernel_rfl) (by kernel_rfl) (fun _ _ _ h => h) (Or.inl ⟨by rfl, ?hyR1c5x23⟩) (by assumption) ?restR1c5x23
  case hyR1c5x23 => (intro w hSw; (try dsimp only at hSw); go_simp; try (with_reducible rfl))
  try simp only [Act.put, List.setIfInBounds_toArray, List.set_cons_zero, List.set_cons_succ]
  refine zr (i := 24) (o := ⟨some 29, .call { callee := .value (.func 52), args := #[(.tmp 26), (.tmp 28)], argTypes := #[58, 58] }, _, _, _, _⟩) (by kernel_rfl) rfl (fun K hK => ?_)
  go_simp
  refine cZ (ZHb.out _ HB17.out) ?_
  rintro e w24 ⟨rfl, hbw24⟩
  go_wp2_with fail
  have HB24 : Hid (Below X.heap.size X w24) := yj HB17.out hbw24
  clear hbw24 hHeld
  have hHeld := (⟨HHd.out _ HB24.out, trivial⟩ : _ ∧ True)
  refine hK.out _ _ ⟨hHeld.1, fun _ => trivial⟩ ?_
  clear hK K
  refine yg (i := 25) (oi := ⟨some 30, .pick (.tmp 24) (.tmp 29) ((.const (.bool false))), _, _, _, _⟩) (v := ?vR1c5x25) rfl (by kernel_rfl) (by kernel_rfl) (by kernel_rfl) (by kernel_rfl) (fun _ _ _ h => h) (Or.inl ⟨by rfl, ?hyR1c5x25⟩) (by assumption) ?restR1c5x25
  case hyR1c5x25 => (intro w hSw; (try dsimp only at hSw); go_simp; try (with_reducible rfl))
  try simp only [Act.put, List.setIfInBounds_toArray, List.set_cons_zero, List.set_cons_succ]
  refine yg (i := 26) (oi := ⟨some 31, .move (.tmp 30), _, _, _, _⟩) (v := ?vR1c5x26) rfl (by kernel_rfl) (by kernel_rfl) (by kernel_rfl) (by kernel_rfl) (fun _ _ _ h => h) (Or.inl ⟨by rfl, ?hyR1c5x26⟩) (by assumption) ?restR1c5x26
  case hyR1c5x26 => (intro w hSw; (try dsimp only at hSw); go_simp; try (with_reducible rfl))
  try simp only [Act.put, List.setIfInBounds_toArray, List.set_cons_zero, List.set_cons_succ]
  refine yg (i := 27) (oi := ⟨some 32, .fieldAddr 61 (.tmp 2) 9, _, _, _, _⟩) (v := ?vR1c5x27) rfl (by kernel_rfl) (by kernel_rfl) (by kernel_rfl) (by kernel_rfl) (fun _ _ _ h => h) (Or.inl ⟨by rfl, ?hyR1c5x27⟩) (by assumption) ?restR1c5x27
  case hyR1c5x27 => (intro w hSw; (try dsimp only at hSw); go_simp; try (with_reducible rfl))
  try simp only [Act.put, List.setIfInBounds_toArray, List.set_cons_zero, List.set_cons_succ]
  refine yg (i := 28) (oi := ⟨some 33, .load 59 (.tmp 32), _, _, _, _⟩) (v := ?vR1c5x28) rfl (by kernel_rfl) (by kernel_rfl) (by kernel_rfl) (by kernel_rfl) (fun _ _ _ h => h) (Or.inl ⟨by rfl, ?hyR1c5x28⟩) (by assumption) ?restR1c5x28
  case hyR1c5x28 => (intro w hSw; (try dsimp only at hSw); go_simp; try (with_reducible rfl))
  try simp only [Act.put, List.setIfInBounds_toArray, List.set_cons_zero, List.set_cons_succ]
  refine yg (i := 29) (oi := ⟨some 34, .fieldAddr 61 (.tmp 3) 9, _, _, _, _⟩) (v := ?vR1c5x29) rfl (by kernel_rfl) (by kernel_rfl) (by kernel_rfl) (by kernel_rfl) (fun _ _ _ h => h) (Or.inl ⟨by rfl, ?hyR1c5x29⟩) (by assumption) ?restR1c5x29
  case hyR1c5x29 => (intro w hSw; (try dsimp only at hSw); go_simp; try (with_reducible rfl))
  try simp only [Act.put, List.setIfInBounds_toArray, List.set_cons_zero, List.set_cons_succ]
  refine yg (i := 30) (oi := ⟨some 35, .load 59 (.tmp 34), _, _, _, _⟩) (v := ?vR1c5x30) rfl (by kernel_rfl) (by kernel_rfl) (by kernel_rfl) (by kernel_rfl) (fun _ _ _ h => h) (Or.inl ⟨by rfl, ?hyR1c5x30⟩) (by assumption) ?restR1c5x30
  case hyR1c5x30 => (intro w hSw; (try dsimp only at hSw); go_simp; try (with_reducible rfl))
  try simp only [Act.put, List.setIfInBounds_toArray, List.set_cons_zero, List.set_cons_succ]
  refine zr (i := 31) (o := ⟨some 36, .call { callee := .value (.func 53), args := #[(.tmp 33), (.tmp 35), Operand.func 52], argTypes := #[59, 59, 124] }, _, _, _, _⟩) (by kernel_rfl) rfl (fun K hK => ?_)
  go_simp
  refine cZ (ZHr.out _ HB24.out) ?_
  rintro e w31 ⟨rfl, hbw31⟩
  go_wp2_with fail
  have HB31 : Hid (Below X.heap.size X w31) := yj HB24.out hbw31
  clear hbw31 hHeld
  have hHeld := (⟨HHd.out _ HB31.out, trivial⟩ : _ ∧ True)
  refine hK.out _ _ ⟨hHeld.1, fun _ => trivial⟩ ?_
  clear hK K
  refine yg (i := 32) (oi := ⟨some 37, .pick (.tmp 31) (.tmp 36) ((.const (.bool false))), _, _, _, _⟩) (v := ?vR1c5x32) rfl (by kernel_rfl) (by kernel_rfl) (by kernel_rfl) (by kernel_rfl) (fun _ _ _ h => h) (Or.inl ⟨by rfl, ?hyR1c5x32⟩) (by assumption) ?restR1c5x32
  case hyR1c5x32 => (intro w hSw; (try dsimp only at hSw); go_simp; try (with_reducible rfl))
  try simp only [Act.put, List.setIfInBounds_toArray, List.set_cons_zero, List.set_cons_succ]
  refine yg (i := 33) (oi := ⟨some 4, .assign (.tmp 37), _, _, _, _⟩) (v := ?vR1c5x33) rfl (by kernel_rfl) (by kernel_rfl) (by kernel_rfl) (by kernel_rfl) (fun _ _ _ h => h) (Or.inl ⟨by rfl, ?hyR1c5x33⟩) (by assumption) ?restR1c5x33
  case hyR1c5x33 => (intro w hSw; (try dsimp only at hSw); go_simp; try (with_reducible rfl))
  try simp only [Act.put, List.setIfInBounds_toArray, List.set_cons_zero, List.set_cons_succ]
  refine YP (by kernel_rfl) ?_ _
  go_wp2_with fail
  go_ret
  exact ⟨rfl, yj HBX.out HB31.out⟩
end Go.Proofs.YthohnmplbjhjaaaGreatDoor
