/-
  Package write: Same.
-/
import Derived.Test.YtibbnijicdijnaaGreatDoorJ46
namespace Go.Proofs.YtibbnijicdijnaaGreatDoor
open Go.RowKit

theorem int_one (w : World) (n : Int) : RdAt (w.alloc (.cells #[.int .i64 n] 3)) (.slice (some ⟨w.heap.size, 0, none⟩) 1 1) 1 ([n].map (.int .i64)) := by
  have hg := heap_alloc_new w (.cells #[.int .i64 n] 3)
  refine ⟨_, _, rfl, by omega, fun _ => ⟨w.heap.size, 0, rfl, (Array.getElem?_eq_some_iff.1 hg).1, fun j u hu => ?_⟩⟩
  rw [Nat.zero_add, cell_of hg]
  simpa using hu
def sameS (i : Int) (P : List PcL) (deg : List UInt8) : SL := { SL.zero with k := 12, pcs := P, deg := deg, ids := [Lib.itoa i] }
set_option maxRecDepth 10000 in
set_option maxHeartbeats 2000000 in
theorem wsame_any {B b : Nat} {D : List SL} {ov goal : Bool} {last : Int} (i : Int) (P : List PcL) (deg : List UInt8) (vp : Value) (w : World) (h : LgD B b D ov last goal w) (hP : RdAt w vp P.length (pcsC P)) (hI : -9223372036854775808 ≤ i ∧ i ≤ 9223372036854775807) (hf : Fit D [sameS i P deg]) (hg : Gl w) (h12 : 12 ≤ B) : Calls Tryz.prog 27 #[.pointer (some ⟨b, 0, none⟩), .int .i64 i, .agg #[vp, .string (txtOf deg)]] w (LyO B b D ov last goal [sameS i P deg] w) := by
  have hBw : B ≤ w.heap.size := Nat.le_of_lt (Nat.lt_of_le_of_lt h.at_.1 h.at_.lt)
  have hn : ∀ (W : World) (xs : List Value), RdAt W (.slice none 0 0) 0 xs := fun W xs => ⟨none, 0, rfl, by omega, fun h => absurd h (Nat.lt_irrefl _)⟩
  obtain ⟨pa, pc, rfl, _, _⟩ := id hP
  obtain ⟨V, hV⟩ : ∃ V, w.alloc (.cells #[.slice pa P.length pc, .string (txtOf deg)] 41) = V := ⟨_, rfl⟩
  have hbV : Below w.heap.size w V := by rw [← hV]; exact (Below.refl _ _).alloc (Nat.le_refl _) _
  have gV : V.heap[w.heap.size]? = some (.cells #[.slice pa P.length pc, .string (txtOf deg)] 41 (0, 0)) := by rw [← hV]; exact heap_alloc_new w _
  have hd : Below w.heap.size w V.drew := hbV.drew
  have HC : Hid (∀ w', Below V.drew.heap.size V.drew w' → w'.cell? ⟨w.heap.size, 0, none⟩ = some (.slice pa P.length pc) ∧ w'.cell? ⟨w.heap.size, 1, none⟩ = some (.string (txtOf deg))) := fun w' hb => by
    have g := (hb.block w.heap.size (show w.heap.size < V.drew.heap.size from (Array.getElem?_eq_some_iff.1 gV).1)).trans (show V.drew.heap[w.heap.size]? = _ from gV)
    exact ⟨cell_of g 0, cell_of g 1⟩
  have hI1 : ∀ x ∈ [i], -9223372036854775808 ≤ x ∧ x ≤ 9223372036854775807 := fun x hx => by
    have e : x = i := by simpa using hx
    rw [e]
    exact hI
  have HDc : Hid (∀ w', Below w.heap.size w w' → Calls Tryz.prog 54 #[.slice (some ⟨w'.heap.size, 0, none⟩) 1 1] (w'.alloc (.cells #[.int .i64 i] 3)) fun e w2 => e = .returned (.slice (some ⟨(w'.alloc (.cells #[.int .i64 i] 3)).heap.size, 0, none⟩) 1 1) ∧ RdAt w2 (.slice (some ⟨(w'.alloc (.cells #[.int .i64 i] 3)).heap.size, 0, none⟩) 1 1) 1 (([i].map Lib.itoa).map fun x => .string (txtOf x)) ∧ Below (w'.alloc (.cells #[.int .i64 i] 3)).heap.size (w'.alloc (.cells #[.int .i64 i] 3)) w2) := fun w' hb => dec_any [i] _ _ (int_one w' i) hI1 (by simp) (hg.next (hb.alloc hb.size _)) (Nat.le_trans h12 (Nat.le_trans hBw (hb.alloc hb.size _).size))
  have HL : Hid (∀ w' x, Below w.heap.size w w' → RdAt w' (.slice x 1 1) 1 (([i].map Lib.itoa).map fun x => .string (txtOf x)) → Calls Tryz.prog 51 #[.pointer (some ⟨b, 0, none⟩), .slice (some ⟨w'.heap.size, 0, none⟩) 1 1] (w'.alloc (.cells #[.int .i64 12, .string ⟨#[]⟩, .slice none 0 0, .slice pa P.length pc, .string (txtOf deg), .slice none 0 0, .slice x 1 1, .int .i64 0, .string ⟨#[]⟩, .string ⟨#[]⟩] 45)) (LyO B b D ov last goal [sameS i P deg] (w'.alloc (.cells #[.int .i64 12, .string ⟨#[]⟩, .slice none 0 0, .slice pa P.length pc, .string (txtOf deg), .slice none 0 0, .slice x 1 1, .int .i64 0, .string ⟨#[]⟩, .string ⟨#[]⟩] 45)))) := fun w' x hb hr => by
    have hb2 := hb.alloc hb.size (.cells #[.int .i64 12, .string ⟨#[]⟩, .slice none 0 0, .slice pa P.length pc, .string (txtOf deg), .slice none 0 0, .slice x 1 1, .int .i64 0, .string ⟨#[]⟩, .string ⟨#[]⟩] 45)
    exact lay_any [sameS i P deg] _ _ (h.below hb2) (sts_one (d := sameS i P deg) (vo := .slice none 0 0) (vp := .slice pa P.length pc) (vl := .slice none 0 0) (vi := .slice x 1 1) ⟨hn _ _, hP.below hb, hn _ _, hr⟩) hf (hg.next hb2) h12
  have HB : Hid (Below w.heap.size w V.drew) := hd
  have hdc := HC.out V.drew (Below.refl _ _)
  clear h hP hI hI1 hf hg hn hd hbV gV
  go_enter Tryz.func27, Tryz.ntmps27
  go_wp2_with fail
  refine wp_region_T (fun _ => True) (fun w' => w'.cell? ⟨w.heap.size, 0, none⟩ = some (.slice pa P.length pc) ∧ w'.cell? ⟨w.heap.size, 1, none⟩ = some (.string (txtOf deg))) [7] (by kernel_rfl) ⟨trivial, hdc⟩ (fun hHeld => ?_)
  clear hV hdc
  generalize V.drew = U at hHeld HB HC ⊢
  refine wpAnyT_takeB (i := 0) (oi := ⟨some 7, .move (.tmp 0), _, _, _, _⟩) (v := ?va0) rfl (by kernel_rfl) (by kernel_rfl) (by kernel_rfl) (by kernel_rfl) (fun _ _ _ h => h) (Or.inl ⟨by rfl, ?hya0⟩) (by assumption) ?resta0
  case hya0 => (intro w hSw; (try dsimp only at hSw); go_simp; try (with_reducible rfl))
  try simp only [Act.put, List.setIfInBounds_toArray, List.set_cons_zero, List.set_cons_succ]
  refine wpAnyT_takeB (i := 1) (oi := ⟨some 8, .nilCheck (.tmp 7), _, _, _, _⟩) (v := ?va1) rfl (by kernel_rfl) (by kernel_rfl) (by kernel_rfl) (by kernel_rfl) (fun _ _ _ h => h) (Or.inl ⟨by rfl, ?hya1⟩) (by assumption) ?resta1
  case hya1 => (intro w hSw; (try dsimp only at hSw); go_simp; try (with_reducible rfl))
  try simp only [Act.put, List.setIfInBounds_toArray, List.set_cons_zero, List.set_cons_succ]
  refine wpAnyT_takeB (i := 2) (oi := ⟨some 9, .fieldAddr 77 (.tmp 8) 0, _, _, _, _⟩) (v := ?va2) rfl (by kernel_rfl) (by kernel_rfl) (by kernel_rfl) (by kernel_rfl) (fun _ _ _ h => h) (Or.inl ⟨by rfl, ?hya2⟩) (by assumption) ?resta2
  case hya2 => (intro w hSw; (try dsimp only at hSw); go_simp; try (with_reducible rfl))
  try simp only [Act.put, List.setIfInBounds_toArray, List.set_cons_zero, List.set_cons_succ]
  refine wpAnyT_takeB (i := 3) (oi := ⟨some 10, .move (.tmp 1), _, _, _, _⟩) (v := ?va3) rfl (by kernel_rfl) (by kernel_rfl) (by kernel_rfl) (by kernel_rfl) (fun _ _ _ h => h) (Or.inl ⟨by rfl, ?hya3⟩) (by assumption) ?resta3
  case hya3 => (intro w hSw; (try dsimp only at hSw); go_simp; try (with_reducible rfl))
  try simp only [Act.put, List.setIfInBounds_toArray, List.set_cons_zero, List.set_cons_succ]
  refine wpAnyT_take (i := 6) (oi := ⟨some 13, .load 41 (.tmp 5), _, _, _, _⟩) (v := ?va6) rfl (by kernel_rfl) (by kernel_rfl) (by kernel_rfl) (by kernel_rfl) (by kernel_rfl) (fun _ _ _ h => h) (Or.inl ⟨by rfl, ?hya6⟩) (by assumption) ?resta6
  case hya6 => (intro w hSw; (try dsimp only at hSw); obtain ⟨_, ⟨s0, s1⟩⟩ := hSw; go_simp; try (with_reducible rfl))
  try simp only [Act.put, List.setIfInBounds_toArray, List.set_cons_zero, List.set_cons_succ]
  refine wpAnyT_one (i := 4) (o := ⟨some 11, .buildSlice 42 1 #[(0, (.tmp 10))], _, _, _, _⟩) (by kernel_rfl) rfl (fun K hK => ?_)
  go_simp
  have HDu := HDc.out U HB.out
  obtain ⟨X, hX⟩ : ∃ X, U.alloc (.cells #[.int .i64 i] 3) = X := ⟨_, rfl⟩
  have hbX : Below U.heap.size U X := by rw [← hX]; exact (Below.refl _ _).alloc (Nat.le_refl _) _
  have HBX : Hid (Below w.heap.size w X) := bl_next HB.out hbX
  have HBUX : Hid (Below U.heap.size U X) := hbX
  rw [hX] at HDu
  rw [hX]
  have hcX := HC.out X hbX
  clear hX hbX HDc
  refine hK.out _ _ ⟨trivial, fun _ => hcX⟩ ?_
  clear hK K
  try simp only [Act.put, List.setIfInBounds_toArray, List.set_cons_zero, List.set_cons_succ]
  refine wpAnyT_one (i := 5) (o := ⟨some 12, .call { callee := .value (.func 54), args := #[(.tmp 11)], argTypes := #[42] }, _, _, _, _⟩) (by kernel_rfl) rfl (fun K hK => ?_)
  go_simp
  refine calls_at HDu (by with_reducible rfl) (by with_reducible rfl) ?_
  rintro e w1 ⟨rfl, hr1, hb1⟩
  have HB1 : Hid (Below w.heap.size w w1) := bl_next HBX.out hb1
  have HL1 : Hid (Calls Tryz.prog 51 #[.pointer (some ⟨b, 0, none⟩), .slice (some ⟨w1.heap.size, 0, none⟩) 1 1] (w1.alloc (.cells #[.int .i64 12, .string ⟨#[]⟩, .slice none 0 0, .slice pa P.length pc, .string (txtOf deg), .slice none 0 0, .slice (some ⟨X.heap.size, 0, none⟩) 1 1, .int .i64 0, .string ⟨#[]⟩, .string ⟨#[]⟩] 45)) (LyO B b D ov last goal [sameS i P deg] (w1.alloc (.cells #[.int .i64 12, .string ⟨#[]⟩, .slice none 0 0, .slice pa P.length pc, .string (txtOf deg), .slice none 0 0, .slice (some ⟨X.heap.size, 0, none⟩) 1 1, .int .i64 0, .string ⟨#[]⟩, .string ⟨#[]⟩] 45)))) := HL.out w1 _ HB1.out hr1
  have hc1 := HC.out w1 (bl_next HBUX.out hb1)
  clear hr1 hb1 HDu HL
  go_wp2_with fail
  refine hK.out _ _ ⟨trivial, fun _ => hc1⟩ ?_
  clear hK K
  try simp only [Act.put, List.setIfInBounds_toArray, List.set_cons_zero, List.set_cons_succ]
  refine wpAnyT_late (i := 7) (o := ⟨some 14, .build 45 #[(0, .const (.int .i64 12)), (5, (.tmp 12)), (3, (.tmp 13))], _, _, _, _⟩) (by kernel_rfl) rfl (by kernel_rfl) (fun K hK => ?_)
  go_simp
  refine hK.out _ _ trivial ?_
  clear hK K
  try simp only [Act.put, List.setIfInBounds_toArray, List.set_cons_zero, List.set_cons_succ]
  refine wpAnyT_late (i := 8) (o := ⟨some 15, .buildSlice 22 1 #[(0, (.tmp 14))], _, _, _, _⟩) (by kernel_rfl) rfl (by kernel_rfl) (fun K hK => ?_)
  go_simp
  obtain ⟨Y, hY⟩ : ∃ Y, w1.alloc (.cells #[.int .i64 12, .string ⟨#[]⟩, .slice none 0 0, .slice pa P.length pc, .string (txtOf deg), .slice none 0 0, .slice (some ⟨X.heap.size, 0, none⟩) 1 1, .int .i64 0, .string ⟨#[]⟩, .string ⟨#[]⟩] 45) = Y := ⟨_, rfl⟩
  have HBY : Hid (Kw B w Y) := Kw.of_below (by rw [← hY]; exact HB1.out.alloc HB1.out.size _) hBw
  rw [hY] at HL1
  rw [hY]
  clear hY
  refine hK.out _ _ trivial ?_
  clear hK K
  try simp only [Act.put, List.setIfInBounds_toArray, List.set_cons_zero, List.set_cons_succ]
  refine wpAnyT_late (i := 9) (o := ⟨some 16, .call { callee := .value (.func 51), args := #[(.tmp 9), (.tmp 15)], argTypes := #[73, 22] }, _, _, _, _⟩) (by kernel_rfl) rfl (by kernel_rfl) (fun K hK => ?_)
  go_simp
  refine calls_at HL1.out (by with_reducible rfl) (by with_reducible rfl) ?_
  rintro e w2 ⟨r, D', rfl, k1, k2, k3⟩
  have HE : Hid (LyO B b D ov last goal [sameS i P deg] w (.returned (.int .i64 r)) w2) := ⟨r, D', rfl, HBY.out.trans k1, k2, k3⟩
  clear k1 k2 k3 HL1
  go_wp2_with fail
  refine hK.out _ _ trivial ?_
  clear hK K
  try simp only [Act.put, List.setIfInBounds_toArray, List.set_cons_zero, List.set_cons_succ]
  refine wpAnyT_takeL (i := 10) (oi := ⟨some 6, .assign (.tmp 16), _, _, _, _⟩) (v := ?vb10) rfl (by kernel_rfl) (by kernel_rfl) (by kernel_rfl) (by kernel_rfl) (by kernel_rfl) (fun _ _ _ h => h) (Or.inl ⟨by rfl, ?hyb10⟩) trivial ?restb10
  case hyb10 => (intro w hSw; go_simp; try (with_reducible rfl))
  try simp only [Act.put, List.setIfInBounds_toArray, List.set_cons_zero, List.set_cons_succ]
  refine wpAnyT_done (by kernel_rfl) ?_ _
  go_wp2_with fail
  go_ret
  exact HE.out
end Go.Proofs.YtibbnijicdijnaaGreatDoor
