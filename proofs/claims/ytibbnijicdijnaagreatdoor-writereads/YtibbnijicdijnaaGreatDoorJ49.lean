/-
  Put together: PwEnd, PwNew, PwKn.
-/
import Derived.Test.YtibbnijicdijnaaGreatDoorPwConc
namespace Go.Proofs.YtibbnijicdijnaaGreatDoor
open Go.RowKit

theorem sts_block {w : World} (L : List St4) (h : ∀ p ∈ L, SlR w p.1 p.2.1 p.2.2.1 p.2.2.2.1 p.2.2.2.2) (hn : L.length ≤ 100) : StsR (w.alloc (.cells (L.flatMap stC).toArray 45)) (.slice (some ⟨w.heap.size, 0, none⟩) L.length L.length) (L.map (·.1)) := by
  have hb : Below w.heap.size w (w.alloc (.cells (L.flatMap stC).toArray 45)) := (Below.refl _ _).alloc (Nat.le_refl _) _
  have hg := heap_alloc_new w (.cells (L.flatMap stC).toArray 45)
  refine ⟨some ⟨w.heap.size, 0, none⟩, L.length, by simp, by simp; omega, fun i hi => ?_⟩
  have hi' : i < L.length := by simpa using hi
  refine ⟨w.heap.size, 0, L[i].2.1, L[i].2.2.1, L[i].2.2.2.1, L[i].2.2.2.2, rfl, (Array.getElem?_eq_some_iff.1 hg).1, ?_, fun j hj => ?_⟩
  · have := (h L[i] (List.getElem_mem hi')).below hb
    simpa using this
  · rw [Nat.zero_add, cell_of hg]
    have := flat_get L i hi' j hj
    simp only [List.getElem?_toArray, List.getElem_map]
    rw [this]
    unfold stC
    rw [Array.getElem?_toList]
def outS : SL := { SL.zero with k := 8 }
def lastS : SL := { SL.zero with k := 10 }
def endS (k id lo hi : Int) : List SL := [outS, conS k id lo hi, lastS]
set_option maxRecDepth 10000 in
set_option maxHeartbeats 2000000 in
theorem wend_any {B b : Nat} {D : List SL} {ov goal : Bool} {last : Int} (k id lo hi : Int) (w : World) (h : LgD B b D ov last goal w) (h1 : I4 id) (h2 : I4 lo) (h3 : I4 hi) (hf : Fit D (endS k id lo hi)) (hg : Gl w) (h12 : 12 ≤ B) : Calls Tryz.prog 30 #[.pointer (some ⟨b, 0, none⟩), .int .i64 k, .int .i64 id, .int .i64 lo, .int .i64 hi] w (FiO B b D ov last goal (endS k id lo hi) w) := by
  have hBw : B ≤ w.heap.size := Nat.le_of_lt (Nat.lt_of_le_of_lt h.at_.1 h.at_.lt)
  have hn : ∀ (W : World) (xs : List Value), RdAt W (.slice none 0 0) 0 xs := fun W xs => ⟨none, 0, rfl, by omega, fun h => absurd h (Nat.lt_irrefl _)⟩
  have hd : Below w.heap.size w w.drew := (Below.refl _ _).drew
  have HCo : Hid (Calls Tryz.prog 56 #[.int .i64 k, .int .i64 id, .int .i64 lo, .int .i64 hi] w.drew (CoO k id lo hi w.drew)) := conc_any k id lo hi w.drew h1 h2 h3 (hg.next hd) (Nat.le_trans h12 hBw)
  have HF : Hid (∀ w' vi, Below w.heap.size w w' → RdAt w' vi (conS k id lo hi).ids.length ((conS k id lo hi).ids.map fun x => .string (txtOf x)) → Calls Tryz.prog 55 #[.pointer (some ⟨b, 0, none⟩), .slice (some ⟨w'.heap.size, 0, none⟩) 3 3] (w'.alloc (.cells #[.int .i64 8, .string ⟨#[]⟩, .slice none 0 0, .slice none 0 0, .string ⟨#[]⟩, .slice none 0 0, .slice none 0 0, .int .i64 0, .string ⟨#[]⟩, .string ⟨#[]⟩, .int .i64 9, .string ⟨#[]⟩, .slice none 0 0, .slice none 0 0, .string ⟨#[]⟩, .slice none 0 0, vi, .int .i64 k, .string (txtOf (conS k id lo hi).low), .string (txtOf (conS k id lo hi).high), .int .i64 10, .string ⟨#[]⟩, .slice none 0 0, .slice none 0 0, .string ⟨#[]⟩, .slice none 0 0, .slice none 0 0, .int .i64 0, .string ⟨#[]⟩, .string ⟨#[]⟩] 45)) (FiO B b D ov last goal (endS k id lo hi) (w'.alloc (.cells #[.int .i64 8, .string ⟨#[]⟩, .slice none 0 0, .slice none 0 0, .string ⟨#[]⟩, .slice none 0 0, .slice none 0 0, .int .i64 0, .string ⟨#[]⟩, .string ⟨#[]⟩, .int .i64 9, .string ⟨#[]⟩, .slice none 0 0, .slice none 0 0, .string ⟨#[]⟩, .slice none 0 0, vi, .int .i64 k, .string (txtOf (conS k id lo hi).low), .string (txtOf (conS k id lo hi).high), .int .i64 10, .string ⟨#[]⟩, .slice none 0 0, .slice none 0 0, .string ⟨#[]⟩, .slice none 0 0, .slice none 0 0, .int .i64 0, .string ⟨#[]⟩, .string ⟨#[]⟩] 45)))) := fun w' vi hb hr => by
    have hb2 := hb.alloc hb.size (.cells #[.int .i64 8, .string ⟨#[]⟩, .slice none 0 0, .slice none 0 0, .string ⟨#[]⟩, .slice none 0 0, .slice none 0 0, .int .i64 0, .string ⟨#[]⟩, .string ⟨#[]⟩, .int .i64 9, .string ⟨#[]⟩, .slice none 0 0, .slice none 0 0, .string ⟨#[]⟩, .slice none 0 0, vi, .int .i64 k, .string (txtOf (conS k id lo hi).low), .string (txtOf (conS k id lo hi).high), .int .i64 10, .string ⟨#[]⟩, .slice none 0 0, .slice none 0 0, .string ⟨#[]⟩, .slice none 0 0, .slice none 0 0, .int .i64 0, .string ⟨#[]⟩, .string ⟨#[]⟩] 45)
    have hS := sts_block (w := w') [(outS, .slice none 0 0, .slice none 0 0, .slice none 0 0, .slice none 0 0), (conS k id lo hi, .slice none 0 0, .slice none 0 0, .slice none 0 0, vi), (lastS, .slice none 0 0, .slice none 0 0, .slice none 0 0, .slice none 0 0)] (fun p hp => by
      simp only [List.mem_cons, List.not_mem_nil, or_false] at hp
      rcases hp with rfl | rfl | rfl
      · exact ⟨hn _ _, hn _ _, hn _ _, hn _ _⟩
      · exact ⟨hn _ _, hn _ _, hn _ _, hr⟩
      · exact ⟨hn _ _, hn _ _, hn _ _, hn _ _⟩) (by simp)
    exact wfin_any (endS k id lo hi) _ _ (h.below hb2) hS hf (hg.next hb2) h12
  have HB : Hid (Below w.heap.size w w.drew) := hd
  clear h h1 h2 h3 hf hg hn hd
  go_enter Tryz.func30, Tryz.ntmps30
  go_wp2_with fail
  refine wp_region_T (fun _ => True) (fun _ => True) [] (by kernel_rfl) ⟨trivial, trivial⟩ (fun hHeld => ?_)
  generalize w.drew = U at hHeld HCo HB ⊢
  refine wpAnyT_takeB (i := 0) (oi := ⟨some 11, .move (.tmp 0), _, _, _, _⟩) (v := ?va0) rfl (by kernel_rfl) (by kernel_rfl) (by kernel_rfl) (by kernel_rfl) (fun _ _ _ h => h) (Or.inl ⟨by rfl, ?hya0⟩) (by assumption) ?resta0
  case hya0 => (intro w hSw; (try dsimp only at hSw); go_simp; try (with_reducible rfl))
  try simp only [Act.put, List.setIfInBounds_toArray, List.set_cons_zero, List.set_cons_succ]
  refine wpAnyT_takeB (i := 1) (oi := ⟨some 12, .nilCheck (.tmp 11), _, _, _, _⟩) (v := ?va1) rfl (by kernel_rfl) (by kernel_rfl) (by kernel_rfl) (by kernel_rfl) (fun _ _ _ h => h) (Or.inl ⟨by rfl, ?hya1⟩) (by assumption) ?resta1
  case hya1 => (intro w hSw; (try dsimp only at hSw); go_simp; try (with_reducible rfl))
  try simp only [Act.put, List.setIfInBounds_toArray, List.set_cons_zero, List.set_cons_succ]
  refine wpAnyT_takeB (i := 2) (oi := ⟨some 13, .fieldAddr 77 (.tmp 12) 0, _, _, _, _⟩) (v := ?va2) rfl (by kernel_rfl) (by kernel_rfl) (by kernel_rfl) (by kernel_rfl) (fun _ _ _ h => h) (Or.inl ⟨by rfl, ?hya2⟩) (by assumption) ?resta2
  case hya2 => (intro w hSw; (try dsimp only at hSw); go_simp; try (with_reducible rfl))
  try simp only [Act.put, List.setIfInBounds_toArray, List.set_cons_zero, List.set_cons_succ]
  refine wpAnyT_takeB (i := 3) (oi := ⟨some 14, .build 45 #[(0, .const (.int .i64 8))], _, _, _, _⟩) (v := ?va3) rfl (by kernel_rfl) (by kernel_rfl) (by kernel_rfl) (by kernel_rfl) (fun _ _ _ h => h) (Or.inl ⟨by rfl, ?hya3⟩) (by assumption) ?resta3
  case hya3 => (intro w hSw; (try dsimp only at hSw); go_simp; try (with_reducible rfl))
  try simp only [Act.put, List.setIfInBounds_toArray, List.set_cons_zero, List.set_cons_succ]
  refine wpAnyT_takeB (i := 4) (oi := ⟨some 15, .move (.tmp 1), _, _, _, _⟩) (v := ?va4) rfl (by kernel_rfl) (by kernel_rfl) (by kernel_rfl) (by kernel_rfl) (fun _ _ _ h => h) (Or.inl ⟨by rfl, ?hya4⟩) (by assumption) ?resta4
  case hya4 => (intro w hSw; (try dsimp only at hSw); go_simp; try (with_reducible rfl))
  try simp only [Act.put, List.setIfInBounds_toArray, List.set_cons_zero, List.set_cons_succ]
  refine wpAnyT_takeB (i := 5) (oi := ⟨some 16, .move (.tmp 2), _, _, _, _⟩) (v := ?va5) rfl (by kernel_rfl) (by kernel_rfl) (by kernel_rfl) (by kernel_rfl) (fun _ _ _ h => h) (Or.inl ⟨by rfl, ?hya5⟩) (by assumption) ?resta5
  case hya5 => (intro w hSw; (try dsimp only at hSw); go_simp; try (with_reducible rfl))
  try simp only [Act.put, List.setIfInBounds_toArray, List.set_cons_zero, List.set_cons_succ]
  refine wpAnyT_takeB (i := 6) (oi := ⟨some 17, .move (.tmp 3), _, _, _, _⟩) (v := ?va6) rfl (by kernel_rfl) (by kernel_rfl) (by kernel_rfl) (by kernel_rfl) (fun _ _ _ h => h) (Or.inl ⟨by rfl, ?hya6⟩) (by assumption) ?resta6
  case hya6 => (intro w hSw; (try dsimp only at hSw); go_simp; try (with_reducible rfl))
  try simp only [Act.put, List.setIfInBounds_toArray, List.set_cons_zero, List.set_cons_succ]
  refine wpAnyT_takeB (i := 7) (oi := ⟨some 18, .move (.tmp 4), _, _, _, _⟩) (v := ?va7) rfl (by kernel_rfl) (by kernel_rfl) (by kernel_rfl) (by kernel_rfl) (fun _ _ _ h => h) (Or.inl ⟨by rfl, ?hya7⟩) (by assumption) ?resta7
  case hya7 => (intro w hSw; (try dsimp only at hSw); go_simp; try (with_reducible rfl))
  try simp only [Act.put, List.setIfInBounds_toArray, List.set_cons_zero, List.set_cons_succ]
  refine wpAnyT_takeB (i := 9) (oi := ⟨some 20, .build 45 #[(0, .const (.int .i64 10))], _, _, _, _⟩) (v := ?va9) rfl (by kernel_rfl) (by kernel_rfl) (by kernel_rfl) (by kernel_rfl) (fun _ _ _ h => h) (Or.inl ⟨by rfl, ?hya9⟩) (by assumption) ?resta9
  case hya9 => (intro w hSw; (try dsimp only at hSw); go_simp; try (with_reducible rfl))
  try simp only [Act.put, List.setIfInBounds_toArray, List.set_cons_zero, List.set_cons_succ]
  refine wpAnyT_one (i := 8) (o := ⟨some 19, .call { callee := .value (.func 56), args := #[(.tmp 15), (.tmp 16), (.tmp 17), (.tmp 18)], argTypes := #[3, 3, 3, 3] }, _, _, _, _⟩) (by kernel_rfl) rfl (fun K hK => ?_)
  go_simp
  refine calls_at HCo.out (by with_reducible rfl) (by with_reducible rfl) ?_
  rintro e w1 ⟨vi, rfl, hr1, hb1⟩
  have HB1 : Hid (Below w.heap.size w w1) := bl_next HB.out hb1
  have HF1 : Hid (Calls Tryz.prog 55 #[.pointer (some ⟨b, 0, none⟩), .slice (some ⟨w1.heap.size, 0, none⟩) 3 3] (w1.alloc (.cells #[.int .i64 8, .string ⟨#[]⟩, .slice none 0 0, .slice none 0 0, .string ⟨#[]⟩, .slice none 0 0, .slice none 0 0, .int .i64 0, .string ⟨#[]⟩, .string ⟨#[]⟩, .int .i64 9, .string ⟨#[]⟩, .slice none 0 0, .slice none 0 0, .string ⟨#[]⟩, .slice none 0 0, vi, .int .i64 k, .string (txtOf (conS k id lo hi).low), .string (txtOf (conS k id lo hi).high), .int .i64 10, .string ⟨#[]⟩, .slice none 0 0, .slice none 0 0, .string ⟨#[]⟩, .slice none 0 0, .slice none 0 0, .int .i64 0, .string ⟨#[]⟩, .string ⟨#[]⟩] 45)) (FiO B b D ov last goal (endS k id lo hi) (w1.alloc (.cells #[.int .i64 8, .string ⟨#[]⟩, .slice none 0 0, .slice none 0 0, .string ⟨#[]⟩, .slice none 0 0, .slice none 0 0, .int .i64 0, .string ⟨#[]⟩, .string ⟨#[]⟩, .int .i64 9, .string ⟨#[]⟩, .slice none 0 0, .slice none 0 0, .string ⟨#[]⟩, .slice none 0 0, vi, .int .i64 k, .string (txtOf (conS k id lo hi).low), .string (txtOf (conS k id lo hi).high), .int .i64 10, .string ⟨#[]⟩, .slice none 0 0, .slice none 0 0, .string ⟨#[]⟩, .slice none 0 0, .slice none 0 0, .int .i64 0, .string ⟨#[]⟩, .string ⟨#[]⟩] 45)))) := HF.out w1 vi HB1.out hr1
  obtain ⟨va, vc, rfl, _, _⟩ := _root_.id hr1
  clear hr1 hb1 HCo HF
  have eC : slC (conS k id lo hi) (.slice none 0 0) (.slice none 0 0) (.slice none 0 0) (.slice va (conS k id lo hi).ids.length vc) = #[.int .i64 9, .string ⟨#[]⟩, .slice none 0 0, .slice none 0 0, .string ⟨#[]⟩, .slice none 0 0, .slice va (conS k id lo hi).ids.length vc, .int .i64 k, .string (txtOf (conS k id lo hi).low), .string (txtOf (conS k id lo hi).high)] := rfl
  rw [eC]
  clear eC
  go_wp2_with fail
  refine hK.out _ _ ⟨trivial, fun _ => trivial⟩ ?_
  clear hK K
  try simp only [Act.put, List.setIfInBounds_toArray, List.set_cons_zero, List.set_cons_succ]
  refine wpAnyT_one (i := 10) (o := ⟨some 21, .buildSlice 22 3 #[(0, (.tmp 14)), (1, (.tmp 19)), (2, (.tmp 20))], _, _, _, _⟩) (by kernel_rfl) rfl (fun K hK => ?_)
  go_simp
  obtain ⟨X, hX⟩ : ∃ X, w1.alloc (.cells #[.int .i64 8, .string ⟨#[]⟩, .slice none 0 0, .slice none 0 0, .string ⟨#[]⟩, .slice none 0 0, .slice none 0 0, .int .i64 0, .string ⟨#[]⟩, .string ⟨#[]⟩, .int .i64 9, .string ⟨#[]⟩, .slice none 0 0, .slice none 0 0, .string ⟨#[]⟩, .slice none 0 0, .slice va (conS k id lo hi).ids.length vc, .int .i64 k, .string (txtOf (conS k id lo hi).low), .string (txtOf (conS k id lo hi).high), .int .i64 10, .string ⟨#[]⟩, .slice none 0 0, .slice none 0 0, .string ⟨#[]⟩, .slice none 0 0, .slice none 0 0, .int .i64 0, .string ⟨#[]⟩, .string ⟨#[]⟩] 45) = X := ⟨_, rfl⟩
  have HBX : Hid (Kw B w X) := Kw.of_below (by rw [← hX]; exact HB1.out.alloc HB1.out.size _) hBw
  rw [hX] at HF1
  rw [hX]
  clear hX
  refine hK.out _ _ ⟨trivial, fun _ => trivial⟩ ?_
  clear hK K
  try simp only [Act.put, List.setIfInBounds_toArray, List.set_cons_zero, List.set_cons_succ]
  refine wpAnyT_one (i := 11) (o := ⟨some 22, .call { callee := .value (.func 55), args := #[(.tmp 13), (.tmp 21)], argTypes := #[73, 22] }, _, _, _, _⟩) (by kernel_rfl) rfl (fun K hK => ?_)
  go_simp
  refine calls_at HF1.out (by with_reducible rfl) (by with_reducible rfl) ?_
  rintro e w2 ⟨r, D', ov', rfl, k1, k2, k3⟩
  have HE : Hid (FiO B b D ov last goal (endS k id lo hi) w (.returned (.int .i64 r)) w2) := ⟨r, D', ov', rfl, HBX.out.trans k1, k2, k3⟩
  clear k1 k2 k3 HF1
  go_wp2_with fail
  refine hK.out _ _ ⟨trivial, fun _ => trivial⟩ ?_
  clear hK K
  try simp only [Act.put, List.setIfInBounds_toArray, List.set_cons_zero, List.set_cons_succ]
  refine wpAnyT_takeB (i := 12) (oi := ⟨some 10, .assign (.tmp 22), _, _, _, _⟩) (v := ?vc12) rfl (by kernel_rfl) (by kernel_rfl) (by kernel_rfl) (by kernel_rfl) (fun _ _ _ h => h) (Or.inl ⟨by rfl, ?hyc12⟩) (by assumption) ?restc12
  case hyc12 => (intro w hSw; (try dsimp only at hSw); go_simp; try (with_reducible rfl))
  try simp only [Act.put, List.setIfInBounds_toArray, List.set_cons_zero, List.set_cons_succ]
  refine wpAnyT_done (by kernel_rfl) ?_ _
  go_wp2_with fail
  go_ret
  exact HE.out
end Go.Proofs.YtibbnijicdijnaaGreatDoor

namespace Go.Proofs.YtibbnijicdijnaaGreatDoor
open Go.RowKit

def headS : SL := { SL.zero with k := 1 }
def countS (m : Int) : SL := { SL.zero with k := 2, n := Lib.itoa m }
/-- How New ends. -/
def NwO (m : Int) (goal : Bool) (w : World) (e : Ending) (w' : World) : Prop := ∃ D, e = .returned (.pointer (some ⟨w.heap.size, 0, none⟩)) ∧ Below w.heap.size w w' ∧ LgD w.heap.size w.heap.size D false m goal w' ∧ (D = [headS, countS m] ∨ (Bad [headS, countS m] ∧ D = []))
theorem dec_short (u : Nat) (h : u < 10000000000000000000) : (Lib.decDigits u).length ≤ 19 := dec_len 18 u (by have e : (10 : Nat) ^ (18 + 1) = 10000000000000000000 := by decide
                                                                                                               rw [e]; exact h)
theorem itoa_short {n : Int} (h : I4 n) : (Lib.itoa n).length ≤ 20 := by
  unfold I4 at h
  unfold Lib.itoa
  split
  · have := dec_short n.natAbs (by omega)
    simp
    omega
  · have := dec_short n.toNat (by omega)
    omega
theorem lnT_tot (d : SL) : (lnT d).length ≤ tot (lnW d) := by
  have h1 := words_len (lnW d) []
  unfold lnT
  simp at h1
  omega
set_option maxRecDepth 10000 in
set_option maxHeartbeats 2000000 in
theorem new_log (rows m : Int) (goal : Bool) (w : World) (hm : max rows 0 = m) (h1 : I4 m) (hg : Gl w) (h12 : 12 ≤ w.heap.size) : Calls Tryz.prog 22 #[.int .i64 rows, .bool goal] w (NwO m goal w) := by
  have hn : ∀ (W : World) (xs : List Value), RdAt W (.slice none 0 0) 0 xs := fun W xs => ⟨none, 0, rfl, by omega, fun h => absurd h (Nat.lt_irrefl _)⟩
  obtain ⟨V, hV⟩ : ∃ V, w.alloc (.cells #[.slice none 0 0, .bool false, .int .i64 m, .bool goal] 77) = V := ⟨_, rfl⟩
  have hbV : Below w.heap.size w V := by rw [← hV]; exact (Below.refl _ _).alloc (Nat.le_refl _) _
  have gV : V.heap[w.heap.size]? = some (.cells #[.slice none 0 0, .bool false, .int .i64 m, .bool goal] 77 (0, 0)) := by rw [← hV]; exact heap_alloc_new w _
  have hL0 : LgD w.heap.size w.heap.size [] false m goal V := ⟨⟨Nat.le_refl _, .slice none 0 0, gV, own_z _ _ _ _⟩, fun d hd => absurd hd List.not_mem_nil, by simp [tot]⟩
  have hd : Below w.heap.size w V.drew := hbV.drew
  have hVd : Below V.heap.size V V.drew := (Below.refl _ _).drew
  have HIt : Hid (Calls Tryz.prog 52 #[.int .i64 m] V.drew fun e w2 => e = .returned (.string (txtOf (Lib.itoa m))) ∧ Below V.drew.heap.size V.drew w2) := itoa_any m V.drew h1.1 h1.2 (hg.to hd h12)
  have hfit : Fit [] [headS, countS m] := by
    have hs := itoa_short h1
    have i1 : SlI headS := ⟨fun x hx => absurd hx List.not_mem_nil, fun x hx => absurd hx List.not_mem_nil, fun x hx => absurd hx List.not_mem_nil⟩
    have i2 : SlI (countS m) := ⟨fun x hx => absurd hx List.not_mem_nil, fun x hx => absurd hx List.not_mem_nil, fun x hx => absurd hx List.not_mem_nil⟩
    have l1 := lnW_len headS i1
    have l2 := lnW_len (countS m) i2
    have w1 : stW headS = 4 := rfl
    have w2 : stW (countS m) = (Lib.itoa m).length + 4 := by unfold stW countS SL.zero; simp [tot]
    have t1 := lnT_tot headS
    have t2 := lnT_tot (countS m)
    refine ⟨fun d hd => ?_, fun d hd => ?_, ?_⟩
    · simp only [List.mem_cons, List.not_mem_nil, or_false] at hd
      rcases hd with rfl | rfl
      · exact i1
      · exact i2
    · simp only [List.mem_cons, List.not_mem_nil, or_false] at hd
      rcases hd with rfl | rfl
      · omega
      · omega
    · simp only [List.nil_append, List.map_cons, List.map_nil, tot_cons]
      have e0 : tot [] = 0 := rfl
      omega
  have HL : Hid (∀ w', Below V.drew.heap.size V.drew w' → Calls Tryz.prog 51 #[.pointer (some ⟨w.heap.size, 0, none⟩), .slice (some ⟨w'.heap.size, 0, none⟩) 2 2] (w'.alloc (.cells #[.int .i64 1, .string ⟨#[]⟩, .slice none 0 0, .slice none 0 0, .string ⟨#[]⟩, .slice none 0 0, .slice none 0 0, .int .i64 0, .string ⟨#[]⟩, .string ⟨#[]⟩, .int .i64 2, .string (txtOf (Lib.itoa m)), .slice none 0 0, .slice none 0 0, .string ⟨#[]⟩, .slice none 0 0, .slice none 0 0, .int .i64 0, .string ⟨#[]⟩, .string ⟨#[]⟩] 45)) (LyO w.heap.size w.heap.size [] false m goal [headS, countS m] (w'.alloc (.cells #[.int .i64 1, .string ⟨#[]⟩, .slice none 0 0, .slice none 0 0, .string ⟨#[]⟩, .slice none 0 0, .slice none 0 0, .int .i64 0, .string ⟨#[]⟩, .string ⟨#[]⟩, .int .i64 2, .string (txtOf (Lib.itoa m)), .slice none 0 0, .slice none 0 0, .string ⟨#[]⟩, .slice none 0 0, .slice none 0 0, .int .i64 0, .string ⟨#[]⟩, .string ⟨#[]⟩] 45)))) := fun w' hb => by
    have hbw := bl_next hVd hb
    have hb2 := hbw.alloc hbw.size (.cells #[.int .i64 1, .string ⟨#[]⟩, .slice none 0 0, .slice none 0 0, .string ⟨#[]⟩, .slice none 0 0, .slice none 0 0, .int .i64 0, .string ⟨#[]⟩, .string ⟨#[]⟩, .int .i64 2, .string (txtOf (Lib.itoa m)), .slice none 0 0, .slice none 0 0, .string ⟨#[]⟩, .slice none 0 0, .slice none 0 0, .int .i64 0, .string ⟨#[]⟩, .string ⟨#[]⟩] 45)
    have hS := sts_block (w := w') [(headS, .slice none 0 0, .slice none 0 0, .slice none 0 0, .slice none 0 0), (countS m, .slice none 0 0, .slice none 0 0, .slice none 0 0, .slice none 0 0)] (fun p hp => by
      simp only [List.mem_cons, List.not_mem_nil, or_false] at hp
      rcases hp with rfl | rfl
      · exact ⟨hn _ _, hn _ _, hn _ _, hn _ _⟩
      · exact ⟨hn _ _, hn _ _, hn _ _, hn _ _⟩) (by simp)
    exact lay_any [headS, countS m] _ _ (hL0.below hb2) hS hfit (hg.to (bl_next hbV hb2) h12) h12
  have HB : Hid (Below w.heap.size w V.drew) := hd
  clear hn hL0 hfit hg h1 hbV gV hd hVd h12
  go_enter Tryz.func22, Tryz.ntmps22
  go_wp2_with fail
  refine wp_region_T (fun _ => True) (fun _ => True) [] (by kernel_rfl) ⟨trivial, trivial⟩ (fun hHeld => ?_)
  clear hV
  generalize V.drew = U at hHeld HIt HB HL ⊢
  refine wpAnyT_takeB (i := 0) (oi := ⟨some 13, .move (.tmp 5), _, _, _, _⟩) (v := ?va0) rfl (by kernel_rfl) (by kernel_rfl) (by kernel_rfl) (by kernel_rfl) (fun _ _ _ h => h) (Or.inl ⟨by rfl, ?hya0⟩) (by assumption) ?resta0
  case hya0 => (intro w hSw; (try dsimp only at hSw); go_simp; try (with_reducible rfl))
  try simp only [Act.put, List.setIfInBounds_toArray, List.set_cons_zero, List.set_cons_succ]
  refine wpAnyT_takeB (i := 1) (oi := ⟨some 14, .nilCheck (.tmp 13), _, _, _, _⟩) (v := ?va1) rfl (by kernel_rfl) (by kernel_rfl) (by kernel_rfl) (by kernel_rfl) (fun _ _ _ h => h) (Or.inl ⟨by rfl, ?hya1⟩) (by assumption) ?resta1
  case hya1 => (intro w hSw; (try dsimp only at hSw); go_simp; try (with_reducible rfl))
  try simp only [Act.put, List.setIfInBounds_toArray, List.set_cons_zero, List.set_cons_succ]
  refine wpAnyT_takeB (i := 2) (oi := ⟨some 15, .fieldAddr 77 (.tmp 14) 0, _, _, _, _⟩) (v := ?va2) rfl (by kernel_rfl) (by kernel_rfl) (by kernel_rfl) (by kernel_rfl) (fun _ _ _ h => h) (Or.inl ⟨by rfl, ?hya2⟩) (by assumption) ?resta2
  case hya2 => (intro w hSw; (try dsimp only at hSw); go_simp; try (with_reducible rfl))
  try simp only [Act.put, List.setIfInBounds_toArray, List.set_cons_zero, List.set_cons_succ]
  refine wpAnyT_takeB (i := 3) (oi := ⟨some 16, .build 45 #[(0, .const (.int .i64 1))], _, _, _, _⟩) (v := ?va3) rfl (by kernel_rfl) (by kernel_rfl) (by kernel_rfl) (by kernel_rfl) (fun _ _ _ h => h) (Or.inl ⟨by rfl, ?hya3⟩) (by assumption) ?resta3
  case hya3 => (intro w hSw; (try dsimp only at hSw); go_simp; try (with_reducible rfl))
  try simp only [Act.put, List.setIfInBounds_toArray, List.set_cons_zero, List.set_cons_succ]
  refine wpAnyT_takeB (i := 4) (oi := ⟨some 17, .move (.tmp 0), _, _, _, _⟩) (v := ?va4) rfl (by kernel_rfl) (by kernel_rfl) (by kernel_rfl) (by kernel_rfl) (fun _ _ _ h => h) (Or.inl ⟨by rfl, ?hya4⟩) (by assumption) ?resta4
  case hya4 => (intro w hSw; (try dsimp only at hSw); go_simp; try (with_reducible rfl))
  try simp only [Act.put, List.setIfInBounds_toArray, List.set_cons_zero, List.set_cons_succ]
  refine wpAnyT_one (i := 5) (o := ⟨some 18, .call { callee := .value (.func 52), args := #[(.tmp 17)], argTypes := #[3] }, _, _, _, _⟩) (by kernel_rfl) rfl (fun K hK => ?_)
  go_simp
  refine calls_at HIt.out (by with_reducible rfl) (by with_reducible rfl) ?_
  rintro e w1 ⟨rfl, hb1⟩
  have HB1 : Hid (Below w.heap.size w w1) := bl_next HB.out hb1
  have HL1 : Hid (Calls Tryz.prog 51 #[.pointer (some ⟨w.heap.size, 0, none⟩), .slice (some ⟨w1.heap.size, 0, none⟩) 2 2] (w1.alloc (.cells #[.int .i64 1, .string ⟨#[]⟩, .slice none 0 0, .slice none 0 0, .string ⟨#[]⟩, .slice none 0 0, .slice none 0 0, .int .i64 0, .string ⟨#[]⟩, .string ⟨#[]⟩, .int .i64 2, .string (txtOf (Lib.itoa m)), .slice none 0 0, .slice none 0 0, .string ⟨#[]⟩, .slice none 0 0, .slice none 0 0, .int .i64 0, .string ⟨#[]⟩, .string ⟨#[]⟩] 45)) (LyO w.heap.size w.heap.size [] false m goal [headS, countS m] (w1.alloc (.cells #[.int .i64 1, .string ⟨#[]⟩, .slice none 0 0, .slice none 0 0, .string ⟨#[]⟩, .slice none 0 0, .slice none 0 0, .int .i64 0, .string ⟨#[]⟩, .string ⟨#[]⟩, .int .i64 2, .string (txtOf (Lib.itoa m)), .slice none 0 0, .slice none 0 0, .string ⟨#[]⟩, .slice none 0 0, .slice none 0 0, .int .i64 0, .string ⟨#[]⟩, .string ⟨#[]⟩] 45)))) := HL.out w1 hb1
  clear hb1 HIt HL
  go_wp2_with fail
  refine hK.out _ _ ⟨trivial, fun _ => trivial⟩ ?_
  clear hK K
  try simp only [Act.put, List.setIfInBounds_toArray, List.set_cons_zero, List.set_cons_succ]
  refine wpAnyT_takeB (i := 6) (oi := ⟨some 19, .build 45 #[(0, .const (.int .i64 2)), (1, (.tmp 18))], _, _, _, _⟩) (v := ?vb6) rfl (by kernel_rfl) (by kernel_rfl) (by kernel_rfl) (by kernel_rfl) (fun _ _ _ h => h) (Or.inl ⟨by rfl, ?hyb6⟩) (by assumption) ?restb6
  case hyb6 => (intro w hSw; (try dsimp only at hSw); go_simp; try (with_reducible rfl))
  try simp only [Act.put, List.setIfInBounds_toArray, List.set_cons_zero, List.set_cons_succ]
  refine wpAnyT_one (i := 7) (o := ⟨some 20, .buildSlice 22 2 #[(0, (.tmp 16)), (1, (.tmp 19))], _, _, _, _⟩) (by kernel_rfl) rfl (fun K hK => ?_)
  go_simp
  obtain ⟨X, hX⟩ : ∃ X, w1.alloc (.cells #[.int .i64 1, .string ⟨#[]⟩, .slice none 0 0, .slice none 0 0, .string ⟨#[]⟩, .slice none 0 0, .slice none 0 0, .int .i64 0, .string ⟨#[]⟩, .string ⟨#[]⟩, .int .i64 2, .string (txtOf (Lib.itoa m)), .slice none 0 0, .slice none 0 0, .string ⟨#[]⟩, .slice none 0 0, .slice none 0 0, .int .i64 0, .string ⟨#[]⟩, .string ⟨#[]⟩] 45) = X := ⟨_, rfl⟩
  have HBX : Hid (Below w.heap.size w X) := by rw [← hX]; exact HB1.out.alloc HB1.out.size _
  rw [hX] at HL1
  rw [hX]
  clear hX
  refine hK.out _ _ ⟨trivial, fun _ => trivial⟩ ?_
  clear hK K
  try simp only [Act.put, List.setIfInBounds_toArray, List.set_cons_zero, List.set_cons_succ]
  refine wpAnyT_one (i := 8) (o := ⟨some 21, .call { callee := .value (.func 51), args := #[(.tmp 15), (.tmp 20)], argTypes := #[73, 22] }, _, _, _, _⟩) (by kernel_rfl) rfl (fun K hK => ?_)
  go_simp
  refine calls_at HL1.out (by with_reducible rfl) (by with_reducible rfl) ?_
  rintro e w2 ⟨r, D', rfl, k1, k2, k3⟩
  have HE : Hid (NwO m goal w (.returned (.pointer (some ⟨w.heap.size, 0, none⟩))) w2) := ⟨D', rfl, HBX.out.trans k1.low, k2, by
    rcases k3 with ⟨_, _, h3⟩ | ⟨_, h2, h3⟩ | ⟨_, h2, _⟩
    · exact .inl h3
    · exact .inr ⟨h2.2, h3⟩
    · cases h2⟩
  clear k1 k2 k3 HL1
  go_wp2_with fail
  refine hK.out _ _ ⟨trivial, fun _ => trivial⟩ ?_
  clear hK K
  try simp only [Act.put, List.setIfInBounds_toArray, List.set_cons_zero, List.set_cons_succ]
  refine wpAnyT_done (by kernel_rfl) ?_ _
  go_wp2_with fail
  go_ret
  exact HE.out
end Go.Proofs.YtibbnijicdijnaaGreatDoor

namespace Go.Proofs.YtibbnijicdijnaaGreatDoor
open Go.RowKit

def wk1 : SL := rupS [([49], 1)] [49] []
def wk2 : SL := polS [(1, [51], 0), (1, [50], 0), (3, [], 0)]
def wk3 : SL := delS [3]
def wk4 : List SL := endS 2 4 0 0
theorem wo0 : parseP (lnT headS) = (headS, 0) := by kernel_rfl
theorem wo0' : parseP (lnT (countS 2)) = (countS 2, 0) := by kernel_rfl
theorem wo1 : parseP (lnT wk1) = (wk1, 0) := by kernel_rfl
theorem wo2 : parseP (lnT wk2) = (wk2, 0) := by kernel_rfl
theorem wo3 : parseP (lnT wk3) = (wk3, 0) := by kernel_rfl
theorem wo4 : parseP (lnT outS) = (outS, 0) := by kernel_rfl
theorem wo4' : parseP (lnT (conS 2 4 0 0)) = (conS 2 4 0 0, 0) := by kernel_rfl
theorem wo4'' : parseP (lnT lastS) = (lastS, 0) := by kernel_rfl
def wkT : List UInt8 := [112, 115, 101, 117, 100, 111, 45, 66, 111, 111, 108, 101, 97, 110, 32, 112, 114, 111, 111, 102, 32, 118, 101, 114, 115, 105, 111, 110, 32, 50, 46, 48, 10, 102, 32, 50, 10, 114, 117, 112, 32, 49, 32, 120, 49, 32, 62, 61, 32, 49, 32, 59, 10, 112, 111, 108, 32, 51, 32, 50, 32, 43, 10, 100, 101, 108, 32, 105, 100, 32, 51, 10, 111, 117, 116, 112, 117, 116, 32, 78, 79, 78, 69, 10, 99, 111, 110, 99, 108, 117, 115, 105, 111, 110, 32, 85, 78, 83, 65, 84, 32, 58, 32, 52, 10, 101, 110, 100, 32, 112, 115, 101, 117, 100, 111, 45, 66, 111, 111, 108, 101, 97, 110, 32, 112, 114, 111, 111, 102, 10]
theorem wkText : txt (([headS, countS 2] ++ [wk1] ++ [wk2] ++ [wk3] ++ wk4).map lnT) = wkT := by kernel_rfl
theorem wkEq : ((txtOf wkT).toList == wkT) = true := by kernel_rfl
theorem one_ok {d : SL} (h : parseP (lnT d) = (d, 0)) : ¬ Bad [d] := fun hb => hb fun x hx => by
  have e : x = d := by simpa using hx
  rw [e]
  exact h
theorem ok4 : ¬ Bad wk4 := fun hb => hb fun x hx => by
  simp only [wk4, endS, List.mem_cons, List.not_mem_nil, or_false] at hx
  rcases hx with rfl | rfl | rfl
  · exact wo4
  · exact wo4'
  · exact wo4''
theorem ok0 : ¬ Bad [headS, countS 2] := fun hb => hb fun x hx => by
  simp only [List.mem_cons, List.not_mem_nil, or_false] at hx
  rcases hx with rfl | rfl
  · exact wo0
  · exact wo0'
theorem sli_nil {d : SL} (h1 : d.pcs = []) (h2 : d.lits = []) (h3 : d.ops = []) : SlI d := ⟨fun x hx => by rw [h1] at hx; exact absurd hx List.not_mem_nil, fun x hx => by rw [h2] at hx; exact absurd hx List.not_mem_nil, fun x hx => by rw [h3] at hx; exact absurd hx List.not_mem_nil⟩
/-- What may be laid down, by numbers alone. -/
theorem fit_of {D ds : List SL} (hi : ∀ d ∈ ds, SlI d) (h : (decide (tot ((D ++ ds).map lnT) ≤ 9000000) && ds.all fun d => decide (tot (lnW d) ≤ 9000000)) = true) : Fit D ds := by
  simp only [Bool.and_eq_true, decide_eq_true_eq, List.all_eq_true] at h
  exact ⟨hi, h.2, h.1⟩
theorem fit1 : Fit [headS, countS 2] [wk1] := fit_of (fun d hd => by
  have e : d = wk1 := by simpa using hd
  rw [e]
  refine ⟨fun x hx => ?_, fun x hx => absurd hx List.not_mem_nil, fun x hx => absurd hx List.not_mem_nil⟩
  have e2 : x = ([49], 1) := by simpa [wk1, rupS] using hx
  rw [e2]
  decide) (by kernel_rfl)
theorem fit2 : Fit ([headS, countS 2] ++ [wk1]) [wk2] := fit_of (fun d hd => by
  have e : d = wk2 := by simpa using hd
  rw [e]
  refine ⟨fun x hx => absurd hx List.not_mem_nil, fun x hx => absurd hx List.not_mem_nil, fun x hx => ?_⟩
  simp only [wk2, polS, List.mem_cons, List.not_mem_nil, or_false] at hx
  rcases hx with rfl | rfl | rfl <;> decide) (by kernel_rfl)
theorem fit3 : Fit ([headS, countS 2] ++ [wk1] ++ [wk2]) [wk3] := fit_of (fun d hd => by
  have e : d = wk3 := by simpa using hd
  rw [e]
  exact sli_nil rfl rfl rfl) (by kernel_rfl)
theorem fit4 : Fit ([headS, countS 2] ++ [wk1] ++ [wk2] ++ [wk3]) wk4 := fit_of (fun d hd => by
  simp only [wk4, endS, List.mem_cons, List.not_mem_nil, or_false] at hd
  rcases hd with rfl | rfl | rfl <;> exact sli_nil rfl rfl rfl) (by kernel_rfl)
theorem fit5 : Fit ([headS, countS 2] ++ [wk1] ++ [wk2] ++ [wk3] ++ wk4) [rupS [] [48] []] := fit_of (fun d hd => by
  have e : d = rupS [] [48] [] := by simpa using hd
  rw [e]
  exact sli_nil rfl rfl rfl) (by kernel_rfl)
theorem wnum_any (n : Int) (w : World) : Calls Tryz.prog 31 #[.int .i64 n] w fun e w' => e = .returned (.int .i64 n) ∧ w' = w := by
  go_enter Tryz.func31, Tryz.ntmps31
  go_wp2
  go_ret
  exact ⟨rfl, rfl⟩

set_option maxRecDepth 20000 in
set_option maxHeartbeats 4000000 in
theorem wknown_any (w : World) (hg : Gl w) (h12 : 12 ≤ w.heap.size) : Calls Tryz.prog 20 #[] w fun e w' => e = .returned (.bool true) ∧ Below w.heap.size w w' := by
  have HG : Hid (∀ w', Below w.heap.size w w' → Gl w') := fun w' hb => hg.to hb h12
  have hn : ∀ (W : World) (xs : List Value), RdAt W (.slice none 0 0) 0 xs := fun W xs => ⟨none, 0, rfl, by omega, fun h => absurd h (Nat.lt_irrefl _)⟩
  have HN : Hid (Calls Tryz.prog 22 #[.int .i64 2, .bool false] w (NwO 2 false w)) := new_log 2 2 false w (by decide) ⟨by decide, by decide⟩ hg h12
  have Hn : Hid (∀ (W : World) (xs : List Value), RdAt W (.slice none 0 0) 0 xs) := hn
  have H12 : Hid (12 ≤ w.heap.size) := h12
  have HNu : Hid (∀ n w', Calls Tryz.prog 31 #[.int .i64 n] w' fun e w2 => e = .returned (.int .i64 n) ∧ w2 = w') := wnum_any
  clear hg h12 hn
  go_enter Tryz.func20, Tryz.ntmps20
  go_wp2_with fail
  refine calls_at HN.out (by with_reducible rfl) (by with_reducible rfl) ?_
  rintro e w1 ⟨D0, rfl, hb1, hL1, hq⟩
  obtain rfl : D0 = [headS, countS 2] := by
    rcases hq with h | h
    · exact h
    · exact absurd h.1 ok0
  have HB1 : Hid (Below w.heap.size w w1) := hb1
  have HL1 : Hid (LgD w.heap.size w.heap.size [headS, countS 2] false 2 false w1) := hL1
  clear hb1 hL1 hq HN
  obtain ⟨V, hV⟩ : ∃ V, w1.alloc (.cells #[.string ⟨#[49]⟩, .int .i64 1] 82) = V := ⟨_, rfl⟩
  have hbV : Below w1.heap.size w1 V := by rw [← hV]; exact (Below.refl _ _).alloc (Nat.le_refl _) _
  have gV : V.heap[w1.heap.size]? = some (.cells #[.string ⟨#[49]⟩, .int .i64 1] 82 (0, 0)) := by rw [← hV]; exact heap_alloc_new w1 _
  have HBV : Hid (Below w.heap.size w V) := bl_next HB1.out hbV
  have HR : Hid (Calls Tryz.prog 23 #[.pointer (some ⟨w.heap.size, 0, none⟩), .agg #[.slice (some ⟨w1.heap.size, 0, none⟩) 1 1, .string ⟨#[49]⟩], .slice none 0 0] V (NuO w.heap.size w.heap.size [headS, countS 2] false 2 false wk1 V)) := wrup_any [([49], 1)] [49] (.slice (some ⟨w1.heap.size, 0, none⟩) 1 1) [] (.slice none 0 0) V (HL1.out.below hbV) ⟨_, _, rfl, by simp, fun _ => ⟨w1.heap.size, 0, rfl, (Array.getElem?_eq_some_iff.1 gV).1, fun j u hu => by rw [Nat.zero_add, cell_of gV]; simpa [pcsC, pcC, txtOf] using hu⟩⟩ (Hn.out _ _) (fun x hx => absurd hx List.not_mem_nil) (by simp) fit1 (by omega) (by omega) (HG.out V HBV.out) H12.out
  clear hbV gV
  go_wp2_with fail
  try rw [hV]
  refine calls_at HR.out (by with_reducible rfl) (by with_reducible rfl) ?_
  rintro e w2 ⟨n2, r2, D2, l2, rfl, hb2, hL2, hq⟩
  obtain ⟨rfl, rfl, rfl, rfl⟩ : r2 = 0 ∧ D2 = [headS, countS 2] ++ [wk1] ∧ n2 = 3 ∧ l2 = 3 := by
    rcases hq with ⟨h1, _, h3, h4, h5⟩ | ⟨_, h2, _⟩ | ⟨_, h2, _⟩
    · exact ⟨h1, h3, h4, h5⟩
    · exact absurd h2.2 (one_ok wo1)
    · cases h2
  have HB2 : Hid (Below w.heap.size w w2) := HBV.out.trans hb2.low
  have HL2 : Hid (LgD w.heap.size w.heap.size ([headS, countS 2] ++ [wk1]) false 3 false w2) := hL2
  clear hb2 hL2 hq hV HR
  obtain ⟨V, hV⟩ : ∃ V, w2.alloc (.cells #[.int .i64 1, .string ⟨#[51]⟩, .int .i64 0, .int .i64 1, .string ⟨#[50]⟩, .int .i64 0, .int .i64 3, .string ⟨#[]⟩, .int .i64 0] 84) = V := ⟨_, rfl⟩
  have hbV : Below w2.heap.size w2 V := by rw [← hV]; exact (Below.refl _ _).alloc (Nat.le_refl _) _
  have gV : V.heap[w2.heap.size]? = some (.cells #[.int .i64 1, .string ⟨#[51]⟩, .int .i64 0, .int .i64 1, .string ⟨#[50]⟩, .int .i64 0, .int .i64 3, .string ⟨#[]⟩, .int .i64 0] 84 (0, 0)) := by rw [← hV]; exact heap_alloc_new w2 _
  have HBV2 : Hid (Below w.heap.size w V) := bl_next HB2.out hbV
  have HR : Hid (Calls Tryz.prog 24 #[.pointer (some ⟨w.heap.size, 0, none⟩), .slice (some ⟨w2.heap.size, 0, none⟩) 3 3] V (NuO w.heap.size w.heap.size ([headS, countS 2] ++ [wk1]) false 3 false wk2 V)) := pol_any [(1, [51], 0), (1, [50], 0), (3, [], 0)] (.slice (some ⟨w2.heap.size, 0, none⟩) 3 3) V (HL2.out.below hbV) ⟨_, _, rfl, by simp, fun _ => ⟨w2.heap.size, 0, rfl, (Array.getElem?_eq_some_iff.1 gV).1, fun j u hu => by rw [Nat.zero_add, cell_of gV]; simpa [opsC, opC, txtOf] using hu⟩⟩ fit2 (by omega) (by omega) (HG.out V HBV2.out) H12.out
  clear hbV gV
  go_wp2_with fail
  try rw [hV]
  refine calls_at HR.out (by with_reducible rfl) (by with_reducible rfl) ?_
  rintro e w3 ⟨n3, r3, D3, l3, rfl, hb3, hL3, hq⟩
  obtain ⟨rfl, rfl, rfl, rfl⟩ : r3 = 0 ∧ D3 = [headS, countS 2] ++ [wk1] ++ [wk2] ∧ n3 = 4 ∧ l3 = 4 := by
    rcases hq with ⟨h1, _, h3, h4, h5⟩ | ⟨_, h2, _⟩ | ⟨_, h2, _⟩
    · exact ⟨h1, h3, h4, h5⟩
    · exact absurd h2.2 (one_ok wo2)
    · cases h2
  have HB3 : Hid (Below w.heap.size w w3) := HBV2.out.trans hb3.low
  have HL3 : Hid (LgD w.heap.size w.heap.size ([headS, countS 2] ++ [wk1] ++ [wk2]) false 4 false w3) := hL3
  clear hb3 hL3 hq hV HR
  obtain ⟨V, hV⟩ : ∃ V, w3.alloc (.cells #[.int .i64 3] 3) = V := ⟨_, rfl⟩
  have hbV : Below w3.heap.size w3 V := by rw [← hV]; exact (Below.refl _ _).alloc (Nat.le_refl _) _
  have HBV3 : Hid (Below w.heap.size w V) := bl_next HB3.out hbV
  have HR : Hid (Calls Tryz.prog 28 #[.pointer (some ⟨w.heap.size, 0, none⟩), .slice (some ⟨w3.heap.size, 0, none⟩) 1 1] V (LyO w.heap.size w.heap.size ([headS, countS 2] ++ [wk1] ++ [wk2]) false 4 false [wk3] V)) := wdel_any [3] (.slice (some ⟨w3.heap.size, 0, none⟩) 1 1) V (HL3.out.below hbV) (by rw [← hV]; exact int_one w3 3) (fun x hx => by
    have e : x = 3 := by simpa using hx
    rw [e]; decide) (by simp) fit3 (HG.out V HBV3.out) H12.out
  clear hbV
  go_wp2_with fail
  try rw [hV]
  refine calls_at HR.out (by with_reducible rfl) (by with_reducible rfl) ?_
  rintro e w4 ⟨r4, D4, rfl, hb4, hL4, hq⟩
  obtain ⟨rfl, rfl⟩ : r4 = 0 ∧ D4 = [headS, countS 2] ++ [wk1] ++ [wk2] ++ [wk3] := by
    rcases hq with ⟨h1, _, h3⟩ | ⟨_, h2, _⟩ | ⟨_, h2, _⟩
    · exact ⟨h1, h3⟩
    · exact absurd h2.2 (one_ok wo3)
    · cases h2
  have HB4 : Hid (Below w.heap.size w w4) := HBV3.out.trans hb4.low
  have HL4 : Hid (LgD w.heap.size w.heap.size ([headS, countS 2] ++ [wk1] ++ [wk2] ++ [wk3]) false 4 false w4) := hL4
  clear hb4 hL4 hq hV HR
  have HR : Hid (Calls Tryz.prog 30 #[.pointer (some ⟨w.heap.size, 0, none⟩), .int .i64 2, .int .i64 4, .int .i64 0, .int .i64 0] w4 (FiO w.heap.size w.heap.size ([headS, countS 2] ++ [wk1] ++ [wk2] ++ [wk3]) false 4 false wk4 w4)) := wend_any 2 4 0 0 w4 HL4.out ⟨by decide, by decide⟩ ⟨by decide, by decide⟩ ⟨by decide, by decide⟩ fit4 (HG.out w4 HB4.out) H12.out
  go_wp2_with fail
  refine calls_at HR.out (by with_reducible rfl) (by with_reducible rfl) ?_
  rintro e w5 ⟨r5, D5, ov5, rfl, hb5, hL5, hq⟩
  obtain ⟨rfl, rfl, rfl⟩ : r5 = 0 ∧ D5 = [headS, countS 2] ++ [wk1] ++ [wk2] ++ [wk3] ++ wk4 ∧ ov5 = true := by
    rcases hq with ⟨h1, _, h3, h4⟩ | ⟨_, h2, _⟩ | ⟨_, h2, _⟩
    · exact ⟨h1, h3, h4⟩
    · exact absurd h2.2 ok4
    · cases h2
  have HB5 : Hid (Below w.heap.size w w5) := HB4.out.trans hb5.low
  have HL5 : Hid (LgD w.heap.size w.heap.size ([headS, countS 2] ++ [wk1] ++ [wk2] ++ [wk3] ++ wk4) true 4 false w5) := hL5
  clear hb5 hL5 hq HR
  have HR : Hid (Calls Tryz.prog 23 #[.pointer (some ⟨w.heap.size, 0, none⟩), .agg #[.slice none 0 0, .string ⟨#[48]⟩], .slice none 0 0] w5 (NuO w.heap.size w.heap.size ([headS, countS 2] ++ [wk1] ++ [wk2] ++ [wk3] ++ wk4) true 4 false (rupS [] [48] []) w5)) := wrup_any [] [48] (.slice none 0 0) [] (.slice none 0 0) w5 HL5.out (Hn.out _ _) (Hn.out _ _) (fun x hx => absurd hx List.not_mem_nil) (by simp) fit5 (by omega) (by omega) (HG.out w5 HB5.out) H12.out
  go_wp2_with fail
  refine calls_at HR.out (by with_reducible rfl) (by with_reducible rfl) ?_
  rintro e w6 ⟨n6, r6, D6, l6, rfl, hb6, hL6, hq⟩
  obtain ⟨rfl, rfl, rfl, rfl⟩ : r6 = 161 ∧ D6 = [headS, countS 2] ++ [wk1] ++ [wk2] ++ [wk3] ++ wk4 ∧ n6 = 0 ∧ l6 = 4 := by
    rcases hq with ⟨_, h2, _⟩ | ⟨_, h2, _⟩ | ⟨h1, _, h3, h4, h5⟩
    · cases h2
    · cases h2.1
    · exact ⟨h1, h3, h4, h5⟩
  have HB6 : Hid (Below w.heap.size w w6) := HB5.out.trans hb6.low
  have HT : Hid (Calls Tryz.prog 32 #[.pointer (some ⟨w.heap.size, 0, none⟩)] w6 fun e w' => e = .returned (.string (txtOf wkT)) ∧ w' = w6) := by
    have h := wtext_any w6 hL6.at_
    rw [wkText] at h
    exact h
  clear hb6 hL6 hq HR
  go_wp2_with (first | (go_at_call 31; refine calls_at (HNu.out _ _) (by with_reducible rfl) (by with_reducible rfl) ?_; rintro e wn ⟨rfl, hwn⟩; rw [hwn]; clear hwn) | (go_at_call 32; refine calls_at HT.out (by with_reducible rfl) (by with_reducible rfl) ?_; rintro e wn ⟨rfl, hwn⟩; rw [hwn]; clear hwn))
  go_ret
  exact ⟨congrArg (fun b => Ending.returned (Value.bool b)) wkEq, HB6.out⟩
end Go.Proofs.YtibbnijicdijnaaGreatDoor
