/-
  Put together: PwSoli, PwMeth.
-/
import Derived.Test.YtibbnijicdijnaaGreatDoorJ45
import Derived.Test.YtibbnijicdijnaaGreatDoorJ12
namespace Go.Proofs.YtibbnijicdijnaaGreatDoor
open Go.RowKit

/-- How a call ends that may add a row. -/
def MtO (B b : Nat) (D : List SL) (ov : Bool) (last : Int) (goal adds : Bool) (d : SL) (w : World) (e : Ending) (w' : World) : Prop := ∃ n r D' last', e = .returned (.tuple #[.int .i64 n, .int .i64 r]) ∧ Kw B w w' ∧ LgD B b D' ov last' goal w' ∧ ((r = 0 ∧ ov = false ∧ D' = D ++ [d] ∧ n = (if adds = true then last + 1 else 0) ∧ last' = (if adds = true then last + 1 else last)) ∨ (r = 160 ∧ (ov = false ∧ Bad [d]) ∧ D' = D ∧ n = 0 ∧ last' = last) ∨ (r = 161 ∧ ov = true ∧ D' = D ∧ n = 0 ∧ last' = last))
def soliS (F : List Int) : SL := { SL.zero with k := 5, lits := F }
set_option maxRecDepth 10000 in
set_option maxHeartbeats 2000000 in
theorem soli_any {B b : Nat} {D : List SL} {ov goal : Bool} {last : Int} (F : List Int) (v : Value) (w : World) (h : LgD B b D ov last goal w) (hR : RdAt w v F.length (F.map (.int .i64))) (hf : Fit D [soliS F]) (h0 : 0 ≤ last) (h1 : last ≤ 2000000000000000000) (hg : Gl w) (h12 : 12 ≤ B) : Calls Tryz.prog 25 #[.pointer (some ⟨b, 0, none⟩), v] w (MtO B b D ov last goal goal (soliS F) w) := by
  have hBw : B ≤ w.heap.size := Nat.le_of_lt (Nat.lt_of_le_of_lt h.at_.1 h.at_.lt)
  obtain ⟨a, c, rfl, _, _⟩ := id hR
  have hmf : ∀ (fn : Fn) (first cap : Array Value) (w : World), (Instr.makeFunc fn first cap).run Tryz.prog w = .ok (.func fn first cap) w := fun _ _ _ _ => rfl
  have hn : ∀ (W : World) (xs : List Value), RdAt W (.slice none 0 0) 0 xs := fun W xs => ⟨none, 0, rfl, by omega, fun h => absurd h (Nat.lt_irrefl _)⟩
  have hS : SlR w (soliS F) (.slice none 0 0) (.slice none 0 0) (.slice a F.length c) (.slice none 0 0) := ⟨hn _ _, hn _ _, hR, hn _ _⟩
  obtain ⟨V, hV⟩ : ∃ V, w.alloc (.cells #[.int .i64 5, .string ⟨#[]⟩, .slice none 0 0, .slice none 0 0, .string ⟨#[]⟩, .slice a F.length c, .slice none 0 0, .int .i64 0, .string ⟨#[]⟩, .string ⟨#[]⟩] 45) = V := ⟨_, rfl⟩
  have hbV : Below w.heap.size w V := by rw [← hV]; exact (Below.refl _ _).alloc (Nat.le_refl _) _
  have gV : V.heap[w.heap.size]? = some (.cells #[.int .i64 5, .string ⟨#[]⟩, .slice none 0 0, .slice none 0 0, .string ⟨#[]⟩, .slice a F.length c, .slice none 0 0, .int .i64 0, .string ⟨#[]⟩, .string ⟨#[]⟩] 45 (0, 0)) := by rw [← hV]; exact heap_alloc_new w _
  have hdV : Below w.heap.size w V.drew := hbV.drew
  have HB : Hid (Kw B w V.drew) := Kw.of_below hdV hBw
  have hBU : B ≤ V.drew.heap.size := Nat.le_trans hBw hdV.size
  have HC : Hid (∀ w', Below V.drew.heap.size V.drew w' → w'.cell? ⟨w.heap.size, 0, none⟩ = some (.int .i64 5) ∧ w'.cell? ⟨w.heap.size, 1, none⟩ = some (.string ⟨#[]⟩) ∧ w'.cell? ⟨w.heap.size, 2, none⟩ = some (.slice none 0 0) ∧ w'.cell? ⟨w.heap.size, 3, none⟩ = some (.slice none 0 0) ∧ w'.cell? ⟨w.heap.size, 4, none⟩ = some (.string ⟨#[]⟩) ∧ w'.cell? ⟨w.heap.size, 5, none⟩ = some (.slice a F.length c) ∧ w'.cell? ⟨w.heap.size, 6, none⟩ = some (.slice none 0 0) ∧ w'.cell? ⟨w.heap.size, 7, none⟩ = some (.int .i64 0) ∧ w'.cell? ⟨w.heap.size, 8, none⟩ = some (.string ⟨#[]⟩) ∧ w'.cell? ⟨w.heap.size, 9, none⟩ = some (.string ⟨#[]⟩)) := fun w' hb => by
    have g := (hb.block w.heap.size (show w.heap.size < V.drew.heap.size from (Array.getElem?_eq_some_iff.1 gV).1)).trans (show V.drew.heap[w.heap.size]? = _ from gV)
    exact ⟨cell_of g 0, cell_of g 1, cell_of g 2, cell_of g 3, cell_of g 4, cell_of g 5, cell_of g 6, cell_of g 7, cell_of g 8, cell_of g 9⟩
  have HN : Hid (Calls Tryz.prog 53 #[.pointer (some ⟨b, 2, none⟩), .func (.func 51) #[.pointer (some ⟨b, 0, none⟩)] #[], .agg #[.int .i64 5, .string ⟨#[]⟩, .slice none 0 0, .slice none 0 0, .string ⟨#[]⟩, .slice a F.length c, .slice none 0 0, .int .i64 0, .string ⟨#[]⟩, .string ⟨#[]⟩]] V.drew (NuO B b D ov last goal (soliS F) V.drew)) := num_log (soliS F) _ _ _ _ V.drew (h.below hdV) (hS.below hdV) hf h0 h1 (hg.next hdV) h12
  have HL : Hid (Calls Tryz.prog 51 #[.pointer (some ⟨b, 0, none⟩), .slice (some ⟨V.drew.heap.size, 0, none⟩) 1 1] (V.drew.alloc (.cells #[.int .i64 5, .string ⟨#[]⟩, .slice none 0 0, .slice none 0 0, .string ⟨#[]⟩, .slice a F.length c, .slice none 0 0, .int .i64 0, .string ⟨#[]⟩, .string ⟨#[]⟩] 45)) (LyO B b D ov last goal [soliS F] (V.drew.alloc (.cells #[.int .i64 5, .string ⟨#[]⟩, .slice none 0 0, .slice none 0 0, .string ⟨#[]⟩, .slice a F.length c, .slice none 0 0, .int .i64 0, .string ⟨#[]⟩, .string ⟨#[]⟩] 45)))) := lay_any [soliS F] _ _ (h.below (hdV.alloc (hdV.size) _)) (sts_one (hS.below hdV)) hf (hg.next (hdV.alloc (hdV.size) _)) h12
  obtain ⟨_, u, hbk, _⟩ := id (h.below hbV).at_
  have c3 : (w.alloc (.cells #[.int .i64 5, .string ⟨#[]⟩, .slice none 0 0, .slice none 0 0, .string ⟨#[]⟩, .slice a F.length c, .slice none 0 0, .int .i64 0, .string ⟨#[]⟩, .string ⟨#[]⟩] 45)).cell? ⟨b, 3, none⟩ = some (.bool goal) := by rw [hV]; exact cell_of hbk 3
  have HV : Hid (w.alloc (.cells #[.int .i64 5, .string ⟨#[]⟩, .slice none 0 0, .slice none 0 0, .string ⟨#[]⟩, .slice a F.length c, .slice none 0 0, .int .i64 0, .string ⟨#[]⟩, .string ⟨#[]⟩] 45) = V) := hV
  have hdc := HC.out V.drew (Below.refl _ _)
  clear h hR hf hg hn hS hbV gV hdV hbk hV
  cases goal with
  | true =>
    go_enter Tryz.func25, Tryz.ntmps25
    go_wp2_with fail
    rw [HV.out]
    refine wp_region_T (fun _ => True) (fun w' => w'.cell? ⟨w.heap.size, 0, none⟩ = some (.int .i64 5) ∧ w'.cell? ⟨w.heap.size, 1, none⟩ = some (.string ⟨#[]⟩) ∧ w'.cell? ⟨w.heap.size, 2, none⟩ = some (.slice none 0 0) ∧ w'.cell? ⟨w.heap.size, 3, none⟩ = some (.slice none 0 0) ∧ w'.cell? ⟨w.heap.size, 4, none⟩ = some (.string ⟨#[]⟩) ∧ w'.cell? ⟨w.heap.size, 5, none⟩ = some (.slice a F.length c) ∧ w'.cell? ⟨w.heap.size, 6, none⟩ = some (.slice none 0 0) ∧ w'.cell? ⟨w.heap.size, 7, none⟩ = some (.int .i64 0) ∧ w'.cell? ⟨w.heap.size, 8, none⟩ = some (.string ⟨#[]⟩) ∧ w'.cell? ⟨w.heap.size, 9, none⟩ = some (.string ⟨#[]⟩)) [8] (by kernel_rfl) ⟨trivial, hdc⟩ (fun hHeld => ?_)
    have HN2 := HN.out
    clear HV c3 hdc HC HL hBU
    generalize V.drew = U at hHeld HN2 HB ⊢
    refine wpAnyT_takeB (i := 0) (oi := ⟨some 20, .move (.tmp 0), _, _, _, _⟩) (v := ?va0) rfl (by kernel_rfl) (by kernel_rfl) (by kernel_rfl) (by kernel_rfl) (fun _ _ _ h => h) (Or.inl ⟨by rfl, ?hya0⟩) (by assumption) ?resta0
    case hya0 => (intro w hSw; (try dsimp only at hSw); go_simp; try (with_reducible rfl))
    try simp only [Act.put, List.setIfInBounds_toArray, List.set_cons_zero, List.set_cons_succ]
    refine wpAnyT_takeB (i := 1) (oi := ⟨some 21, .nilCheck (.tmp 20), _, _, _, _⟩) (v := ?va1) rfl (by kernel_rfl) (by kernel_rfl) (by kernel_rfl) (by kernel_rfl) (fun _ _ _ h => h) (Or.inl ⟨by rfl, ?hya1⟩) (by assumption) ?resta1
    case hya1 => (intro w hSw; (try dsimp only at hSw); go_simp; try (with_reducible rfl))
    try simp only [Act.put, List.setIfInBounds_toArray, List.set_cons_zero, List.set_cons_succ]
    refine wpAnyT_takeB (i := 2) (oi := ⟨some 22, .fieldAddr 77 (.tmp 21) 1, _, _, _, _⟩) (v := ?va2) rfl (by kernel_rfl) (by kernel_rfl) (by kernel_rfl) (by kernel_rfl) (fun _ _ _ h => h) (Or.inl ⟨by rfl, ?hya2⟩) (by assumption) ?resta2
    case hya2 => (intro w hSw; (try dsimp only at hSw); go_simp; try (with_reducible rfl))
    try simp only [Act.put, List.setIfInBounds_toArray, List.set_cons_zero, List.set_cons_succ]
    refine wpAnyT_takeB (i := 3) (oi := ⟨some 23, .move (.tmp 0), _, _, _, _⟩) (v := ?va3) rfl (by kernel_rfl) (by kernel_rfl) (by kernel_rfl) (by kernel_rfl) (fun _ _ _ h => h) (Or.inl ⟨by rfl, ?hya3⟩) (by assumption) ?resta3
    case hya3 => (intro w hSw; (try dsimp only at hSw); go_simp; try (with_reducible rfl))
    try simp only [Act.put, List.setIfInBounds_toArray, List.set_cons_zero, List.set_cons_succ]
    refine wpAnyT_takeB (i := 4) (oi := ⟨some 24, .nilCheck (.tmp 23), _, _, _, _⟩) (v := ?va4) rfl (by kernel_rfl) (by kernel_rfl) (by kernel_rfl) (by kernel_rfl) (fun _ _ _ h => h) (Or.inl ⟨by rfl, ?hya4⟩) (by assumption) ?resta4
    case hya4 => (intro w hSw; (try dsimp only at hSw); go_simp; try (with_reducible rfl))
    try simp only [Act.put, List.setIfInBounds_toArray, List.set_cons_zero, List.set_cons_succ]
    refine wpAnyT_takeB (i := 5) (oi := ⟨some 25, .fieldAddr 77 (.tmp 24) 0, _, _, _, _⟩) (v := ?va5) rfl (by kernel_rfl) (by kernel_rfl) (by kernel_rfl) (by kernel_rfl) (fun _ _ _ h => h) (Or.inl ⟨by rfl, ?hya5⟩) (by assumption) ?resta5
    case hya5 => (intro w hSw; (try dsimp only at hSw); go_simp; try (with_reducible rfl))
    try simp only [Act.put, List.setIfInBounds_toArray, List.set_cons_zero, List.set_cons_succ]
    refine wpAnyT_takeB (i := 6) (oi := ⟨some 26, .makeFunc (.func 51) #[(.tmp 25)] #[], _, _, _, _⟩) (v := ?va6) rfl (by kernel_rfl) (by kernel_rfl) (by kernel_rfl) (by kernel_rfl) (fun _ _ _ h => h) (Or.inl ⟨by rfl, ?hya6⟩) (by assumption) ?resta6
    case hya6 => (intro w hSw; (try dsimp only at hSw); go_simp; try (with_reducible rfl))
    try simp only [Act.put, List.setIfInBounds_toArray, List.set_cons_zero, List.set_cons_succ]
    refine wpAnyT_take (i := 7) (oi := ⟨some 27, .load 45 (.tmp 6), _, _, _, _⟩) (v := ?va7) rfl (by kernel_rfl) (by kernel_rfl) (by kernel_rfl) (by kernel_rfl) (by kernel_rfl) (fun _ _ _ h => h) (Or.inl ⟨by rfl, ?hya7⟩) (by assumption) ?resta7
    case hya7 => (intro w hSw; (try dsimp only at hSw); obtain ⟨_, ⟨s0, s1, s2, s3, s4, s5, s6, s7, s8, s9⟩⟩ := hSw; go_simp; try (with_reducible rfl))
    try simp only [Act.put, List.setIfInBounds_toArray, List.set_cons_zero, List.set_cons_succ]
    refine wpAnyT_late (i := 8) (o := ⟨some 28, .call { callee := .value (.func 53), args := #[(.tmp 22), (.tmp 26), (.tmp 27)], argTypes := #[75, 113, 45] }, _, _, _, _⟩) (by kernel_rfl) rfl (by kernel_rfl) (fun K hK => ?_)
    go_simp
    refine calls_at HN2 (by with_reducible rfl) (by with_reducible rfl) ?_
    rintro e w1 ⟨n, r, D', last', rfl, k1, k2, k3⟩
    have HE : Hid (MtO B b D ov last true true (soliS F) w (.returned (.tuple #[.int .i64 n, .int .i64 r])) w1) := ⟨n, r, D', last', rfl, HB.out.trans k1, k2, k3⟩
    clear k1 k2 k3 HN2
    go_wp2_with fail
    refine hK.out _ _ trivial ?_
    clear hK K
    try simp only [Act.put, List.setIfInBounds_toArray, List.set_cons_zero, List.set_cons_succ]
    refine wpAnyT_takeL (i := 9) (oi := ⟨some 29, .extract (.tmp 28) 0, _, _, _, _⟩) (v := ?vb9) rfl (by kernel_rfl) (by kernel_rfl) (by kernel_rfl) (by kernel_rfl) (by kernel_rfl) (fun _ _ _ h => h) (Or.inl ⟨by rfl, ?hyb9⟩) trivial ?restb9
    case hyb9 => (intro w hSw; go_simp; try (with_reducible rfl))
    try simp only [Act.put, List.setIfInBounds_toArray, List.set_cons_zero, List.set_cons_succ]
    refine wpAnyT_takeL (i := 10) (oi := ⟨some 30, .extract (.tmp 28) 1, _, _, _, _⟩) (v := ?vb10) rfl (by kernel_rfl) (by kernel_rfl) (by kernel_rfl) (by kernel_rfl) (by kernel_rfl) (fun _ _ _ h => h) (Or.inl ⟨by rfl, ?hyb10⟩) trivial ?restb10
    case hyb10 => (intro w hSw; go_simp; try (with_reducible rfl))
    try simp only [Act.put, List.setIfInBounds_toArray, List.set_cons_zero, List.set_cons_succ]
    refine wpAnyT_takeL (i := 11) (oi := ⟨some 4, .assign (.tmp 29), _, _, _, _⟩) (v := ?vb11) rfl (by kernel_rfl) (by kernel_rfl) (by kernel_rfl) (by kernel_rfl) (by kernel_rfl) (fun _ _ _ h => h) (Or.inl ⟨by rfl, ?hyb11⟩) trivial ?restb11
    case hyb11 => (intro w hSw; go_simp; try (with_reducible rfl))
    try simp only [Act.put, List.setIfInBounds_toArray, List.set_cons_zero, List.set_cons_succ]
    refine wpAnyT_takeL (i := 12) (oi := ⟨some 5, .assign (.tmp 30), _, _, _, _⟩) (v := ?vb12) rfl (by kernel_rfl) (by kernel_rfl) (by kernel_rfl) (by kernel_rfl) (by kernel_rfl) (fun _ _ _ h => h) (Or.inl ⟨by rfl, ?hyb12⟩) trivial ?restb12
    case hyb12 => (intro w hSw; go_simp; try (with_reducible rfl))
    try simp only [Act.put, List.setIfInBounds_toArray, List.set_cons_zero, List.set_cons_succ]
    refine wpAnyT_done (by kernel_rfl) ?_ _
    go_wp2_with fail
    go_ret2
    exact HE.out
  | false =>
    go_enter Tryz.func25, Tryz.ntmps25
    go_wp2_with fail
    rw [HV.out]
    refine wp_region_T (fun _ => True) (fun w' => w'.cell? ⟨w.heap.size, 0, none⟩ = some (.int .i64 5) ∧ w'.cell? ⟨w.heap.size, 1, none⟩ = some (.string ⟨#[]⟩) ∧ w'.cell? ⟨w.heap.size, 2, none⟩ = some (.slice none 0 0) ∧ w'.cell? ⟨w.heap.size, 3, none⟩ = some (.slice none 0 0) ∧ w'.cell? ⟨w.heap.size, 4, none⟩ = some (.string ⟨#[]⟩) ∧ w'.cell? ⟨w.heap.size, 5, none⟩ = some (.slice a F.length c) ∧ w'.cell? ⟨w.heap.size, 6, none⟩ = some (.slice none 0 0) ∧ w'.cell? ⟨w.heap.size, 7, none⟩ = some (.int .i64 0) ∧ w'.cell? ⟨w.heap.size, 8, none⟩ = some (.string ⟨#[]⟩) ∧ w'.cell? ⟨w.heap.size, 9, none⟩ = some (.string ⟨#[]⟩)) [4] (by kernel_rfl) ⟨trivial, hdc⟩ (fun hHeld => ?_)
    clear HV c3 hdc HN
    clear HC
    generalize V.drew = U at hHeld HL HB hBU ⊢
    refine wpAnyT_takeB (i := 0) (oi := ⟨some 14, .move (.tmp 0), _, _, _, _⟩) (v := ?vc0) rfl (by kernel_rfl) (by kernel_rfl) (by kernel_rfl) (by kernel_rfl) (fun _ _ _ h => h) (Or.inl ⟨by rfl, ?hyc0⟩) (by assumption) ?restc0
    case hyc0 => (intro w hSw; (try dsimp only at hSw); go_simp; try (with_reducible rfl))
    try simp only [Act.put, List.setIfInBounds_toArray, List.set_cons_zero, List.set_cons_succ]
    refine wpAnyT_takeB (i := 1) (oi := ⟨some 15, .nilCheck (.tmp 14), _, _, _, _⟩) (v := ?vc1) rfl (by kernel_rfl) (by kernel_rfl) (by kernel_rfl) (by kernel_rfl) (fun _ _ _ h => h) (Or.inl ⟨by rfl, ?hyc1⟩) (by assumption) ?restc1
    case hyc1 => (intro w hSw; (try dsimp only at hSw); go_simp; try (with_reducible rfl))
    try simp only [Act.put, List.setIfInBounds_toArray, List.set_cons_zero, List.set_cons_succ]
    refine wpAnyT_takeB (i := 2) (oi := ⟨some 16, .fieldAddr 77 (.tmp 15) 0, _, _, _, _⟩) (v := ?vc2) rfl (by kernel_rfl) (by kernel_rfl) (by kernel_rfl) (by kernel_rfl) (fun _ _ _ h => h) (Or.inl ⟨by rfl, ?hyc2⟩) (by assumption) ?restc2
    case hyc2 => (intro w hSw; (try dsimp only at hSw); go_simp; try (with_reducible rfl))
    try simp only [Act.put, List.setIfInBounds_toArray, List.set_cons_zero, List.set_cons_succ]
    refine wpAnyT_take (i := 3) (oi := ⟨some 17, .load 45 (.tmp 6), _, _, _, _⟩) (v := ?vc3) rfl (by kernel_rfl) (by kernel_rfl) (by kernel_rfl) (by kernel_rfl) (by kernel_rfl) (fun _ _ _ h => h) (Or.inl ⟨by rfl, ?hyc3⟩) (by assumption) ?restc3
    case hyc3 => (intro w hSw; (try dsimp only at hSw); obtain ⟨_, ⟨s0, s1, s2, s3, s4, s5, s6, s7, s8, s9⟩⟩ := hSw; go_simp; try (with_reducible rfl))
    try simp only [Act.put, List.setIfInBounds_toArray, List.set_cons_zero, List.set_cons_succ]
    refine wpAnyT_late (i := 4) (o := ⟨some 18, .buildSlice 22 1 #[(0, (.tmp 17))], _, _, _, _⟩) (by kernel_rfl) rfl (by kernel_rfl) (fun K hK => ?_)
    go_simp
    obtain ⟨X, hX⟩ : ∃ X, U.alloc (.cells #[.int .i64 5, .string ⟨#[]⟩, .slice none 0 0, .slice none 0 0, .string ⟨#[]⟩, .slice a F.length c, .slice none 0 0, .int .i64 0, .string ⟨#[]⟩, .string ⟨#[]⟩] 45) = X := ⟨_, rfl⟩
    have hbX : Below U.heap.size U X := by rw [← hX]; exact (Below.refl _ _).alloc (Nat.le_refl _) _
    rw [hX] at HL
    rw [hX]
    have HBX : Hid (Kw B w X) := HB.out.trans (Kw.of_below hbX hBU)
    clear hX hbX
    refine hK.out _ _ trivial ?_
    clear hK K
    try simp only [Act.put, List.setIfInBounds_toArray, List.set_cons_zero, List.set_cons_succ]
    refine wpAnyT_late (i := 5) (o := ⟨some 19, .call { callee := .value (.func 51), args := #[(.tmp 16), (.tmp 18)], argTypes := #[73, 22] }, _, _, _, _⟩) (by kernel_rfl) rfl (by kernel_rfl) (fun K hK => ?_)
    go_simp
    refine calls_at HL.out (by with_reducible rfl) (by with_reducible rfl) ?_
    rintro e w1 ⟨r, D', rfl, k1, k2, k3⟩
    have HE : Hid (MtO B b D ov last false false (soliS F) w (.returned (.tuple #[.int .i64 0, .int .i64 r])) w1) := ⟨0, r, D', last, rfl, HBX.out.trans k1, k2, by
      rcases k3 with ⟨h1, h2, h3⟩ | ⟨h1, h2, h3⟩ | ⟨h1, h2, h3⟩
      · exact .inl ⟨h1, h2, h3, rfl, rfl⟩
      · exact .inr (.inl ⟨h1, h2, h3, rfl, rfl⟩)
      · exact .inr (.inr ⟨h1, h2, h3, rfl, rfl⟩)⟩
    clear k1 k2 k3 HL
    go_wp2_with fail
    refine hK.out _ _ trivial ?_
    clear hK K
    try simp only [Act.put, List.setIfInBounds_toArray, List.set_cons_zero, List.set_cons_succ]
    refine wpAnyT_takeL (i := 6) (oi := ⟨some 4, .assign (.const (.int .i64 0)), _, _, _, _⟩) (v := ?vd6) rfl (by kernel_rfl) (by kernel_rfl) (by kernel_rfl) (by kernel_rfl) (by kernel_rfl) (fun _ _ _ h => h) (Or.inl ⟨by rfl, ?hyd6⟩) trivial ?restd6
    case hyd6 => (intro w hSw; go_simp; try (with_reducible rfl))
    try simp only [Act.put, List.setIfInBounds_toArray, List.set_cons_zero, List.set_cons_succ]
    refine wpAnyT_takeL (i := 7) (oi := ⟨some 5, .assign (.tmp 19), _, _, _, _⟩) (v := ?vd7) rfl (by kernel_rfl) (by kernel_rfl) (by kernel_rfl) (by kernel_rfl) (by kernel_rfl) (fun _ _ _ h => h) (Or.inl ⟨by rfl, ?hyd7⟩) trivial ?restd7
    case hyd7 => (intro w hSw; go_simp; try (with_reducible rfl))
    try simp only [Act.put, List.setIfInBounds_toArray, List.set_cons_zero, List.set_cons_succ]
    refine wpAnyT_done (by kernel_rfl) ?_ _
    go_wp2_with fail
    go_ret2
    exact HE.out
end Go.Proofs.YtibbnijicdijnaaGreatDoor

namespace Go.Proofs.YtibbnijicdijnaaGreatDoor
open Go.RowKit

def noteS : SL := { SL.zero with k := 7 }
set_option maxRecDepth 10000 in
set_option maxHeartbeats 2000000 in
theorem note_any {B b : Nat} {D : List SL} {ov goal : Bool} {last : Int} (w : World) (h : LgD B b D ov last goal w) (hf : Fit D [noteS]) (hg : Gl w) (h12 : 12 ≤ B) : Calls Tryz.prog 29 #[.pointer (some ⟨b, 0, none⟩)] w (LyO B b D ov last goal [noteS] w) := by
  have hBw : B ≤ w.heap.size := Nat.le_of_lt (Nat.lt_of_le_of_lt h.at_.1 h.at_.lt)
  have hn : ∀ (W : World) (xs : List Value), RdAt W (.slice none 0 0) 0 xs := fun W xs => ⟨none, 0, rfl, by omega, fun h => absurd h (Nat.lt_irrefl _)⟩
  obtain ⟨V, hV⟩ : ∃ V, w.alloc (.cells #[.int .i64 7, .string ⟨#[]⟩, .slice none 0 0, .slice none 0 0, .string ⟨#[]⟩, .slice none 0 0, .slice none 0 0, .int .i64 0, .string ⟨#[]⟩, .string ⟨#[]⟩] 45) = V := ⟨_, rfl⟩
  have hbV : Below w.heap.size w V := by rw [← hV]; exact (Below.refl _ _).alloc (Nat.le_refl _) _
  have HL : Hid (Calls Tryz.prog 51 #[.pointer (some ⟨b, 0, none⟩), .slice (some ⟨w.heap.size, 0, none⟩) 1 1] V (LyO B b D ov last goal [noteS] V)) := lay_any [noteS] _ V (h.below hbV) (by rw [← hV]; exact sts_one (d := noteS) (vo := .slice none 0 0) (vp := .slice none 0 0) (vl := .slice none 0 0) (vi := .slice none 0 0) ⟨hn _ _, hn _ _, hn _ _, hn _ _⟩) hf (hg.next hbV) h12
  have HB : Hid (Kw B w V) := Kw.of_below hbV hBw
  clear h hf hg hn hbV
  go_enter Tryz.func29, Tryz.ntmps29
  go_wp2_with fail
  refine calls_at HL.out (by with_reducible rfl) (by with_reducible rfl) ?_
  rintro e w1 ⟨r, D', rfl, k1, k2, k3⟩
  have HE : Hid (LyO B b D ov last goal [noteS] w (.returned (.int .i64 r)) w1) := ⟨r, D', rfl, HB.out.trans k1, k2, k3⟩
  clear k1 k2 k3
  go_wp2_with fail
  go_ret
  exact HE.out

def delS (F : List Int) : SL := { SL.zero with k := 6, ids := F.map Lib.itoa }
set_option maxRecDepth 10000 in
set_option maxHeartbeats 2000000 in
theorem wdel_any {B b : Nat} {D : List SL} {ov goal : Bool} {last : Int} (F : List Int) (v : Value) (w : World) (h : LgD B b D ov last goal w) (hR : RdAt w v F.length (F.map (.int .i64))) (hI : ∀ x ∈ F, -9223372036854775808 ≤ x ∧ x ≤ 9223372036854775807) (hl : F.length ≤ 1000000) (hf : Fit D [delS F]) (hg : Gl w) (h12 : 12 ≤ B) : Calls Tryz.prog 28 #[.pointer (some ⟨b, 0, none⟩), v] w (LyO B b D ov last goal [delS F] w) := by
  have hBw : B ≤ w.heap.size := Nat.le_of_lt (Nat.lt_of_le_of_lt h.at_.1 h.at_.lt)
  have hn : ∀ (W : World) (xs : List Value), RdAt W (.slice none 0 0) 0 xs := fun W xs => ⟨none, 0, rfl, by omega, fun h => absurd h (Nat.lt_irrefl _)⟩
  obtain ⟨a, c, rfl, _, _⟩ := id hR
  have hd : Below w.heap.size w w.drew := (Below.refl _ _).drew
  have hdl : (F.map Lib.itoa).length = F.length := by simp
  have HDc : Hid (Calls Tryz.prog 54 #[.slice a F.length c] w.drew fun e w' => e = .returned (.slice (some ⟨w.drew.heap.size, 0, none⟩) F.length F.length) ∧ RdAt w' (.slice (some ⟨w.drew.heap.size, 0, none⟩) F.length F.length) F.length ((F.map Lib.itoa).map fun x => .string (txtOf x)) ∧ Below w.drew.heap.size w.drew w') := dec_any F _ w.drew (hR.below hd) hI hl (hg.next hd) (Nat.le_trans h12 hBw)
  have HL : Hid (∀ w' x, Below w.heap.size w w' → RdAt w' (.slice x F.length F.length) F.length ((F.map Lib.itoa).map fun x => .string (txtOf x)) → Calls Tryz.prog 51 #[.pointer (some ⟨b, 0, none⟩), .slice (some ⟨w'.heap.size, 0, none⟩) 1 1] (w'.alloc (.cells #[.int .i64 6, .string ⟨#[]⟩, .slice none 0 0, .slice none 0 0, .string ⟨#[]⟩, .slice none 0 0, .slice x F.length F.length, .int .i64 0, .string ⟨#[]⟩, .string ⟨#[]⟩] 45)) (LyO B b D ov last goal [delS F] (w'.alloc (.cells #[.int .i64 6, .string ⟨#[]⟩, .slice none 0 0, .slice none 0 0, .string ⟨#[]⟩, .slice none 0 0, .slice x F.length F.length, .int .i64 0, .string ⟨#[]⟩, .string ⟨#[]⟩] 45)))) := fun w' x hb hr => by
    have hb2 := hb.alloc hb.size (.cells #[.int .i64 6, .string ⟨#[]⟩, .slice none 0 0, .slice none 0 0, .string ⟨#[]⟩, .slice none 0 0, .slice x F.length F.length, .int .i64 0, .string ⟨#[]⟩, .string ⟨#[]⟩] 45)
    exact lay_any [delS F] _ _ (h.below hb2) (sts_one (d := delS F) (vo := .slice none 0 0) (vp := .slice none 0 0) (vl := .slice none 0 0) (vi := .slice x F.length F.length) ⟨hn _ _, hn _ _, hn _ _, by show RdAt w' _ (F.map Lib.itoa).length _; rw [hdl]; exact hr⟩) hf (hg.next hb2) h12
  have HB : Hid (Below w.heap.size w w.drew) := hd
  clear h hR hI hf hg hn hdl hd
  go_enter Tryz.func28, Tryz.ntmps28
  go_wp2_with fail
  refine wp_region_T (fun _ => True) (fun _ => True) [] (by kernel_rfl) ⟨trivial, trivial⟩ (fun hHeld => ?_)
  generalize w.drew = U at hHeld HDc HB ⊢
  refine wpAnyT_takeB (i := 0) (oi := ⟨some 5, .move (.tmp 0), _, _, _, _⟩) (v := ?va0) rfl (by kernel_rfl) (by kernel_rfl) (by kernel_rfl) (by kernel_rfl) (fun _ _ _ h => h) (Or.inl ⟨by rfl, ?hya0⟩) (by assumption) ?resta0
  case hya0 => (intro w hSw; (try dsimp only at hSw); go_simp; try (with_reducible rfl))
  try simp only [Act.put, List.setIfInBounds_toArray, List.set_cons_zero, List.set_cons_succ]
  refine wpAnyT_takeB (i := 1) (oi := ⟨some 6, .nilCheck (.tmp 5), _, _, _, _⟩) (v := ?va1) rfl (by kernel_rfl) (by kernel_rfl) (by kernel_rfl) (by kernel_rfl) (fun _ _ _ h => h) (Or.inl ⟨by rfl, ?hya1⟩) (by assumption) ?resta1
  case hya1 => (intro w hSw; (try dsimp only at hSw); go_simp; try (with_reducible rfl))
  try simp only [Act.put, List.setIfInBounds_toArray, List.set_cons_zero, List.set_cons_succ]
  refine wpAnyT_takeB (i := 2) (oi := ⟨some 7, .fieldAddr 77 (.tmp 6) 0, _, _, _, _⟩) (v := ?va2) rfl (by kernel_rfl) (by kernel_rfl) (by kernel_rfl) (by kernel_rfl) (fun _ _ _ h => h) (Or.inl ⟨by rfl, ?hya2⟩) (by assumption) ?resta2
  case hya2 => (intro w hSw; (try dsimp only at hSw); go_simp; try (with_reducible rfl))
  try simp only [Act.put, List.setIfInBounds_toArray, List.set_cons_zero, List.set_cons_succ]
  refine wpAnyT_takeB (i := 3) (oi := ⟨some 8, .move (.tmp 1), _, _, _, _⟩) (v := ?va3) rfl (by kernel_rfl) (by kernel_rfl) (by kernel_rfl) (by kernel_rfl) (fun _ _ _ h => h) (Or.inl ⟨by rfl, ?hya3⟩) (by assumption) ?resta3
  case hya3 => (intro w hSw; (try dsimp only at hSw); go_simp; try (with_reducible rfl))
  try simp only [Act.put, List.setIfInBounds_toArray, List.set_cons_zero, List.set_cons_succ]
  refine wpAnyT_one (i := 4) (o := ⟨some 9, .call { callee := .value (.func 54), args := #[(.tmp 8)], argTypes := #[42] }, _, _, _, _⟩) (by kernel_rfl) rfl (fun K hK => ?_)
  go_simp
  refine calls_at HDc.out (by with_reducible rfl) (by with_reducible rfl) ?_
  rintro e w1 ⟨rfl, hr1, hb1⟩
  have HB1 : Hid (Below w.heap.size w w1) := bl_next HB.out hb1
  have HL1 : Hid (Calls Tryz.prog 51 #[.pointer (some ⟨b, 0, none⟩), .slice (some ⟨w1.heap.size, 0, none⟩) 1 1] (w1.alloc (.cells #[.int .i64 6, .string ⟨#[]⟩, .slice none 0 0, .slice none 0 0, .string ⟨#[]⟩, .slice none 0 0, .slice (some ⟨U.heap.size, 0, none⟩) F.length F.length, .int .i64 0, .string ⟨#[]⟩, .string ⟨#[]⟩] 45)) (LyO B b D ov last goal [delS F] (w1.alloc (.cells #[.int .i64 6, .string ⟨#[]⟩, .slice none 0 0, .slice none 0 0, .string ⟨#[]⟩, .slice none 0 0, .slice (some ⟨U.heap.size, 0, none⟩) F.length F.length, .int .i64 0, .string ⟨#[]⟩, .string ⟨#[]⟩] 45)))) := HL.out w1 _ HB1.out hr1
  clear hr1 hb1 HDc HL
  go_wp2_with fail
  refine hK.out _ _ ⟨trivial, fun _ => trivial⟩ ?_
  clear hK K
  try simp only [Act.put, List.setIfInBounds_toArray, List.set_cons_zero, List.set_cons_succ]
  refine wpAnyT_takeB (i := 5) (oi := ⟨some 10, .build 45 #[(0, .const (.int .i64 6)), (5, (.tmp 9))], _, _, _, _⟩) (v := ?vb5) rfl (by kernel_rfl) (by kernel_rfl) (by kernel_rfl) (by kernel_rfl) (fun _ _ _ h => h) (Or.inl ⟨by rfl, ?hyb5⟩) (by assumption) ?restb5
  case hyb5 => (intro w hSw; (try dsimp only at hSw); go_simp; try (with_reducible rfl))
  try simp only [Act.put, List.setIfInBounds_toArray, List.set_cons_zero, List.set_cons_succ]
  refine wpAnyT_one (i := 6) (o := ⟨some 11, .buildSlice 22 1 #[(0, (.tmp 10))], _, _, _, _⟩) (by kernel_rfl) rfl (fun K hK => ?_)
  go_simp
  obtain ⟨X, hX⟩ : ∃ X, w1.alloc (.cells #[.int .i64 6, .string ⟨#[]⟩, .slice none 0 0, .slice none 0 0, .string ⟨#[]⟩, .slice none 0 0, .slice (some ⟨U.heap.size, 0, none⟩) F.length F.length, .int .i64 0, .string ⟨#[]⟩, .string ⟨#[]⟩] 45) = X := ⟨_, rfl⟩
  have HBX : Hid (Kw B w X) := Kw.of_below (by rw [← hX]; exact HB1.out.alloc HB1.out.size _) hBw
  rw [hX] at HL1
  rw [hX]
  clear hX
  refine hK.out _ _ ⟨trivial, fun _ => trivial⟩ ?_
  clear hK K
  try simp only [Act.put, List.setIfInBounds_toArray, List.set_cons_zero, List.set_cons_succ]
  refine wpAnyT_one (i := 7) (o := ⟨some 12, .call { callee := .value (.func 51), args := #[(.tmp 7), (.tmp 11)], argTypes := #[73, 22] }, _, _, _, _⟩) (by kernel_rfl) rfl (fun K hK => ?_)
  go_simp
  refine calls_at HL1.out (by with_reducible rfl) (by with_reducible rfl) ?_
  rintro e w2 ⟨r, D', rfl, k1, k2, k3⟩
  have HE : Hid (LyO B b D ov last goal [delS F] w (.returned (.int .i64 r)) w2) := ⟨r, D', rfl, HBX.out.trans k1, k2, k3⟩
  clear k1 k2 k3 HL1
  go_wp2_with fail
  refine hK.out _ _ ⟨trivial, fun _ => trivial⟩ ?_
  clear hK K
  try simp only [Act.put, List.setIfInBounds_toArray, List.set_cons_zero, List.set_cons_succ]
  refine wpAnyT_takeB (i := 8) (oi := ⟨some 4, .assign (.tmp 12), _, _, _, _⟩) (v := ?vc8) rfl (by kernel_rfl) (by kernel_rfl) (by kernel_rfl) (by kernel_rfl) (fun _ _ _ h => h) (Or.inl ⟨by rfl, ?hyc8⟩) (by assumption) ?restc8
  case hyc8 => (intro w hSw; (try dsimp only at hSw); go_simp; try (with_reducible rfl))
  try simp only [Act.put, List.setIfInBounds_toArray, List.set_cons_zero, List.set_cons_succ]
  refine wpAnyT_done (by kernel_rfl) ?_ _
  go_wp2_with fail
  go_ret
  exact HE.out

def rupS (P : List PcL) (deg : List UInt8) (F : List Int) : SL := { SL.zero with k := 4, pcs := P, deg := deg, ids := F.map Lib.itoa }
set_option maxRecDepth 10000 in
set_option maxHeartbeats 2000000 in
theorem wrup_any {B b : Nat} {D : List SL} {ov goal : Bool} {last : Int} (P : List PcL) (deg : List UInt8) (vp : Value) (F : List Int) (v : Value) (w : World) (h : LgD B b D ov last goal w) (hP : RdAt w vp P.length (pcsC P)) (hR : RdAt w v F.length (F.map (.int .i64))) (hI : ∀ x ∈ F, -9223372036854775808 ≤ x ∧ x ≤ 9223372036854775807) (hl : F.length ≤ 1000000) (hf : Fit D [rupS P deg F]) (h0 : 0 ≤ last) (h1 : last ≤ 2000000000000000000) (hg : Gl w) (h12 : 12 ≤ B) : Calls Tryz.prog 23 #[.pointer (some ⟨b, 0, none⟩), .agg #[vp, .string (txtOf deg)], v] w (NuO B b D ov last goal (rupS P deg F) w) := by
  have hBw : B ≤ w.heap.size := Nat.le_of_lt (Nat.lt_of_le_of_lt h.at_.1 h.at_.lt)
  have hn : ∀ (W : World) (xs : List Value), RdAt W (.slice none 0 0) 0 xs := fun W xs => ⟨none, 0, rfl, by omega, fun h => absurd h (Nat.lt_irrefl _)⟩
  obtain ⟨a, c, rfl, _, _⟩ := id hR
  obtain ⟨pa, pc, rfl, _, _⟩ := id hP
  have hmf : ∀ (fn : Fn) (first cap : Array Value) (w : World), (Instr.makeFunc fn first cap).run Tryz.prog w = .ok (.func fn first cap) w := fun _ _ _ _ => rfl
  obtain ⟨V, hV⟩ : ∃ V, w.alloc (.cells #[.slice pa P.length pc, .string (txtOf deg)] 41) = V := ⟨_, rfl⟩
  have hbV : Below w.heap.size w V := by rw [← hV]; exact (Below.refl _ _).alloc (Nat.le_refl _) _
  have gV : V.heap[w.heap.size]? = some (.cells #[.slice pa P.length pc, .string (txtOf deg)] 41 (0, 0)) := by rw [← hV]; exact heap_alloc_new w _
  have hd : Below w.heap.size w V.drew := hbV.drew
  have hdl : (F.map Lib.itoa).length = F.length := by simp
  have HC : Hid (∀ w', Below V.drew.heap.size V.drew w' → w'.cell? ⟨w.heap.size, 0, none⟩ = some (.slice pa P.length pc) ∧ w'.cell? ⟨w.heap.size, 1, none⟩ = some (.string (txtOf deg))) := fun w' hb => by
    have g := (hb.block w.heap.size (show w.heap.size < V.drew.heap.size from (Array.getElem?_eq_some_iff.1 gV).1)).trans (show V.drew.heap[w.heap.size]? = _ from gV)
    exact ⟨cell_of g 0, cell_of g 1⟩
  have HDc : Hid (Calls Tryz.prog 54 #[.slice a F.length c] V.drew fun e w' => e = .returned (.slice (some ⟨V.drew.heap.size, 0, none⟩) F.length F.length) ∧ RdAt w' (.slice (some ⟨V.drew.heap.size, 0, none⟩) F.length F.length) F.length ((F.map Lib.itoa).map fun x => .string (txtOf x)) ∧ Below V.drew.heap.size V.drew w') := dec_any F _ V.drew (hR.below hd) hI hl (hg.next hd) (Nat.le_trans h12 (Nat.le_trans hBw hd.size))
  have HN : Hid (∀ w' x, Below w.heap.size w w' → RdAt w' (.slice x F.length F.length) F.length ((F.map Lib.itoa).map fun x => .string (txtOf x)) → Calls Tryz.prog 53 #[.pointer (some ⟨b, 2, none⟩), .func (.func 51) #[.pointer (some ⟨b, 0, none⟩)] #[], .agg #[.int .i64 4, .string ⟨#[]⟩, .slice none 0 0, .slice pa P.length pc, .string (txtOf deg), .slice none 0 0, .slice x F.length F.length, .int .i64 0, .string ⟨#[]⟩, .string ⟨#[]⟩]] w' (NuO B b D ov last goal (rupS P deg F) w')) := fun w' x hb hr => num_log (rupS P deg F) _ _ _ _ w' (h.below hb) ⟨hn _ _, hP.below hb, hn _ _, by show RdAt w' _ (F.map Lib.itoa).length _; rw [hdl]; exact hr⟩ hf h0 h1 (hg.next hb) h12
  have HB : Hid (Below w.heap.size w V.drew) := hd
  have hdc := HC.out V.drew (Below.refl _ _)
  clear h hR hP hI hf hg hn hdl hd hbV gV
  go_enter Tryz.func23, Tryz.ntmps23
  go_wp2_with fail
  refine wp_region_T (fun _ => True) (fun w' => w'.cell? ⟨w.heap.size, 0, none⟩ = some (.slice pa P.length pc) ∧ w'.cell? ⟨w.heap.size, 1, none⟩ = some (.string (txtOf deg))) [10] (by kernel_rfl) ⟨trivial, hdc⟩ (fun hHeld => ?_)
  clear hV hdc
  generalize V.drew = U at hHeld HDc HB HC ⊢
  refine wpAnyT_takeB (i := 0) (oi := ⟨some 8, .move (.tmp 0), _, _, _, _⟩) (v := ?va0) rfl (by kernel_rfl) (by kernel_rfl) (by kernel_rfl) (by kernel_rfl) (fun _ _ _ h => h) (Or.inl ⟨by rfl, ?hya0⟩) (by assumption) ?resta0
  case hya0 => (intro w hSw; (try dsimp only at hSw); go_simp; try (with_reducible rfl))
  try simp only [Act.put, List.setIfInBounds_toArray, List.set_cons_zero, List.set_cons_succ]
  refine wpAnyT_takeB (i := 1) (oi := ⟨some 9, .nilCheck (.tmp 8), _, _, _, _⟩) (v := ?va1) rfl (by kernel_rfl) (by kernel_rfl) (by kernel_rfl) (by kernel_rfl) (fun _ _ _ h => h) (Or.inl ⟨by rfl, ?hya1⟩) (by assumption) ?resta1
  case hya1 => (intro w hSw; (try dsimp only at hSw); go_simp; try (with_reducible rfl))
  try simp only [Act.put, List.setIfInBounds_toArray, List.set_cons_zero, List.set_cons_succ]
  refine wpAnyT_takeB (i := 2) (oi := ⟨some 10, .fieldAddr 77 (.tmp 9) 1, _, _, _, _⟩) (v := ?va2) rfl (by kernel_rfl) (by kernel_rfl) (by kernel_rfl) (by kernel_rfl) (fun _ _ _ h => h) (Or.inl ⟨by rfl, ?hya2⟩) (by assumption) ?resta2
  case hya2 => (intro w hSw; (try dsimp only at hSw); go_simp; try (with_reducible rfl))
  try simp only [Act.put, List.setIfInBounds_toArray, List.set_cons_zero, List.set_cons_succ]
  refine wpAnyT_takeB (i := 3) (oi := ⟨some 11, .move (.tmp 0), _, _, _, _⟩) (v := ?va3) rfl (by kernel_rfl) (by kernel_rfl) (by kernel_rfl) (by kernel_rfl) (fun _ _ _ h => h) (Or.inl ⟨by rfl, ?hya3⟩) (by assumption) ?resta3
  case hya3 => (intro w hSw; (try dsimp only at hSw); go_simp; try (with_reducible rfl))
  try simp only [Act.put, List.setIfInBounds_toArray, List.set_cons_zero, List.set_cons_succ]
  refine wpAnyT_takeB (i := 4) (oi := ⟨some 12, .nilCheck (.tmp 11), _, _, _, _⟩) (v := ?va4) rfl (by kernel_rfl) (by kernel_rfl) (by kernel_rfl) (by kernel_rfl) (fun _ _ _ h => h) (Or.inl ⟨by rfl, ?hya4⟩) (by assumption) ?resta4
  case hya4 => (intro w hSw; (try dsimp only at hSw); go_simp; try (with_reducible rfl))
  try simp only [Act.put, List.setIfInBounds_toArray, List.set_cons_zero, List.set_cons_succ]
  refine wpAnyT_takeB (i := 5) (oi := ⟨some 13, .fieldAddr 77 (.tmp 12) 0, _, _, _, _⟩) (v := ?va5) rfl (by kernel_rfl) (by kernel_rfl) (by kernel_rfl) (by kernel_rfl) (fun _ _ _ h => h) (Or.inl ⟨by rfl, ?hya5⟩) (by assumption) ?resta5
  case hya5 => (intro w hSw; (try dsimp only at hSw); go_simp; try (with_reducible rfl))
  try simp only [Act.put, List.setIfInBounds_toArray, List.set_cons_zero, List.set_cons_succ]
  refine wpAnyT_takeB (i := 6) (oi := ⟨some 14, .makeFunc (.func 51) #[(.tmp 13)] #[], _, _, _, _⟩) (v := ?va6) rfl (by kernel_rfl) (by kernel_rfl) (by kernel_rfl) (by kernel_rfl) (fun _ _ _ h => h) (Or.inl ⟨by rfl, ?hya6⟩) (by assumption) ?resta6
  case hya6 => (intro w hSw; (try dsimp only at hSw); go_simp; try (with_reducible rfl))
  try simp only [Act.put, List.setIfInBounds_toArray, List.set_cons_zero, List.set_cons_succ]
  refine wpAnyT_take (i := 7) (oi := ⟨some 15, .load 41 (.tmp 4), _, _, _, _⟩) (v := ?va7) rfl (by kernel_rfl) (by kernel_rfl) (by kernel_rfl) (by kernel_rfl) (by kernel_rfl) (fun _ _ _ h => h) (Or.inl ⟨by rfl, ?hya7⟩) (by assumption) ?resta7
  case hya7 => (intro w hSw; (try dsimp only at hSw); obtain ⟨_, ⟨s0, s1⟩⟩ := hSw; go_simp; try (with_reducible rfl))
  try simp only [Act.put, List.setIfInBounds_toArray, List.set_cons_zero, List.set_cons_succ]
  refine wpAnyT_takeB (i := 8) (oi := ⟨some 16, .move (.tmp 2), _, _, _, _⟩) (v := ?va8) rfl (by kernel_rfl) (by kernel_rfl) (by kernel_rfl) (by kernel_rfl) (fun _ _ _ h => h) (Or.inl ⟨by rfl, ?hya8⟩) (by assumption) ?resta8
  case hya8 => (intro w hSw; (try dsimp only at hSw); go_simp; try (with_reducible rfl))
  try simp only [Act.put, List.setIfInBounds_toArray, List.set_cons_zero, List.set_cons_succ]
  refine wpAnyT_one (i := 9) (o := ⟨some 17, .call { callee := .value (.func 54), args := #[(.tmp 16)], argTypes := #[42] }, _, _, _, _⟩) (by kernel_rfl) rfl (fun K hK => ?_)
  go_simp
  refine calls_at HDc.out (by with_reducible rfl) (by with_reducible rfl) ?_
  rintro e w1 ⟨rfl, hr1, hb1⟩
  have HB1 : Hid (Below w.heap.size w w1) := bl_next HB.out hb1
  have HN1 : Hid (Calls Tryz.prog 53 #[.pointer (some ⟨b, 2, none⟩), .func (.func 51) #[.pointer (some ⟨b, 0, none⟩)] #[], .agg #[.int .i64 4, .string ⟨#[]⟩, .slice none 0 0, .slice pa P.length pc, .string (txtOf deg), .slice none 0 0, .slice (some ⟨U.heap.size, 0, none⟩) F.length F.length, .int .i64 0, .string ⟨#[]⟩, .string ⟨#[]⟩]] w1 (NuO B b D ov last goal (rupS P deg F) w1)) := HN.out w1 _ HB1.out hr1
  have hc1 := HC.out w1 hb1
  clear hr1 hb1 HDc HN
  go_wp2_with fail
  refine hK.out _ _ ⟨trivial, fun _ => hc1⟩ ?_
  clear hK K
  try simp only [Act.put, List.setIfInBounds_toArray, List.set_cons_zero, List.set_cons_succ]
  refine wpAnyT_late (i := 10) (o := ⟨some 18, .build 45 #[(0, .const (.int .i64 4)), (3, (.tmp 15)), (5, (.tmp 17))], _, _, _, _⟩) (by kernel_rfl) rfl (by kernel_rfl) (fun K hK => ?_)
  go_simp
  refine hK.out _ _ trivial ?_
  clear hK K
  try simp only [Act.put, List.setIfInBounds_toArray, List.set_cons_zero, List.set_cons_succ]
  refine wpAnyT_late (i := 11) (o := ⟨some 19, .call { callee := .value (.func 53), args := #[(.tmp 10), (.tmp 14), (.tmp 18)], argTypes := #[75, 113, 45] }, _, _, _, _⟩) (by kernel_rfl) rfl (by kernel_rfl) (fun K hK => ?_)
  go_simp
  refine calls_at HN1.out (by with_reducible rfl) (by with_reducible rfl) ?_
  rintro e w2 ⟨n, r, D', last', rfl, k1, k2, k3⟩
  have HE : Hid (NuO B b D ov last goal (rupS P deg F) w (.returned (.tuple #[.int .i64 n, .int .i64 r])) w2) := ⟨n, r, D', last', rfl, (Kw.of_below HB1.out hBw).trans k1, k2, k3⟩
  clear k1 k2 k3 HN1
  go_wp2_with fail
  refine hK.out _ _ trivial ?_
  clear hK K
  try simp only [Act.put, List.setIfInBounds_toArray, List.set_cons_zero, List.set_cons_succ]
  refine wpAnyT_takeL (i := 12) (oi := ⟨some 20, .extract (.tmp 19) 0, _, _, _, _⟩) (v := ?vb12) rfl (by kernel_rfl) (by kernel_rfl) (by kernel_rfl) (by kernel_rfl) (by kernel_rfl) (fun _ _ _ h => h) (Or.inl ⟨by rfl, ?hyb12⟩) trivial ?restb12
  case hyb12 => (intro w hSw; go_simp; try (with_reducible rfl))
  try simp only [Act.put, List.setIfInBounds_toArray, List.set_cons_zero, List.set_cons_succ]
  refine wpAnyT_takeL (i := 13) (oi := ⟨some 21, .extract (.tmp 19) 1, _, _, _, _⟩) (v := ?vb13) rfl (by kernel_rfl) (by kernel_rfl) (by kernel_rfl) (by kernel_rfl) (by kernel_rfl) (fun _ _ _ h => h) (Or.inl ⟨by rfl, ?hyb13⟩) trivial ?restb13
  case hyb13 => (intro w hSw; go_simp; try (with_reducible rfl))
  try simp only [Act.put, List.setIfInBounds_toArray, List.set_cons_zero, List.set_cons_succ]
  refine wpAnyT_takeL (i := 14) (oi := ⟨some 6, .assign (.tmp 20), _, _, _, _⟩) (v := ?vb14) rfl (by kernel_rfl) (by kernel_rfl) (by kernel_rfl) (by kernel_rfl) (by kernel_rfl) (fun _ _ _ h => h) (Or.inl ⟨by rfl, ?hyb14⟩) trivial ?restb14
  case hyb14 => (intro w hSw; go_simp; try (with_reducible rfl))
  try simp only [Act.put, List.setIfInBounds_toArray, List.set_cons_zero, List.set_cons_succ]
  refine wpAnyT_takeL (i := 15) (oi := ⟨some 7, .assign (.tmp 21), _, _, _, _⟩) (v := ?vb15) rfl (by kernel_rfl) (by kernel_rfl) (by kernel_rfl) (by kernel_rfl) (by kernel_rfl) (fun _ _ _ h => h) (Or.inl ⟨by rfl, ?hyb15⟩) trivial ?restb15
  case hyb15 => (intro w hSw; go_simp; try (with_reducible rfl))
  try simp only [Act.put, List.setIfInBounds_toArray, List.set_cons_zero, List.set_cons_succ]
  refine wpAnyT_done (by kernel_rfl) ?_ _
  go_wp2_with fail
  go_ret2
  exact HE.out
end Go.Proofs.YtibbnijicdijnaaGreatDoor
