/-
  Package write: a conclusion.
-/
import Derived.Test.YtibbnijicdijnaaGreatDoorPwSame
namespace Go.Proofs.YtibbnijicdijnaaGreatDoor
open Go.RowKit

def conS (k id lo hi : Int) : SL := { SL.zero with k := 9, ends := k, low := if k = 5 then Lib.itoa lo else givT lo, high := if k = 5 ∨ k = 6 then Lib.itoa hi else givT hi, ids := if id = 0 then [] else [Lib.itoa id] }
def I4 (n : Int) : Prop := -9223372036854775808 ≤ n ∧ n ≤ 9223372036854775807
/-- How a conclusion is made. -/
def CoO (k id lo hi : Int) (w : World) (e : Ending) (w' : World) : Prop := ∃ vi, e = .returned (.agg (slC (conS k id lo hi) (.slice none 0 0) (.slice none 0 0) (.slice none 0 0) vi)) ∧ RdAt w' vi (conS k id lo hi).ids.length ((conS k id lo hi).ids.map fun x => .string (txtOf x)) ∧ Below w.heap.size w w'
theorem rd_off {w w' : World} {g o n c : Nat} {xs : List Value} (h : RdAt w (.slice (some ⟨g, o, none⟩) n c) n xs) (e : w'.heap[g]? = w.heap[g]?) (hs : w.heap.size ≤ w'.heap.size) : RdAt w' (.slice (some ⟨g, o, none⟩) n c) n xs := by
  obtain ⟨a, c', e1, h2, h3⟩ := h
  obtain ⟨rfl, _, rfl⟩ : some (⟨g, o, none⟩ : Addr) = a ∧ n = n ∧ c = c' := by simpa using e1
  refine ⟨_, _, rfl, h2, fun h0 => ?_⟩
  obtain ⟨g', off, k1, k2, k3⟩ := h3 h0
  obtain ⟨rfl, rfl⟩ : g = g' ∧ o = off := by simpa using k1
  exact ⟨g, o, rfl, Nat.lt_of_lt_of_le k2 hs, fun j u hu => by have := k3 j u hu; simpa [World.cell?, e] using this⟩

set_option maxRecDepth 10000 in
set_option maxHeartbeats 4000000 in
theorem conc_any (k id lo hi : Int) (w : World) (h1 : I4 id) (h2 : I4 lo) (h3 : I4 hi) (hg : Gl w) (h12 : 12 ≤ w.heap.size) : Calls Tryz.prog 56 #[.int .i64 k, .int .i64 id, .int .i64 lo, .int .i64 hi] w (CoO k id lo hi w) := by
  obtain ⟨W, hW⟩ : ∃ W, w.alloc (.cells #[.int .i64 0, .string ⟨#[]⟩, .slice none 0 0, .slice none 0 0, .string ⟨#[]⟩, .slice none 0 0, .slice none 0 0, .int .i64 0, .string ⟨#[]⟩, .string ⟨#[]⟩] 45) = W := ⟨_, rfl⟩
  have hbW : Below w.heap.size w W := by rw [← hW]; exact (Below.refl _ _).alloc (Nat.le_refl _) _
  have gW : W.heap[w.heap.size]? = some (.cells #[.int .i64 0, .string ⟨#[]⟩, .slice none 0 0, .slice none 0 0, .string ⟨#[]⟩, .slice none 0 0, .slice none 0 0, .int .i64 0, .string ⟨#[]⟩, .string ⟨#[]⟩] 45 (0, 0)) := by rw [← hW]; exact heap_alloc_new w _
  have HW : Hid (W.heap[w.heap.size]? = some (.cells #[.int .i64 0, .string ⟨#[]⟩, .slice none 0 0, .slice none 0 0, .string ⟨#[]⟩, .slice none 0 0, .slice none 0 0, .int .i64 0, .string ⟨#[]⟩, .string ⟨#[]⟩] 45 (0, 0))) := gW
  have HBW : Hid (Below w.heap.size w W) := hbW
  have HG : Hid (∀ w', Below w.heap.size w w' → Gl w' ∧ 12 ≤ w'.heap.size) := fun w' hb => ⟨hg.to hb h12, Nat.le_trans h12 hb.size⟩
  have HGv : Hid (∀ n, I4 n → ∀ w', Below w.heap.size w w' → Calls Tryz.prog 78 #[.int .i64 n] w' fun e w2 => e = .returned (.string (txtOf (givT n))) ∧ Below w'.heap.size w' w2) := fun n hn w' hb => given_any n w' hn (HG.out w' hb).1
  have HIt : Hid (∀ n, I4 n → ∀ w', Below w.heap.size w w' → Calls Tryz.prog 52 #[.int .i64 n] w' fun e w2 => e = .returned (.string (txtOf (Lib.itoa n))) ∧ Below w'.heap.size w' w2) := fun n hn w' hb => itoa_any n w' hn.1 hn.2 (HG.out w' hb).1
  have HDc : Hid (∀ w', Below w.heap.size w w' → Calls Tryz.prog 54 #[.slice (some ⟨w'.heap.size, 0, none⟩) 1 1] (w'.alloc (.cells #[.int .i64 id] 3)) fun e w2 => e = .returned (.slice (some ⟨w'.heap.size + 1, 0, none⟩) 1 1) ∧ RdAt w2 (.slice (some ⟨w'.heap.size + 1, 0, none⟩) 1 1) 1 ([Lib.itoa id].map fun x => .string (txtOf x)) ∧ Below (w'.heap.size + 1) (w'.alloc (.cells #[.int .i64 id] 3)) w2) := fun w' hb => by
    have h := dec_any [id] _ _ (int_one w' id) (fun x hx => by have e : x = id := by simpa using hx
                                                               rw [e]; exact h1) (by simp) (HG.out _ (hb.alloc hb.size _)).1 (HG.out _ (hb.alloc hb.size _)).2
    have e : (w'.alloc (.cells #[.int .i64 id] 3)).heap.size = w'.heap.size + 1 := by simp
    rw [e] at h
    exact h
  have Hi : Hid (I4 lo ∧ I4 hi) := ⟨h2, h3⟩
  clear h1 h2 h3 hg h12 gW hbW
  go_enter Tryz.func56, Tryz.ntmps56
  go_wp2_with fail
  try rw [hW]
  refine calls_at (HGv.out lo Hi.out.1 W HBW.out) (by with_reducible rfl) (by with_reducible rfl) ?_
  rintro e w1 ⟨rfl, hb1⟩
  have HB1 : Hid (Below W.heap.size W w1) := hb1
  clear hb1 hW
  go_wp2_with fail
  refine calls_at (HGv.out hi Hi.out.2 w1 (bl_next HBW.out HB1.out)) (by with_reducible rfl) (by with_reducible rfl) ?_
  rintro e w2 ⟨rfl, hb2⟩
  have HB2 : Hid (Below W.heap.size W w2) := bl_next HB1.out hb2
  clear hb2
  obtain ⟨V, hV⟩ : ∃ V, w2.alloc (.cells #[.int .i64 9, .string ⟨#[]⟩, .slice none 0 0, .slice none 0 0, .string ⟨#[]⟩, .slice none 0 0, .slice none 0 0, .int .i64 k, .string (txtOf (givT lo)), .string (txtOf (givT hi))] 45) = V := ⟨_, rfl⟩
  have hbV : Below w2.heap.size w2 V := by rw [← hV]; exact (Below.refl _ _).alloc (Nat.le_refl _) _
  have HgV : Hid (V.heap[w2.heap.size]? = some (.cells #[.int .i64 9, .string ⟨#[]⟩, .slice none 0 0, .slice none 0 0, .string ⟨#[]⟩, .slice none 0 0, .slice none 0 0, .int .i64 k, .string (txtOf (givT lo)), .string (txtOf (givT hi))] 45 (0, 0))) := by rw [← hV]; exact heap_alloc_new w2 _
  have HBV : Hid (Below w.heap.size w V) := bl_next (bl_next HBW.out HB2.out) hbV
  have hp0 : w.heap.size < W.heap.size := (Array.getElem?_eq_some_iff.1 HW.out).1
  have hp2 : W.heap.size ≤ w2.heap.size := HB2.out.size
  have HgW : Hid (V.heap[w.heap.size]? = some (.cells #[.int .i64 0, .string ⟨#[]⟩, .slice none 0 0, .slice none 0 0, .string ⟨#[]⟩, .slice none 0 0, .slice none 0 0, .int .i64 0, .string ⟨#[]⟩, .string ⟨#[]⟩] 45 (0, 0))) := (hbV.block _ (by omega)).trans ((HB2.out.block _ hp0).trans HW.out)
  clear hbV HGv
  have hlt : w.heap.size < w2.heap.size := by omega
  have HVs : Hid (V.heap.size = w2.heap.size + 1) := by rw [← hV]; show _ = _; simp
  have hpA0 : w.heap.size < V.heap.size := by have := HVs.out; omega
  have hpB0 : w2.heap.size < V.heap.size := by have := HVs.out; omega
  clear HB1 HB2 HW HBW hp0 hp2
  by_cases hid : id = 0
  · have hidB : (id != 0) = false := by rw [hid]; rfl
    have HId : Hid ((id = 0) = True) := eq_true hid
    have HBx : Hid (Below w.heap.size w V) := HBV.out
    have HgB : Hid (V.heap[w2.heap.size]? = some (.cells #[.int .i64 9, .string ⟨#[]⟩, .slice none 0 0, .slice none 0 0, .string ⟨#[]⟩, .slice none 0 0, .slice none 0 0, .int .i64 k, .string (txtOf (givT lo)), .string (txtOf (givT hi))] 45 (0, 0))) := HgV.out
    have HgA : Hid (V.heap[w.heap.size]? = some (.cells #[.int .i64 0, .string ⟨#[]⟩, .slice none 0 0, .slice none 0 0, .string ⟨#[]⟩, .slice none 0 0, .slice none 0 0, .int .i64 0, .string ⟨#[]⟩, .string ⟨#[]⟩] 45 (0, 0))) := HgW.out
    have hpA := hpA0
    have hpB := hpB0
    clear hid HDc HgV HgW hpA0 hpB0 HVs
    by_cases hk5 : k = 5
    · have hkB : (k == 5) = true := by rw [hk5]; rfl
      have HK : Hid ((k = 5) = True) := by rw [hk5]; exact eq_self _
      clear hk5
      go_wp2_with fail
      refine calls_at (HIt.out lo Hi.out.1 V HBx.out) (by with_reducible rfl) (by with_reducible rfl) ?_
      rintro e wa ⟨rfl, hba⟩
      have HBa : Hid (Below V.heap.size V wa) := hba
      clear hba
      go_wp2_with fail
      refine calls_at (HIt.out hi Hi.out.2 wa (bl_next HBx.out HBa.out)) (by with_reducible rfl) (by with_reducible rfl) ?_
      rintro e wb ⟨rfl, hbb⟩
      have HBb : Hid (Below V.heap.size V wb) := bl_next HBa.out hbb
      clear hbb
      have gB2 := (HBb.out.block w2.heap.size hpB).trans HgB.out
      have gA2 := (HBb.out.block w.heap.size hpA).trans HgA.out
      have y8 : wb.cell? ⟨w2.heap.size, 8, none⟩ = some (.string (txtOf (givT lo))) := cell_of gB2 8
      have y9 : wb.cell? ⟨w2.heap.size, 9, none⟩ = some (.string (txtOf (givT hi))) := cell_of gB2 9
      have yz := frozen_of gB2
      obtain ⟨C, hC⟩ : ∃ C, (wb.setCell ⟨w2.heap.size, 8, none⟩ (.string (txtOf (Lib.itoa lo)))).setCell ⟨w2.heap.size, 9, none⟩ (.string (txtOf (Lib.itoa hi))) = C := ⟨_, rfl⟩
      have HgC : Hid (C.heap[w2.heap.size]? = some (.cells #[.int .i64 9, .string ⟨#[]⟩, .slice none 0 0, .slice none 0 0, .string ⟨#[]⟩, .slice none 0 0, .slice none 0 0, .int .i64 k, .string (txtOf (Lib.itoa lo)), .string (txtOf (Lib.itoa hi))] 45 (0, 0))) := by rw [← hC]; exact set_of (set_of gB2 8 _) 9 _
      have HgD : Hid (C.heap[w.heap.size]? = some (.cells #[.int .i64 0, .string ⟨#[]⟩, .slice none 0 0, .slice none 0 0, .string ⟨#[]⟩, .slice none 0 0, .slice none 0 0, .int .i64 0, .string ⟨#[]⟩, .string ⟨#[]⟩] 45 (0, 0))) := by rw [← hC]; exact (heap_setCell_other _ _ _ _ (by show w.heap.size ≠ w2.heap.size; omega)).trans ((heap_setCell_other _ _ _ _ (by show w.heap.size ≠ w2.heap.size; omega)).trans gA2)
      have HBC : Hid (Below w.heap.size w C) := by rw [← hC]; exact ((bl_next HBx.out HBb.out).setCell (by show w.heap.size ≤ w2.heap.size; omega) _).setCell (by show w.heap.size ≤ w2.heap.size; omega) _
      have HOff : Hid (∀ g, g ≠ w2.heap.size → g < V.heap.size → C.heap[g]? = V.heap[g]?) := fun g hg hl => by rw [← hC]; exact (heap_setCell_other _ _ _ _ hg).trans ((heap_setCell_other _ _ _ _ hg).trans (HBb.out.block g hl))
      have HSzC : Hid (V.heap.size ≤ C.heap.size) := by rw [← hC]; exact Nat.le_trans HBb.out.size (by simp)
      clear gB2 gA2
      have c0 : C.cell? ⟨w2.heap.size, 0, none⟩ = some (.int .i64 9) := cell_of HgC.out 0
      have c1 : C.cell? ⟨w2.heap.size, 1, none⟩ = some (.string ⟨#[]⟩) := cell_of HgC.out 1
      have c2 : C.cell? ⟨w2.heap.size, 2, none⟩ = some (.slice none 0 0) := cell_of HgC.out 2
      have c3 : C.cell? ⟨w2.heap.size, 3, none⟩ = some (.slice none 0 0) := cell_of HgC.out 3
      have c4 : C.cell? ⟨w2.heap.size, 4, none⟩ = some (.string ⟨#[]⟩) := cell_of HgC.out 4
      have c5 : C.cell? ⟨w2.heap.size, 5, none⟩ = some (.slice none 0 0) := cell_of HgC.out 5
      have c6 : C.cell? ⟨w2.heap.size, 6, none⟩ = some (.slice none 0 0) := cell_of HgC.out 6
      have c7 : C.cell? ⟨w2.heap.size, 7, none⟩ = some (.int .i64 k) := cell_of HgC.out 7
      have c8 : C.cell? ⟨w2.heap.size, 8, none⟩ = some (.string (txtOf (Lib.itoa lo))) := cell_of HgC.out 8
      have c9 : C.cell? ⟨w2.heap.size, 9, none⟩ = some (.string (txtOf (Lib.itoa hi))) := cell_of HgC.out 9
      have s0 : C.cell? ⟨w.heap.size, 0, none⟩ = some (.int .i64 0) := cell_of HgD.out 0
      have s1 : C.cell? ⟨w.heap.size, 1, none⟩ = some (.string ⟨#[]⟩) := cell_of HgD.out 1
      have s2 : C.cell? ⟨w.heap.size, 2, none⟩ = some (.slice none 0 0) := cell_of HgD.out 2
      have s3 : C.cell? ⟨w.heap.size, 3, none⟩ = some (.slice none 0 0) := cell_of HgD.out 3
      have s4 : C.cell? ⟨w.heap.size, 4, none⟩ = some (.string ⟨#[]⟩) := cell_of HgD.out 4
      have s5 : C.cell? ⟨w.heap.size, 5, none⟩ = some (.slice none 0 0) := cell_of HgD.out 5
      have s6 : C.cell? ⟨w.heap.size, 6, none⟩ = some (.slice none 0 0) := cell_of HgD.out 6
      have s7 : C.cell? ⟨w.heap.size, 7, none⟩ = some (.int .i64 0) := cell_of HgD.out 7
      have s8 : C.cell? ⟨w.heap.size, 8, none⟩ = some (.string ⟨#[]⟩) := cell_of HgD.out 8
      have s9 : C.cell? ⟨w.heap.size, 9, none⟩ = some (.string ⟨#[]⟩) := cell_of HgD.out 9
      have zz := frozen_of HgD.out
      go_wp2_with fail
      have hE := (set10 (w := C) (q := w.heap.size) (cs := #[.int .i64 0, .string ⟨#[]⟩, .slice none 0 0, .slice none 0 0, .string ⟨#[]⟩, .slice none 0 0, .slice none 0 0, .int .i64 0, .string ⟨#[]⟩, .string ⟨#[]⟩]) ⟨HgD.out, rfl⟩ (.int .i64 9) (.string ⟨#[]⟩) (.slice none 0 0) (.slice none 0 0) (.string ⟨#[]⟩) (.slice none 0 0) (.slice none 0 0) (.int .i64 k) (.string (txtOf (Lib.itoa lo))) (.string (txtOf (Lib.itoa hi)))).o
      have hL := bl10 HBC.out (Nat.le_refl _) (.int .i64 9) (.string ⟨#[]⟩) (.slice none 0 0) (.slice none 0 0) (.string ⟨#[]⟩) (.slice none 0 0) (.slice none 0 0) (.int .i64 k) (.string (txtOf (Lib.itoa lo))) (.string (txtOf (Lib.itoa hi)))
      have hRd : RdAt ((((((((((C.setCell ⟨w.heap.size, 0, none⟩ (.int .i64 9)).setCell ⟨w.heap.size, 1, none⟩ (.string ⟨#[]⟩)).setCell ⟨w.heap.size, 2, none⟩ (.slice none 0 0)).setCell ⟨w.heap.size, 3, none⟩ (.slice none 0 0)).setCell ⟨w.heap.size, 4, none⟩ (.string ⟨#[]⟩)).setCell ⟨w.heap.size, 5, none⟩ (.slice none 0 0)).setCell ⟨w.heap.size, 6, none⟩ (.slice none 0 0)).setCell ⟨w.heap.size, 7, none⟩ (.int .i64 k)).setCell ⟨w.heap.size, 8, none⟩ (.string (txtOf (Lib.itoa lo)))).setCell ⟨w.heap.size, 9, none⟩ (.string (txtOf (Lib.itoa hi)))) (.slice none 0 0) 0 ([]) := ⟨none, 0, rfl, by omega, fun h => absurd h (Nat.lt_irrefl _)⟩
      obtain ⟨Z, hZ⟩ : ∃ Z, ((((((((((C.setCell ⟨w.heap.size, 0, none⟩ (.int .i64 9)).setCell ⟨w.heap.size, 1, none⟩ (.string ⟨#[]⟩)).setCell ⟨w.heap.size, 2, none⟩ (.slice none 0 0)).setCell ⟨w.heap.size, 3, none⟩ (.slice none 0 0)).setCell ⟨w.heap.size, 4, none⟩ (.string ⟨#[]⟩)).setCell ⟨w.heap.size, 5, none⟩ (.slice none 0 0)).setCell ⟨w.heap.size, 6, none⟩ (.slice none 0 0)).setCell ⟨w.heap.size, 7, none⟩ (.int .i64 k)).setCell ⟨w.heap.size, 8, none⟩ (.string (txtOf (Lib.itoa lo)))).setCell ⟨w.heap.size, 9, none⟩ (.string (txtOf (Lib.itoa hi)))) = Z := ⟨_, rfl⟩
      rw [hZ] at hE hL hRd
      rw [hZ]
      have eq : conS k id lo hi = ⟨9, [], [], [], [], [], [], k, Lib.itoa lo, Lib.itoa hi⟩ := by
        simp [conS, SL.zero, HK.out, HId.out]
      refine bodyPost_ret (results_cell_row rfl _ _ w.heap.size 45 _ (0, 0) _ rfl hE Tryz.underlying45 rfl info45) rfl ⟨.slice none 0 0, ?_, ?_, hL⟩
      · rw [eq]; rfl
      · rw [eq]; exact hRd
    · have hkB : (k == 5) = false := by simpa using hk5
      by_cases hk6 : k = 6
      · have hkC : (k == 6) = true := by rw [hk6]; rfl
        have HK : Hid ((k = 5) = False ∧ (k = 6) = True) := ⟨eq_false hk5, eq_true hk6⟩
        clear hk5 hk6
        go_wp2_with fail
        refine calls_at (HIt.out hi Hi.out.2 V HBx.out) (by with_reducible rfl) (by with_reducible rfl) ?_
        rintro e wb ⟨rfl, hbb⟩
        have HBb : Hid (Below V.heap.size V wb) := hbb
        clear hbb
        have gB2 := (HBb.out.block w2.heap.size hpB).trans HgB.out
        have gA2 := (HBb.out.block w.heap.size hpA).trans HgA.out
        have y9 : wb.cell? ⟨w2.heap.size, 9, none⟩ = some (.string (txtOf (givT hi))) := cell_of gB2 9
        have yz := frozen_of gB2
        obtain ⟨C, hC⟩ : ∃ C, wb.setCell ⟨w2.heap.size, 9, none⟩ (.string (txtOf (Lib.itoa hi))) = C := ⟨_, rfl⟩
        have HgC : Hid (C.heap[w2.heap.size]? = some (.cells #[.int .i64 9, .string ⟨#[]⟩, .slice none 0 0, .slice none 0 0, .string ⟨#[]⟩, .slice none 0 0, .slice none 0 0, .int .i64 k, .string (txtOf (givT lo)), .string (txtOf (Lib.itoa hi))] 45 (0, 0))) := by rw [← hC]; exact set_of gB2 9 _
        have HgD : Hid (C.heap[w.heap.size]? = some (.cells #[.int .i64 0, .string ⟨#[]⟩, .slice none 0 0, .slice none 0 0, .string ⟨#[]⟩, .slice none 0 0, .slice none 0 0, .int .i64 0, .string ⟨#[]⟩, .string ⟨#[]⟩] 45 (0, 0))) := by rw [← hC]; exact (heap_setCell_other _ _ _ _ (by show w.heap.size ≠ w2.heap.size; omega)).trans gA2
        have HBC : Hid (Below w.heap.size w C) := by rw [← hC]; exact (bl_next HBx.out HBb.out).setCell (by show w.heap.size ≤ w2.heap.size; omega) _
        have HOff : Hid (∀ g, g ≠ w2.heap.size → g < V.heap.size → C.heap[g]? = V.heap[g]?) := fun g hg hl => by rw [← hC]; exact (heap_setCell_other _ _ _ _ hg).trans (HBb.out.block g hl)
        have HSzC : Hid (V.heap.size ≤ C.heap.size) := by rw [← hC]; exact Nat.le_trans HBb.out.size (by simp)
        clear gB2 gA2
        have c0 : C.cell? ⟨w2.heap.size, 0, none⟩ = some (.int .i64 9) := cell_of HgC.out 0
        have c1 : C.cell? ⟨w2.heap.size, 1, none⟩ = some (.string ⟨#[]⟩) := cell_of HgC.out 1
        have c2 : C.cell? ⟨w2.heap.size, 2, none⟩ = some (.slice none 0 0) := cell_of HgC.out 2
        have c3 : C.cell? ⟨w2.heap.size, 3, none⟩ = some (.slice none 0 0) := cell_of HgC.out 3
        have c4 : C.cell? ⟨w2.heap.size, 4, none⟩ = some (.string ⟨#[]⟩) := cell_of HgC.out 4
        have c5 : C.cell? ⟨w2.heap.size, 5, none⟩ = some (.slice none 0 0) := cell_of HgC.out 5
        have c6 : C.cell? ⟨w2.heap.size, 6, none⟩ = some (.slice none 0 0) := cell_of HgC.out 6
        have c7 : C.cell? ⟨w2.heap.size, 7, none⟩ = some (.int .i64 k) := cell_of HgC.out 7
        have c8 : C.cell? ⟨w2.heap.size, 8, none⟩ = some (.string (txtOf (givT lo))) := cell_of HgC.out 8
        have c9 : C.cell? ⟨w2.heap.size, 9, none⟩ = some (.string (txtOf (Lib.itoa hi))) := cell_of HgC.out 9
        have s0 : C.cell? ⟨w.heap.size, 0, none⟩ = some (.int .i64 0) := cell_of HgD.out 0
        have s1 : C.cell? ⟨w.heap.size, 1, none⟩ = some (.string ⟨#[]⟩) := cell_of HgD.out 1
        have s2 : C.cell? ⟨w.heap.size, 2, none⟩ = some (.slice none 0 0) := cell_of HgD.out 2
        have s3 : C.cell? ⟨w.heap.size, 3, none⟩ = some (.slice none 0 0) := cell_of HgD.out 3
        have s4 : C.cell? ⟨w.heap.size, 4, none⟩ = some (.string ⟨#[]⟩) := cell_of HgD.out 4
        have s5 : C.cell? ⟨w.heap.size, 5, none⟩ = some (.slice none 0 0) := cell_of HgD.out 5
        have s6 : C.cell? ⟨w.heap.size, 6, none⟩ = some (.slice none 0 0) := cell_of HgD.out 6
        have s7 : C.cell? ⟨w.heap.size, 7, none⟩ = some (.int .i64 0) := cell_of HgD.out 7
        have s8 : C.cell? ⟨w.heap.size, 8, none⟩ = some (.string ⟨#[]⟩) := cell_of HgD.out 8
        have s9 : C.cell? ⟨w.heap.size, 9, none⟩ = some (.string ⟨#[]⟩) := cell_of HgD.out 9
        have zz := frozen_of HgD.out
        go_wp2_with fail
        have hE := (set10 (w := C) (q := w.heap.size) (cs := #[.int .i64 0, .string ⟨#[]⟩, .slice none 0 0, .slice none 0 0, .string ⟨#[]⟩, .slice none 0 0, .slice none 0 0, .int .i64 0, .string ⟨#[]⟩, .string ⟨#[]⟩]) ⟨HgD.out, rfl⟩ (.int .i64 9) (.string ⟨#[]⟩) (.slice none 0 0) (.slice none 0 0) (.string ⟨#[]⟩) (.slice none 0 0) (.slice none 0 0) (.int .i64 k) (.string (txtOf (givT lo))) (.string (txtOf (Lib.itoa hi)))).o
        have hL := bl10 HBC.out (Nat.le_refl _) (.int .i64 9) (.string ⟨#[]⟩) (.slice none 0 0) (.slice none 0 0) (.string ⟨#[]⟩) (.slice none 0 0) (.slice none 0 0) (.int .i64 k) (.string (txtOf (givT lo))) (.string (txtOf (Lib.itoa hi)))
        have hRd : RdAt ((((((((((C.setCell ⟨w.heap.size, 0, none⟩ (.int .i64 9)).setCell ⟨w.heap.size, 1, none⟩ (.string ⟨#[]⟩)).setCell ⟨w.heap.size, 2, none⟩ (.slice none 0 0)).setCell ⟨w.heap.size, 3, none⟩ (.slice none 0 0)).setCell ⟨w.heap.size, 4, none⟩ (.string ⟨#[]⟩)).setCell ⟨w.heap.size, 5, none⟩ (.slice none 0 0)).setCell ⟨w.heap.size, 6, none⟩ (.slice none 0 0)).setCell ⟨w.heap.size, 7, none⟩ (.int .i64 k)).setCell ⟨w.heap.size, 8, none⟩ (.string (txtOf (givT lo)))).setCell ⟨w.heap.size, 9, none⟩ (.string (txtOf (Lib.itoa hi)))) (.slice none 0 0) 0 ([]) := ⟨none, 0, rfl, by omega, fun h => absurd h (Nat.lt_irrefl _)⟩
        obtain ⟨Z, hZ⟩ : ∃ Z, ((((((((((C.setCell ⟨w.heap.size, 0, none⟩ (.int .i64 9)).setCell ⟨w.heap.size, 1, none⟩ (.string ⟨#[]⟩)).setCell ⟨w.heap.size, 2, none⟩ (.slice none 0 0)).setCell ⟨w.heap.size, 3, none⟩ (.slice none 0 0)).setCell ⟨w.heap.size, 4, none⟩ (.string ⟨#[]⟩)).setCell ⟨w.heap.size, 5, none⟩ (.slice none 0 0)).setCell ⟨w.heap.size, 6, none⟩ (.slice none 0 0)).setCell ⟨w.heap.size, 7, none⟩ (.int .i64 k)).setCell ⟨w.heap.size, 8, none⟩ (.string (txtOf (givT lo)))).setCell ⟨w.heap.size, 9, none⟩ (.string (txtOf (Lib.itoa hi)))) = Z := ⟨_, rfl⟩
        rw [hZ] at hE hL hRd
        rw [hZ]
        have eq : conS k id lo hi = ⟨9, [], [], [], [], [], [], k, givT lo, Lib.itoa hi⟩ := by
          simp [conS, SL.zero, HK.out.1, HK.out.2, HId.out]
        refine bodyPost_ret (results_cell_row rfl _ _ w.heap.size 45 _ (0, 0) _ rfl hE Tryz.underlying45 rfl info45) rfl ⟨.slice none 0 0, ?_, ?_, hL⟩
        · rw [eq]; rfl
        · rw [eq]; exact hRd
      · have hkC : (k == 6) = false := by simpa using hk6
        have HK : Hid ((k = 5) = False ∧ (k = 6) = False) := ⟨eq_false hk5, eq_false hk6⟩
        have HgC : Hid (V.heap[w2.heap.size]? = some (.cells #[.int .i64 9, .string ⟨#[]⟩, .slice none 0 0, .slice none 0 0, .string ⟨#[]⟩, .slice none 0 0, .slice none 0 0, .int .i64 k, .string (txtOf (givT lo)), .string (txtOf (givT hi))] 45 (0, 0))) := HgB.out
        have HgD : Hid (V.heap[w.heap.size]? = some (.cells #[.int .i64 0, .string ⟨#[]⟩, .slice none 0 0, .slice none 0 0, .string ⟨#[]⟩, .slice none 0 0, .slice none 0 0, .int .i64 0, .string ⟨#[]⟩, .string ⟨#[]⟩] 45 (0, 0))) := HgA.out
        have HBC : Hid (Below w.heap.size w V) := HBx.out
        have HOff : Hid (∀ g, g ≠ w2.heap.size → g < V.heap.size → V.heap[g]? = V.heap[g]?) := fun g _ _ => rfl
        have HSzC : Hid (V.heap.size ≤ V.heap.size) := Nat.le_refl _
        clear hk5 hk6
        have c0 : V.cell? ⟨w2.heap.size, 0, none⟩ = some (.int .i64 9) := cell_of HgC.out 0
        have c1 : V.cell? ⟨w2.heap.size, 1, none⟩ = some (.string ⟨#[]⟩) := cell_of HgC.out 1
        have c2 : V.cell? ⟨w2.heap.size, 2, none⟩ = some (.slice none 0 0) := cell_of HgC.out 2
        have c3 : V.cell? ⟨w2.heap.size, 3, none⟩ = some (.slice none 0 0) := cell_of HgC.out 3
        have c4 : V.cell? ⟨w2.heap.size, 4, none⟩ = some (.string ⟨#[]⟩) := cell_of HgC.out 4
        have c5 : V.cell? ⟨w2.heap.size, 5, none⟩ = some (.slice none 0 0) := cell_of HgC.out 5
        have c6 : V.cell? ⟨w2.heap.size, 6, none⟩ = some (.slice none 0 0) := cell_of HgC.out 6
        have c7 : V.cell? ⟨w2.heap.size, 7, none⟩ = some (.int .i64 k) := cell_of HgC.out 7
        have c8 : V.cell? ⟨w2.heap.size, 8, none⟩ = some (.string (txtOf (givT lo))) := cell_of HgC.out 8
        have c9 : V.cell? ⟨w2.heap.size, 9, none⟩ = some (.string (txtOf (givT hi))) := cell_of HgC.out 9
        have s0 : V.cell? ⟨w.heap.size, 0, none⟩ = some (.int .i64 0) := cell_of HgD.out 0
        have s1 : V.cell? ⟨w.heap.size, 1, none⟩ = some (.string ⟨#[]⟩) := cell_of HgD.out 1
        have s2 : V.cell? ⟨w.heap.size, 2, none⟩ = some (.slice none 0 0) := cell_of HgD.out 2
        have s3 : V.cell? ⟨w.heap.size, 3, none⟩ = some (.slice none 0 0) := cell_of HgD.out 3
        have s4 : V.cell? ⟨w.heap.size, 4, none⟩ = some (.string ⟨#[]⟩) := cell_of HgD.out 4
        have s5 : V.cell? ⟨w.heap.size, 5, none⟩ = some (.slice none 0 0) := cell_of HgD.out 5
        have s6 : V.cell? ⟨w.heap.size, 6, none⟩ = some (.slice none 0 0) := cell_of HgD.out 6
        have s7 : V.cell? ⟨w.heap.size, 7, none⟩ = some (.int .i64 0) := cell_of HgD.out 7
        have s8 : V.cell? ⟨w.heap.size, 8, none⟩ = some (.string ⟨#[]⟩) := cell_of HgD.out 8
        have s9 : V.cell? ⟨w.heap.size, 9, none⟩ = some (.string ⟨#[]⟩) := cell_of HgD.out 9
        have zz := frozen_of HgD.out
        go_wp2_with fail
        have hE := (set10 (w := V) (q := w.heap.size) (cs := #[.int .i64 0, .string ⟨#[]⟩, .slice none 0 0, .slice none 0 0, .string ⟨#[]⟩, .slice none 0 0, .slice none 0 0, .int .i64 0, .string ⟨#[]⟩, .string ⟨#[]⟩]) ⟨HgD.out, rfl⟩ (.int .i64 9) (.string ⟨#[]⟩) (.slice none 0 0) (.slice none 0 0) (.string ⟨#[]⟩) (.slice none 0 0) (.slice none 0 0) (.int .i64 k) (.string (txtOf (givT lo))) (.string (txtOf (givT hi)))).o
        have hL := bl10 HBC.out (Nat.le_refl _) (.int .i64 9) (.string ⟨#[]⟩) (.slice none 0 0) (.slice none 0 0) (.string ⟨#[]⟩) (.slice none 0 0) (.slice none 0 0) (.int .i64 k) (.string (txtOf (givT lo))) (.string (txtOf (givT hi)))
        have hRd : RdAt ((((((((((V.setCell ⟨w.heap.size, 0, none⟩ (.int .i64 9)).setCell ⟨w.heap.size, 1, none⟩ (.string ⟨#[]⟩)).setCell ⟨w.heap.size, 2, none⟩ (.slice none 0 0)).setCell ⟨w.heap.size, 3, none⟩ (.slice none 0 0)).setCell ⟨w.heap.size, 4, none⟩ (.string ⟨#[]⟩)).setCell ⟨w.heap.size, 5, none⟩ (.slice none 0 0)).setCell ⟨w.heap.size, 6, none⟩ (.slice none 0 0)).setCell ⟨w.heap.size, 7, none⟩ (.int .i64 k)).setCell ⟨w.heap.size, 8, none⟩ (.string (txtOf (givT lo)))).setCell ⟨w.heap.size, 9, none⟩ (.string (txtOf (givT hi)))) (.slice none 0 0) 0 ([]) := ⟨none, 0, rfl, by omega, fun h => absurd h (Nat.lt_irrefl _)⟩
        obtain ⟨Z, hZ⟩ : ∃ Z, ((((((((((V.setCell ⟨w.heap.size, 0, none⟩ (.int .i64 9)).setCell ⟨w.heap.size, 1, none⟩ (.string ⟨#[]⟩)).setCell ⟨w.heap.size, 2, none⟩ (.slice none 0 0)).setCell ⟨w.heap.size, 3, none⟩ (.slice none 0 0)).setCell ⟨w.heap.size, 4, none⟩ (.string ⟨#[]⟩)).setCell ⟨w.heap.size, 5, none⟩ (.slice none 0 0)).setCell ⟨w.heap.size, 6, none⟩ (.slice none 0 0)).setCell ⟨w.heap.size, 7, none⟩ (.int .i64 k)).setCell ⟨w.heap.size, 8, none⟩ (.string (txtOf (givT lo)))).setCell ⟨w.heap.size, 9, none⟩ (.string (txtOf (givT hi)))) = Z := ⟨_, rfl⟩
        rw [hZ] at hE hL hRd
        rw [hZ]
        have eq : conS k id lo hi = ⟨9, [], [], [], [], [], [], k, givT lo, givT hi⟩ := by
          simp [conS, SL.zero, HK.out.1, HK.out.2, HId.out]
        refine bodyPost_ret (results_cell_row rfl _ _ w.heap.size 45 _ (0, 0) _ rfl hE Tryz.underlying45 rfl info45) rfl ⟨.slice none 0 0, ?_, ?_, hL⟩
        · rw [eq]; rfl
        · rw [eq]; exact hRd
  · have hidB : (id != 0) = true := by simpa using hid
    have HId : Hid ((id = 0) = False) := eq_false hid
    have HDv : Hid (Calls Tryz.prog 54 #[.slice (some ⟨V.heap.size, 0, none⟩) 1 1] (V.alloc (.cells #[.int .i64 id] 3)) fun e w2 => e = .returned (.slice (some ⟨V.heap.size + 1, 0, none⟩) 1 1) ∧ RdAt w2 (.slice (some ⟨V.heap.size + 1, 0, none⟩) 1 1) 1 ([Lib.itoa id].map fun x => .string (txtOf x)) ∧ Below (V.heap.size + 1) (V.alloc (.cells #[.int .i64 id] 3)) w2) := HDc.out V HBV.out
    clear hid HDc
    go_wp2_with fail
    try rw [hV]
    refine calls_at HDv.out (by with_reducible rfl) (by with_reducible rfl) ?_
    rintro e w3 ⟨rfl, hr3, hb3⟩
    have hB3 : Below V.heap.size V w3 := ((Below.refl V.heap.size V).alloc (Nat.le_refl _) _).trans (hb3.mono (by omega))
    have g1 := (hB3.block w2.heap.size hpB0).trans HgV.out
    have g0 := (hB3.block w.heap.size hpA0).trans HgW.out
    have y6 : w3.cell? ⟨w2.heap.size, 6, none⟩ = some (.slice none 0 0) := cell_of g1 6
    have y6z := frozen_of g1
    obtain ⟨T, hT⟩ : ∃ T, w3.setCell ⟨w2.heap.size, 6, none⟩ (.slice (some ⟨V.heap.size + 1, 0, none⟩) 1 1) = T := ⟨_, rfl⟩
    have HgB : Hid (T.heap[w2.heap.size]? = some (.cells #[.int .i64 9, .string ⟨#[]⟩, .slice none 0 0, .slice none 0 0, .string ⟨#[]⟩, .slice none 0 0, .slice (some ⟨V.heap.size + 1, 0, none⟩) 1 1, .int .i64 k, .string (txtOf (givT lo)), .string (txtOf (givT hi))] 45 (0, 0))) := by rw [← hT]; exact set_of g1 6 _
    have HgA : Hid (T.heap[w.heap.size]? = some (.cells #[.int .i64 0, .string ⟨#[]⟩, .slice none 0 0, .slice none 0 0, .string ⟨#[]⟩, .slice none 0 0, .slice none 0 0, .int .i64 0, .string ⟨#[]⟩, .string ⟨#[]⟩] 45 (0, 0))) := by rw [← hT]; exact (heap_setCell_other _ _ _ _ (by show w.heap.size ≠ w2.heap.size; omega)).trans g0
    have HBx : Hid (Below w.heap.size w T) := by rw [← hT]; exact (bl_next HBV.out hB3).setCell (by show w.heap.size ≤ w2.heap.size; omega) _
    have hgl0 : V.heap.size + 1 < w3.heap.size := by
      obtain ⟨_, _, e1, _, q3⟩ := hr3
      obtain ⟨g', o', q4, q5, _⟩ := q3 (by omega)
      obtain ⟨rfl, _, rfl⟩ := Value.slice.inj e1
      obtain ⟨rfl, _⟩ : V.heap.size + 1 = g' ∧ 0 = o' := by simpa using q4
      exact q5
    have hgl : V.heap.size + 1 < T.heap.size := by rw [← hT]; simpa using hgl0
    have hgp : V.heap.size + 1 ≠ w2.heap.size := by omega
    have hgne : V.heap.size + 1 ≠ w.heap.size := by omega
    have HRd : Hid (RdAt T (.slice (some ⟨V.heap.size + 1, 0, none⟩) 1 1) 1 ([Lib.itoa id].map fun x => .string (txtOf x))) := by rw [← hT]; exact rd_off hr3 (heap_setCell_other _ _ _ _ hgp) (by simp)
    have hpA : w.heap.size < T.heap.size := by omega
    have hpB : w2.heap.size < T.heap.size := by omega
    clear hr3 hb3 hB3 g1 g0 HgV HgW HDv hpA0 hpB0 HVs hgl0
    by_cases hk5 : k = 5
    · have hkB : (k == 5) = true := by rw [hk5]; rfl
      have HK : Hid ((k = 5) = True) := by rw [hk5]; exact eq_self _
      clear hk5
      go_wp2_with fail
      refine calls_at (HIt.out lo Hi.out.1 T HBx.out) (by with_reducible rfl) (by with_reducible rfl) ?_
      rintro e wa ⟨rfl, hba⟩
      have HBa : Hid (Below T.heap.size T wa) := hba
      clear hba
      go_wp2_with fail
      refine calls_at (HIt.out hi Hi.out.2 wa (bl_next HBx.out HBa.out)) (by with_reducible rfl) (by with_reducible rfl) ?_
      rintro e wb ⟨rfl, hbb⟩
      have HBb : Hid (Below T.heap.size T wb) := bl_next HBa.out hbb
      clear hbb
      have gB2 := (HBb.out.block w2.heap.size hpB).trans HgB.out
      have gA2 := (HBb.out.block w.heap.size hpA).trans HgA.out
      have y8 : wb.cell? ⟨w2.heap.size, 8, none⟩ = some (.string (txtOf (givT lo))) := cell_of gB2 8
      have y9 : wb.cell? ⟨w2.heap.size, 9, none⟩ = some (.string (txtOf (givT hi))) := cell_of gB2 9
      have yz := frozen_of gB2
      obtain ⟨C, hC⟩ : ∃ C, (wb.setCell ⟨w2.heap.size, 8, none⟩ (.string (txtOf (Lib.itoa lo)))).setCell ⟨w2.heap.size, 9, none⟩ (.string (txtOf (Lib.itoa hi))) = C := ⟨_, rfl⟩
      have HgC : Hid (C.heap[w2.heap.size]? = some (.cells #[.int .i64 9, .string ⟨#[]⟩, .slice none 0 0, .slice none 0 0, .string ⟨#[]⟩, .slice none 0 0, .slice (some ⟨V.heap.size + 1, 0, none⟩) 1 1, .int .i64 k, .string (txtOf (Lib.itoa lo)), .string (txtOf (Lib.itoa hi))] 45 (0, 0))) := by rw [← hC]; exact set_of (set_of gB2 8 _) 9 _
      have HgD : Hid (C.heap[w.heap.size]? = some (.cells #[.int .i64 0, .string ⟨#[]⟩, .slice none 0 0, .slice none 0 0, .string ⟨#[]⟩, .slice none 0 0, .slice none 0 0, .int .i64 0, .string ⟨#[]⟩, .string ⟨#[]⟩] 45 (0, 0))) := by rw [← hC]; exact (heap_setCell_other _ _ _ _ (by show w.heap.size ≠ w2.heap.size; omega)).trans ((heap_setCell_other _ _ _ _ (by show w.heap.size ≠ w2.heap.size; omega)).trans gA2)
      have HBC : Hid (Below w.heap.size w C) := by rw [← hC]; exact ((bl_next HBx.out HBb.out).setCell (by show w.heap.size ≤ w2.heap.size; omega) _).setCell (by show w.heap.size ≤ w2.heap.size; omega) _
      have HOff : Hid (∀ g, g ≠ w2.heap.size → g < T.heap.size → C.heap[g]? = T.heap[g]?) := fun g hg hl => by rw [← hC]; exact (heap_setCell_other _ _ _ _ hg).trans ((heap_setCell_other _ _ _ _ hg).trans (HBb.out.block g hl))
      have HSzC : Hid (T.heap.size ≤ C.heap.size) := by rw [← hC]; exact Nat.le_trans HBb.out.size (by simp)
      clear gB2 gA2
      have c0 : C.cell? ⟨w2.heap.size, 0, none⟩ = some (.int .i64 9) := cell_of HgC.out 0
      have c1 : C.cell? ⟨w2.heap.size, 1, none⟩ = some (.string ⟨#[]⟩) := cell_of HgC.out 1
      have c2 : C.cell? ⟨w2.heap.size, 2, none⟩ = some (.slice none 0 0) := cell_of HgC.out 2
      have c3 : C.cell? ⟨w2.heap.size, 3, none⟩ = some (.slice none 0 0) := cell_of HgC.out 3
      have c4 : C.cell? ⟨w2.heap.size, 4, none⟩ = some (.string ⟨#[]⟩) := cell_of HgC.out 4
      have c5 : C.cell? ⟨w2.heap.size, 5, none⟩ = some (.slice none 0 0) := cell_of HgC.out 5
      have c6 : C.cell? ⟨w2.heap.size, 6, none⟩ = some (.slice (some ⟨V.heap.size + 1, 0, none⟩) 1 1) := cell_of HgC.out 6
      have c7 : C.cell? ⟨w2.heap.size, 7, none⟩ = some (.int .i64 k) := cell_of HgC.out 7
      have c8 : C.cell? ⟨w2.heap.size, 8, none⟩ = some (.string (txtOf (Lib.itoa lo))) := cell_of HgC.out 8
      have c9 : C.cell? ⟨w2.heap.size, 9, none⟩ = some (.string (txtOf (Lib.itoa hi))) := cell_of HgC.out 9
      have s0 : C.cell? ⟨w.heap.size, 0, none⟩ = some (.int .i64 0) := cell_of HgD.out 0
      have s1 : C.cell? ⟨w.heap.size, 1, none⟩ = some (.string ⟨#[]⟩) := cell_of HgD.out 1
      have s2 : C.cell? ⟨w.heap.size, 2, none⟩ = some (.slice none 0 0) := cell_of HgD.out 2
      have s3 : C.cell? ⟨w.heap.size, 3, none⟩ = some (.slice none 0 0) := cell_of HgD.out 3
      have s4 : C.cell? ⟨w.heap.size, 4, none⟩ = some (.string ⟨#[]⟩) := cell_of HgD.out 4
      have s5 : C.cell? ⟨w.heap.size, 5, none⟩ = some (.slice none 0 0) := cell_of HgD.out 5
      have s6 : C.cell? ⟨w.heap.size, 6, none⟩ = some (.slice none 0 0) := cell_of HgD.out 6
      have s7 : C.cell? ⟨w.heap.size, 7, none⟩ = some (.int .i64 0) := cell_of HgD.out 7
      have s8 : C.cell? ⟨w.heap.size, 8, none⟩ = some (.string ⟨#[]⟩) := cell_of HgD.out 8
      have s9 : C.cell? ⟨w.heap.size, 9, none⟩ = some (.string ⟨#[]⟩) := cell_of HgD.out 9
      have zz := frozen_of HgD.out
      go_wp2_with fail
      have hE := (set10 (w := C) (q := w.heap.size) (cs := #[.int .i64 0, .string ⟨#[]⟩, .slice none 0 0, .slice none 0 0, .string ⟨#[]⟩, .slice none 0 0, .slice none 0 0, .int .i64 0, .string ⟨#[]⟩, .string ⟨#[]⟩]) ⟨HgD.out, rfl⟩ (.int .i64 9) (.string ⟨#[]⟩) (.slice none 0 0) (.slice none 0 0) (.string ⟨#[]⟩) (.slice none 0 0) (.slice (some ⟨V.heap.size + 1, 0, none⟩) 1 1) (.int .i64 k) (.string (txtOf (Lib.itoa lo))) (.string (txtOf (Lib.itoa hi)))).o
      have hL := bl10 HBC.out (Nat.le_refl _) (.int .i64 9) (.string ⟨#[]⟩) (.slice none 0 0) (.slice none 0 0) (.string ⟨#[]⟩) (.slice none 0 0) (.slice (some ⟨V.heap.size + 1, 0, none⟩) 1 1) (.int .i64 k) (.string (txtOf (Lib.itoa lo))) (.string (txtOf (Lib.itoa hi)))
      have hRd : RdAt ((((((((((C.setCell ⟨w.heap.size, 0, none⟩ (.int .i64 9)).setCell ⟨w.heap.size, 1, none⟩ (.string ⟨#[]⟩)).setCell ⟨w.heap.size, 2, none⟩ (.slice none 0 0)).setCell ⟨w.heap.size, 3, none⟩ (.slice none 0 0)).setCell ⟨w.heap.size, 4, none⟩ (.string ⟨#[]⟩)).setCell ⟨w.heap.size, 5, none⟩ (.slice none 0 0)).setCell ⟨w.heap.size, 6, none⟩ (.slice (some ⟨V.heap.size + 1, 0, none⟩) 1 1)).setCell ⟨w.heap.size, 7, none⟩ (.int .i64 k)).setCell ⟨w.heap.size, 8, none⟩ (.string (txtOf (Lib.itoa lo)))).setCell ⟨w.heap.size, 9, none⟩ (.string (txtOf (Lib.itoa hi)))) (.slice (some ⟨V.heap.size + 1, 0, none⟩) 1 1) 1 ([Lib.itoa id].map fun x => .string (txtOf x)) := rd_off HRd.out (by
        rw [heap_setCell_other _ _ _ _ hgne, heap_setCell_other _ _ _ _ hgne, heap_setCell_other _ _ _ _ hgne, heap_setCell_other _ _ _ _ hgne, heap_setCell_other _ _ _ _ hgne, heap_setCell_other _ _ _ _ hgne, heap_setCell_other _ _ _ _ hgne, heap_setCell_other _ _ _ _ hgne, heap_setCell_other _ _ _ _ hgne, heap_setCell_other _ _ _ _ hgne]
        first | done | exact HOff.out _ hgp hgl) (by have := HSzC.out; first | (simp; done) | (simp; omega))
      obtain ⟨Z, hZ⟩ : ∃ Z, ((((((((((C.setCell ⟨w.heap.size, 0, none⟩ (.int .i64 9)).setCell ⟨w.heap.size, 1, none⟩ (.string ⟨#[]⟩)).setCell ⟨w.heap.size, 2, none⟩ (.slice none 0 0)).setCell ⟨w.heap.size, 3, none⟩ (.slice none 0 0)).setCell ⟨w.heap.size, 4, none⟩ (.string ⟨#[]⟩)).setCell ⟨w.heap.size, 5, none⟩ (.slice none 0 0)).setCell ⟨w.heap.size, 6, none⟩ (.slice (some ⟨V.heap.size + 1, 0, none⟩) 1 1)).setCell ⟨w.heap.size, 7, none⟩ (.int .i64 k)).setCell ⟨w.heap.size, 8, none⟩ (.string (txtOf (Lib.itoa lo)))).setCell ⟨w.heap.size, 9, none⟩ (.string (txtOf (Lib.itoa hi)))) = Z := ⟨_, rfl⟩
      rw [hZ] at hE hL hRd
      rw [hZ]
      have eq : conS k id lo hi = ⟨9, [], [], [], [], [], [Lib.itoa id], k, Lib.itoa lo, Lib.itoa hi⟩ := by
        simp [conS, SL.zero, HK.out, HId.out]
      refine bodyPost_ret (results_cell_row rfl _ _ w.heap.size 45 _ (0, 0) _ rfl hE Tryz.underlying45 rfl info45) rfl ⟨.slice (some ⟨V.heap.size + 1, 0, none⟩) 1 1, ?_, ?_, hL⟩
      · rw [eq]; rfl
      · rw [eq]; exact hRd
    · have hkB : (k == 5) = false := by simpa using hk5
      by_cases hk6 : k = 6
      · have hkC : (k == 6) = true := by rw [hk6]; rfl
        have HK : Hid ((k = 5) = False ∧ (k = 6) = True) := ⟨eq_false hk5, eq_true hk6⟩
        clear hk5 hk6
        go_wp2_with fail
        refine calls_at (HIt.out hi Hi.out.2 T HBx.out) (by with_reducible rfl) (by with_reducible rfl) ?_
        rintro e wb ⟨rfl, hbb⟩
        have HBb : Hid (Below T.heap.size T wb) := hbb
        clear hbb
        have gB2 := (HBb.out.block w2.heap.size hpB).trans HgB.out
        have gA2 := (HBb.out.block w.heap.size hpA).trans HgA.out
        have y9 : wb.cell? ⟨w2.heap.size, 9, none⟩ = some (.string (txtOf (givT hi))) := cell_of gB2 9
        have yz := frozen_of gB2
        obtain ⟨C, hC⟩ : ∃ C, wb.setCell ⟨w2.heap.size, 9, none⟩ (.string (txtOf (Lib.itoa hi))) = C := ⟨_, rfl⟩
        have HgC : Hid (C.heap[w2.heap.size]? = some (.cells #[.int .i64 9, .string ⟨#[]⟩, .slice none 0 0, .slice none 0 0, .string ⟨#[]⟩, .slice none 0 0, .slice (some ⟨V.heap.size + 1, 0, none⟩) 1 1, .int .i64 k, .string (txtOf (givT lo)), .string (txtOf (Lib.itoa hi))] 45 (0, 0))) := by rw [← hC]; exact set_of gB2 9 _
        have HgD : Hid (C.heap[w.heap.size]? = some (.cells #[.int .i64 0, .string ⟨#[]⟩, .slice none 0 0, .slice none 0 0, .string ⟨#[]⟩, .slice none 0 0, .slice none 0 0, .int .i64 0, .string ⟨#[]⟩, .string ⟨#[]⟩] 45 (0, 0))) := by rw [← hC]; exact (heap_setCell_other _ _ _ _ (by show w.heap.size ≠ w2.heap.size; omega)).trans gA2
        have HBC : Hid (Below w.heap.size w C) := by rw [← hC]; exact (bl_next HBx.out HBb.out).setCell (by show w.heap.size ≤ w2.heap.size; omega) _
        have HOff : Hid (∀ g, g ≠ w2.heap.size → g < T.heap.size → C.heap[g]? = T.heap[g]?) := fun g hg hl => by rw [← hC]; exact (heap_setCell_other _ _ _ _ hg).trans (HBb.out.block g hl)
        have HSzC : Hid (T.heap.size ≤ C.heap.size) := by rw [← hC]; exact Nat.le_trans HBb.out.size (by simp)
        clear gB2 gA2
        have c0 : C.cell? ⟨w2.heap.size, 0, none⟩ = some (.int .i64 9) := cell_of HgC.out 0
        have c1 : C.cell? ⟨w2.heap.size, 1, none⟩ = some (.string ⟨#[]⟩) := cell_of HgC.out 1
        have c2 : C.cell? ⟨w2.heap.size, 2, none⟩ = some (.slice none 0 0) := cell_of HgC.out 2
        have c3 : C.cell? ⟨w2.heap.size, 3, none⟩ = some (.slice none 0 0) := cell_of HgC.out 3
        have c4 : C.cell? ⟨w2.heap.size, 4, none⟩ = some (.string ⟨#[]⟩) := cell_of HgC.out 4
        have c5 : C.cell? ⟨w2.heap.size, 5, none⟩ = some (.slice none 0 0) := cell_of HgC.out 5
        have c6 : C.cell? ⟨w2.heap.size, 6, none⟩ = some (.slice (some ⟨V.heap.size + 1, 0, none⟩) 1 1) := cell_of HgC.out 6
        have c7 : C.cell? ⟨w2.heap.size, 7, none⟩ = some (.int .i64 k) := cell_of HgC.out 7
        have c8 : C.cell? ⟨w2.heap.size, 8, none⟩ = some (.string (txtOf (givT lo))) := cell_of HgC.out 8
        have c9 : C.cell? ⟨w2.heap.size, 9, none⟩ = some (.string (txtOf (Lib.itoa hi))) := cell_of HgC.out 9
        have s0 : C.cell? ⟨w.heap.size, 0, none⟩ = some (.int .i64 0) := cell_of HgD.out 0
        have s1 : C.cell? ⟨w.heap.size, 1, none⟩ = some (.string ⟨#[]⟩) := cell_of HgD.out 1
        have s2 : C.cell? ⟨w.heap.size, 2, none⟩ = some (.slice none 0 0) := cell_of HgD.out 2
        have s3 : C.cell? ⟨w.heap.size, 3, none⟩ = some (.slice none 0 0) := cell_of HgD.out 3
        have s4 : C.cell? ⟨w.heap.size, 4, none⟩ = some (.string ⟨#[]⟩) := cell_of HgD.out 4
        have s5 : C.cell? ⟨w.heap.size, 5, none⟩ = some (.slice none 0 0) := cell_of HgD.out 5
        have s6 : C.cell? ⟨w.heap.size, 6, none⟩ = some (.slice none 0 0) := cell_of HgD.out 6
        have s7 : C.cell? ⟨w.heap.size, 7, none⟩ = some (.int .i64 0) := cell_of HgD.out 7
        have s8 : C.cell? ⟨w.heap.size, 8, none⟩ = some (.string ⟨#[]⟩) := cell_of HgD.out 8
        have s9 : C.cell? ⟨w.heap.size, 9, none⟩ = some (.string ⟨#[]⟩) := cell_of HgD.out 9
        have zz := frozen_of HgD.out
        go_wp2_with fail
        have hE := (set10 (w := C) (q := w.heap.size) (cs := #[.int .i64 0, .string ⟨#[]⟩, .slice none 0 0, .slice none 0 0, .string ⟨#[]⟩, .slice none 0 0, .slice none 0 0, .int .i64 0, .string ⟨#[]⟩, .string ⟨#[]⟩]) ⟨HgD.out, rfl⟩ (.int .i64 9) (.string ⟨#[]⟩) (.slice none 0 0) (.slice none 0 0) (.string ⟨#[]⟩) (.slice none 0 0) (.slice (some ⟨V.heap.size + 1, 0, none⟩) 1 1) (.int .i64 k) (.string (txtOf (givT lo))) (.string (txtOf (Lib.itoa hi)))).o
        have hL := bl10 HBC.out (Nat.le_refl _) (.int .i64 9) (.string ⟨#[]⟩) (.slice none 0 0) (.slice none 0 0) (.string ⟨#[]⟩) (.slice none 0 0) (.slice (some ⟨V.heap.size + 1, 0, none⟩) 1 1) (.int .i64 k) (.string (txtOf (givT lo))) (.string (txtOf (Lib.itoa hi)))
        have hRd : RdAt ((((((((((C.setCell ⟨w.heap.size, 0, none⟩ (.int .i64 9)).setCell ⟨w.heap.size, 1, none⟩ (.string ⟨#[]⟩)).setCell ⟨w.heap.size, 2, none⟩ (.slice none 0 0)).setCell ⟨w.heap.size, 3, none⟩ (.slice none 0 0)).setCell ⟨w.heap.size, 4, none⟩ (.string ⟨#[]⟩)).setCell ⟨w.heap.size, 5, none⟩ (.slice none 0 0)).setCell ⟨w.heap.size, 6, none⟩ (.slice (some ⟨V.heap.size + 1, 0, none⟩) 1 1)).setCell ⟨w.heap.size, 7, none⟩ (.int .i64 k)).setCell ⟨w.heap.size, 8, none⟩ (.string (txtOf (givT lo)))).setCell ⟨w.heap.size, 9, none⟩ (.string (txtOf (Lib.itoa hi)))) (.slice (some ⟨V.heap.size + 1, 0, none⟩) 1 1) 1 ([Lib.itoa id].map fun x => .string (txtOf x)) := rd_off HRd.out (by
        rw [heap_setCell_other _ _ _ _ hgne, heap_setCell_other _ _ _ _ hgne, heap_setCell_other _ _ _ _ hgne, heap_setCell_other _ _ _ _ hgne, heap_setCell_other _ _ _ _ hgne, heap_setCell_other _ _ _ _ hgne, heap_setCell_other _ _ _ _ hgne, heap_setCell_other _ _ _ _ hgne, heap_setCell_other _ _ _ _ hgne, heap_setCell_other _ _ _ _ hgne]
        first | done | exact HOff.out _ hgp hgl) (by have := HSzC.out; first | (simp; done) | (simp; omega))
        obtain ⟨Z, hZ⟩ : ∃ Z, ((((((((((C.setCell ⟨w.heap.size, 0, none⟩ (.int .i64 9)).setCell ⟨w.heap.size, 1, none⟩ (.string ⟨#[]⟩)).setCell ⟨w.heap.size, 2, none⟩ (.slice none 0 0)).setCell ⟨w.heap.size, 3, none⟩ (.slice none 0 0)).setCell ⟨w.heap.size, 4, none⟩ (.string ⟨#[]⟩)).setCell ⟨w.heap.size, 5, none⟩ (.slice none 0 0)).setCell ⟨w.heap.size, 6, none⟩ (.slice (some ⟨V.heap.size + 1, 0, none⟩) 1 1)).setCell ⟨w.heap.size, 7, none⟩ (.int .i64 k)).setCell ⟨w.heap.size, 8, none⟩ (.string (txtOf (givT lo)))).setCell ⟨w.heap.size, 9, none⟩ (.string (txtOf (Lib.itoa hi)))) = Z := ⟨_, rfl⟩
        rw [hZ] at hE hL hRd
        rw [hZ]
        have eq : conS k id lo hi = ⟨9, [], [], [], [], [], [Lib.itoa id], k, givT lo, Lib.itoa hi⟩ := by
          simp [conS, SL.zero, HK.out.1, HK.out.2, HId.out]
        refine bodyPost_ret (results_cell_row rfl _ _ w.heap.size 45 _ (0, 0) _ rfl hE Tryz.underlying45 rfl info45) rfl ⟨.slice (some ⟨V.heap.size + 1, 0, none⟩) 1 1, ?_, ?_, hL⟩
        · rw [eq]; rfl
        · rw [eq]; exact hRd
      · have hkC : (k == 6) = false := by simpa using hk6
        have HK : Hid ((k = 5) = False ∧ (k = 6) = False) := ⟨eq_false hk5, eq_false hk6⟩
        have HgC : Hid (T.heap[w2.heap.size]? = some (.cells #[.int .i64 9, .string ⟨#[]⟩, .slice none 0 0, .slice none 0 0, .string ⟨#[]⟩, .slice none 0 0, .slice (some ⟨V.heap.size + 1, 0, none⟩) 1 1, .int .i64 k, .string (txtOf (givT lo)), .string (txtOf (givT hi))] 45 (0, 0))) := HgB.out
        have HgD : Hid (T.heap[w.heap.size]? = some (.cells #[.int .i64 0, .string ⟨#[]⟩, .slice none 0 0, .slice none 0 0, .string ⟨#[]⟩, .slice none 0 0, .slice none 0 0, .int .i64 0, .string ⟨#[]⟩, .string ⟨#[]⟩] 45 (0, 0))) := HgA.out
        have HBC : Hid (Below w.heap.size w T) := HBx.out
        have HOff : Hid (∀ g, g ≠ w2.heap.size → g < T.heap.size → T.heap[g]? = T.heap[g]?) := fun g _ _ => rfl
        have HSzC : Hid (T.heap.size ≤ T.heap.size) := Nat.le_refl _
        clear hk5 hk6
        have c0 : T.cell? ⟨w2.heap.size, 0, none⟩ = some (.int .i64 9) := cell_of HgC.out 0
        have c1 : T.cell? ⟨w2.heap.size, 1, none⟩ = some (.string ⟨#[]⟩) := cell_of HgC.out 1
        have c2 : T.cell? ⟨w2.heap.size, 2, none⟩ = some (.slice none 0 0) := cell_of HgC.out 2
        have c3 : T.cell? ⟨w2.heap.size, 3, none⟩ = some (.slice none 0 0) := cell_of HgC.out 3
        have c4 : T.cell? ⟨w2.heap.size, 4, none⟩ = some (.string ⟨#[]⟩) := cell_of HgC.out 4
        have c5 : T.cell? ⟨w2.heap.size, 5, none⟩ = some (.slice none 0 0) := cell_of HgC.out 5
        have c6 : T.cell? ⟨w2.heap.size, 6, none⟩ = some (.slice (some ⟨V.heap.size + 1, 0, none⟩) 1 1) := cell_of HgC.out 6
        have c7 : T.cell? ⟨w2.heap.size, 7, none⟩ = some (.int .i64 k) := cell_of HgC.out 7
        have c8 : T.cell? ⟨w2.heap.size, 8, none⟩ = some (.string (txtOf (givT lo))) := cell_of HgC.out 8
        have c9 : T.cell? ⟨w2.heap.size, 9, none⟩ = some (.string (txtOf (givT hi))) := cell_of HgC.out 9
        have s0 : T.cell? ⟨w.heap.size, 0, none⟩ = some (.int .i64 0) := cell_of HgD.out 0
        have s1 : T.cell? ⟨w.heap.size, 1, none⟩ = some (.string ⟨#[]⟩) := cell_of HgD.out 1
        have s2 : T.cell? ⟨w.heap.size, 2, none⟩ = some (.slice none 0 0) := cell_of HgD.out 2
        have s3 : T.cell? ⟨w.heap.size, 3, none⟩ = some (.slice none 0 0) := cell_of HgD.out 3
        have s4 : T.cell? ⟨w.heap.size, 4, none⟩ = some (.string ⟨#[]⟩) := cell_of HgD.out 4
        have s5 : T.cell? ⟨w.heap.size, 5, none⟩ = some (.slice none 0 0) := cell_of HgD.out 5
        have s6 : T.cell? ⟨w.heap.size, 6, none⟩ = some (.slice none 0 0) := cell_of HgD.out 6
        have s7 : T.cell? ⟨w.heap.size, 7, none⟩ = some (.int .i64 0) := cell_of HgD.out 7
        have s8 : T.cell? ⟨w.heap.size, 8, none⟩ = some (.string ⟨#[]⟩) := cell_of HgD.out 8
        have s9 : T.cell? ⟨w.heap.size, 9, none⟩ = some (.string ⟨#[]⟩) := cell_of HgD.out 9
        have zz := frozen_of HgD.out
        go_wp2_with fail
        have hE := (set10 (w := T) (q := w.heap.size) (cs := #[.int .i64 0, .string ⟨#[]⟩, .slice none 0 0, .slice none 0 0, .string ⟨#[]⟩, .slice none 0 0, .slice none 0 0, .int .i64 0, .string ⟨#[]⟩, .string ⟨#[]⟩]) ⟨HgD.out, rfl⟩ (.int .i64 9) (.string ⟨#[]⟩) (.slice none 0 0) (.slice none 0 0) (.string ⟨#[]⟩) (.slice none 0 0) (.slice (some ⟨V.heap.size + 1, 0, none⟩) 1 1) (.int .i64 k) (.string (txtOf (givT lo))) (.string (txtOf (givT hi)))).o
        have hL := bl10 HBC.out (Nat.le_refl _) (.int .i64 9) (.string ⟨#[]⟩) (.slice none 0 0) (.slice none 0 0) (.string ⟨#[]⟩) (.slice none 0 0) (.slice (some ⟨V.heap.size + 1, 0, none⟩) 1 1) (.int .i64 k) (.string (txtOf (givT lo))) (.string (txtOf (givT hi)))
        have hRd : RdAt ((((((((((T.setCell ⟨w.heap.size, 0, none⟩ (.int .i64 9)).setCell ⟨w.heap.size, 1, none⟩ (.string ⟨#[]⟩)).setCell ⟨w.heap.size, 2, none⟩ (.slice none 0 0)).setCell ⟨w.heap.size, 3, none⟩ (.slice none 0 0)).setCell ⟨w.heap.size, 4, none⟩ (.string ⟨#[]⟩)).setCell ⟨w.heap.size, 5, none⟩ (.slice none 0 0)).setCell ⟨w.heap.size, 6, none⟩ (.slice (some ⟨V.heap.size + 1, 0, none⟩) 1 1)).setCell ⟨w.heap.size, 7, none⟩ (.int .i64 k)).setCell ⟨w.heap.size, 8, none⟩ (.string (txtOf (givT lo)))).setCell ⟨w.heap.size, 9, none⟩ (.string (txtOf (givT hi)))) (.slice (some ⟨V.heap.size + 1, 0, none⟩) 1 1) 1 ([Lib.itoa id].map fun x => .string (txtOf x)) := rd_off HRd.out (by
        rw [heap_setCell_other _ _ _ _ hgne, heap_setCell_other _ _ _ _ hgne, heap_setCell_other _ _ _ _ hgne, heap_setCell_other _ _ _ _ hgne, heap_setCell_other _ _ _ _ hgne, heap_setCell_other _ _ _ _ hgne, heap_setCell_other _ _ _ _ hgne, heap_setCell_other _ _ _ _ hgne, heap_setCell_other _ _ _ _ hgne, heap_setCell_other _ _ _ _ hgne]
        first | done | exact HOff.out _ hgp hgl) (by have := HSzC.out; first | (simp; done) | (simp; omega))
        obtain ⟨Z, hZ⟩ : ∃ Z, ((((((((((T.setCell ⟨w.heap.size, 0, none⟩ (.int .i64 9)).setCell ⟨w.heap.size, 1, none⟩ (.string ⟨#[]⟩)).setCell ⟨w.heap.size, 2, none⟩ (.slice none 0 0)).setCell ⟨w.heap.size, 3, none⟩ (.slice none 0 0)).setCell ⟨w.heap.size, 4, none⟩ (.string ⟨#[]⟩)).setCell ⟨w.heap.size, 5, none⟩ (.slice none 0 0)).setCell ⟨w.heap.size, 6, none⟩ (.slice (some ⟨V.heap.size + 1, 0, none⟩) 1 1)).setCell ⟨w.heap.size, 7, none⟩ (.int .i64 k)).setCell ⟨w.heap.size, 8, none⟩ (.string (txtOf (givT lo)))).setCell ⟨w.heap.size, 9, none⟩ (.string (txtOf (givT hi)))) = Z := ⟨_, rfl⟩
        rw [hZ] at hE hL hRd
        rw [hZ]
        have eq : conS k id lo hi = ⟨9, [], [], [], [], [], [Lib.itoa id], k, givT lo, givT hi⟩ := by
          simp [conS, SL.zero, HK.out.1, HK.out.2, HId.out]
        refine bodyPost_ret (results_cell_row rfl _ _ w.heap.size 45 _ (0, 0) _ rfl hE Tryz.underlying45 rfl info45) rfl ⟨.slice (some ⟨V.heap.size + 1, 0, none⟩) 1 1, ?_, ?_, hL⟩
        · rw [eq]; rfl
        · rw [eq]; exact hRd
end Go.Proofs.YtibbnijicdijnaaGreatDoor
