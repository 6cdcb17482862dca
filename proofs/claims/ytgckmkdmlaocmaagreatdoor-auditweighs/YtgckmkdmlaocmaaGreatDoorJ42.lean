/-
  Put together: RqQ, RmA, RmB.
-/
import Derived.Test.YtgckmkdmlaocmaaGreatDoorRqP
import Derived.Test.YtgckmkdmlaocmaaGreatDoorJ41
namespace Go.Proofs.YtgckmkdmlaocmaaGreatDoor
open Go.RowKit

def parR (x : List UInt8) : SL × Int :=
  if wrds x [] = [] ∨ (wrds x []).head? = some [42] then ({ SL.zero with k := 7 }, 0)
  else if (restR (stepW (takeR (wrds x [], 0)).1.1 (takeR (wrds x [], 0)).2).2).2 = 0 then ((stepW (takeR (wrds x [], 0)).1.1 (takeR (wrds x [], 0)).2).1, 0)
  else (SL.zero, (restR (stepW (takeR (wrds x [], 0)).1.1 (takeR (wrds x [], 0)).2).2).2)
def RpGood (w : World) (d : SL) (vo vp vl vi : Value) (V : World) : Prop := V.heap[w.heap.size]? = some (.cells (slC d vo vp vl vi) 47 (0, 0)) ∧ SlOwn (w.heap.size + 1) V d vo vp vl vi ∧ Below w.heap.size w V
def RpNote (w V : World) : Prop := V.heap[w.heap.size]? = some (.cells #[.int .i64 7, .string ⟨#[]⟩, .slice none 0 0, .slice none 0 0, .string ⟨#[]⟩, .slice none 0 0, .slice none 0 0, .int .i64 0, .string ⟨#[]⟩, .string ⟨#[]⟩] 47 (0, 0)) ∧ Below w.heap.size w V
def RpO (A : SL × Int) (w : World) (e : Ending) (w' : World) : Prop := ∃ vo vp vl vi, e = .returned (.tuple #[.agg (slC A.1 vo vp vl vi), .int .i64 A.2]) ∧ SlOwn w.heap.size w' A.1 vo vp vl vi ∧ Below w.heap.size w w'
def RpOut (x : List UInt8) (w : World) : Ending → World → Prop := RpO (parR x) w
theorem wrds_len : ∀ (x cur : List UInt8), (wrds x cur).length ≤ x.length + (if cur = [] then 0 else 1) ∧ ∀ y ∈ wrds x cur, y.length ≤ x.length + cur.length := by
  intro x
  induction x with
  | nil =>
    intro cur
    unfold wrds
    by_cases h : cur = []
    · rw [if_pos h]; exact ⟨by simp, fun y hy => by cases hy⟩
    · rw [if_neg h]; exact ⟨by simp [h], fun y hy => by simp at hy; rw [hy]; simp⟩
  | cons c t ih =>
    intro cur
    unfold wrds
    by_cases hb : blk c = true
    · rw [if_pos hb]
      have h0 := ih []
      by_cases h : cur = []
      · rw [if_pos h]; exact ⟨by have := h0.1; simp [h] at this ⊢; omega, fun y hy => by have := h0.2 y hy; simp at this ⊢; omega⟩
      · rw [if_neg h]
        refine ⟨by have := h0.1; simp [h] at this ⊢; omega, fun y hy => ?_⟩
        rcases List.mem_cons.1 hy with rfl | hy
        · simp
        · have := h0.2 y hy; simp at this ⊢; omega
    · rw [if_neg hb]
      have h0 := ih (cur ++ [c])
      refine ⟨?_, fun y hy => by have := h0.2 y hy; simp at this ⊢; omega⟩
      have h1 := h0.1
      rw [if_neg (by simp)] at h1
      split <;> simp <;> omega

theorem rr_new {B : Nat} {WL : List (List UInt8)} (hn : ∀ y ∈ WL, y.length ≤ 9000000) (w1 V : World) (a : Option Addr) (c : Nat) (ho : w1.ownsRow B 9 1 (.slice a WL.length c) WL.length (WL.map fun l => .string (txtOf l))) (hb : Below w1.heap.size w1 V) (hg : V.heap[w1.heap.size]? = some (.cells #[.slice a WL.length c, .int .i64 0] 59 (0, 0))) : RrAt w1.heap.size V w1.heap.size (WL, 0) := by
  have hfew : WL.length ≤ 9223372036854775807 := by
    rcases ho.2 with ⟨_, h2⟩ | ⟨_, _, _, _, _, _, h5, h6, _⟩
    · rw [h2]; exact Nat.zero_le _
    · unfold maxLen at h6; omega
  refine ⟨⟨a, c, hg, ?_, ?_, fun h0 => ?_⟩, hn, hb.size⟩
  · rcases ho.2 with ⟨h1, h2⟩ | ⟨g, cap, cur, hv, _, _, h5, _⟩
    · rw [h2]; exact Nat.zero_le _
    · injection hv with _ _ h6; rw [h6]; exact h5
  · rcases ho.2 with ⟨h1, h2⟩ | ⟨g, cap, cur, hv, _, _, h5, h6, _⟩
    · injection h1 with _ _ h7; rw [h7]; exact Nat.zero_le _
    · injection hv with _ _ h7; rw [h7]; unfold maxLen at h6; omega
  · obtain ⟨a', cap', e1, _, e3⟩ := rd_of_own ho hfew
    obtain ⟨g, off, q1, q2, q3⟩ := e3 h0
    injection e1 with e1
    rw [← e1] at q1
    exact ⟨g, off, q1, by omega, q2, fun j x hx => (hb.cell (p := ⟨g, off + j, none⟩) q2).trans (q3 j _ (by rw [List.getElem?_map, hx]; rfl))⟩

set_option maxRecDepth 10000 in
set_option maxHeartbeats 4000000 in
theorem rparse_any (x : List UInt8) (w : World) (hx : x.length ≤ 9000000) : Calls Tryz.prog 7 #[.string (txtOf x)] w (RpOut x w) := by
  obtain ⟨X1, hX1⟩ : ∃ X, w.alloc (.cells cs0 47) = X := ⟨_, rfl⟩
  have hb1 : Below w.heap.size w X1 := by rw [← hX1]; exact (Below.refl _ _).alloc (Nat.le_refl _) _
  have g2 : X1.heap[w.heap.size]? = some (.cells cs0 47 (0, 0)) := by rw [← hX1]; exact heap_alloc_new w _
  have l2 : w.heap.size < X1.heap.size := (Array.getElem?_eq_some_iff.1 g2).1
  have HX1 : Hid (w.alloc (.cells #[.int .i64 0, .string ⟨#[]⟩, .slice none 0 0, .slice none 0 0, .string ⟨#[]⟩, .slice none 0 0, .slice none 0 0, .int .i64 0, .string ⟨#[]⟩, .string ⟨#[]⟩] 47) = X1) := hX1
  have HB1 : Hid (Below w.heap.size w X1) := hb1
  have HG2 : Hid (X1.heap[w.heap.size]? = some (.cells cs0 47 (0, 0))) := g2
  have HL2 : Hid (w.heap.size < X1.heap.size) := l2
  have hW := wrds_len x []
  simp only [if_pos, Nat.add_zero, List.length_nil] at hW
  have HC := rwords_any x X1 hx
  unfold RpOut
  obtain ⟨A, hA⟩ : ∃ A, parR x = A := ⟨_, rfl⟩
  rw [hA]
  unfold parR at hA
  obtain ⟨WL, hWL⟩ : ∃ L, wrds x [] = L := ⟨_, rfl⟩
  unfold WdO at HC
  rw [hWL] at hW HC hA
  have HWd : Hid (Calls Tryz.prog 12 #[.string (txtOf x)] X1 fun e w' => ∃ v, e = .returned v ∧ w'.ownsRow X1.heap.size 9 1 v WL.length (WL.map fun l => .string (txtOf l)) ∧ Below X1.heap.size X1 w') := HC
  have hWl : WL.length ≤ 9000000 := Nat.le_trans hW.1 hx
  have HWn : Hid (∀ y ∈ WL, y.length ≤ 9000000) := fun y hy => Nat.le_trans (hW.2 y hy) hx
  obtain ⟨r, hr⟩ : ∃ r, takeR (WL, 0) = r := ⟨_, rfl⟩
  rw [hr] at hA
  obtain ⟨⟨y, tt⟩, s1⟩ := r
  simp only at hA
  obtain ⟨⟨d, sd⟩, hd⟩ : ∃ q, stepW y s1 = q := ⟨_, rfl⟩
  rw [hd] at hA
  simp only at hA
  obtain ⟨sr, hsr⟩ : ∃ q, restR sd = q := ⟨_, rfl⟩
  rw [hsr] at hA
  have HTk : Hid (takeR (WL, 0) = ((y, tt), s1)) := hr
  have HSt : Hid (stepW y s1 = (d, sd)) := hd
  have HRe : Hid (restR sd = sr) := hsr
  have HA : Hid ((if WL = [] ∨ WL.head? = some [42] then ({ SL.zero with k := 7 }, 0) else if sr.2 = 0 then (d, 0) else (SL.zero, sr.2)) = A) := hA
  clear hX1 hb1 g2 l2 hWL hW HC hr hd hsr hx hA
  go_enter Tryz.func7, Tryz.ntmps7
  go_wp2_with fail
  rw [HX1.out]
  refine calls_at HWd.out (by with_reducible rfl) (by with_reducible rfl) ?_
  rintro e w1 ⟨v, rfl, ho, hb⟩
  obtain ⟨a, c, rfl⟩ := own_slice ho
  obtain ⟨V, hV⟩ : ∃ V, w1.alloc (.cells #[.slice a WL.length c, .int .i64 0] 59) = V := ⟨_, rfl⟩
  have hbV : Below w1.heap.size w1 V := by rw [← hV]; exact (Below.refl _ _).alloc (Nat.le_refl _) _
  have gV : V.heap[w1.heap.size]? = some (.cells #[.slice a WL.length c, .int .i64 0] 59 (0, 0)) := by rw [← hV]; exact heap_alloc_new w1 _
  have HR : Hid (RrAt w1.heap.size V w1.heap.size (WL, 0)) := rr_new HWn.out w1 V a c ho hbV gV
  have HBV : Hid (Below X1.heap.size X1 V) := bl_next hb hbV
  have HS2 : Hid (StAt V w.heap.size cs0) := ⟨(HBV.out.block _ HL2.out).trans HG2.out, rfl⟩
  have HSz : Hid (X1.heap.size ≤ w1.heap.size) := hb.size
  have HBV0 : w1.heap.size ≤ V.heap.size := hbV.size
  have c0 : V.cell? ⟨w1.heap.size, 0, none⟩ = some (.slice a WL.length c) := cell_of gV 0
  clear ho hb hbV gV HWd HX1 HWn
  by_cases hnt : WL = [] ∨ WL.head? = some [42]
  · have HAq : Hid (A = ({ SL.zero with k := 7 }, 0)) := by
      show _ = _
      rw [← HA.out, if_pos hnt]
    have s0 : V.cell? ⟨w.heap.size, 0, none⟩ = some (.int .i64 0) := cell_of HS2.out.o 0
    have s1 : V.cell? ⟨w.heap.size, 1, none⟩ = some (.string ⟨#[]⟩) := cell_of HS2.out.o 1
    have s2 : V.cell? ⟨w.heap.size, 2, none⟩ = some (.slice none 0 0) := cell_of HS2.out.o 2
    have s3 : V.cell? ⟨w.heap.size, 3, none⟩ = some (.slice none 0 0) := cell_of HS2.out.o 3
    have s4 : V.cell? ⟨w.heap.size, 4, none⟩ = some (.string ⟨#[]⟩) := cell_of HS2.out.o 4
    have s5 : V.cell? ⟨w.heap.size, 5, none⟩ = some (.slice none 0 0) := cell_of HS2.out.o 5
    have s6 : V.cell? ⟨w.heap.size, 6, none⟩ = some (.slice none 0 0) := cell_of HS2.out.o 6
    have s7 : V.cell? ⟨w.heap.size, 7, none⟩ = some (.int .i64 0) := cell_of HS2.out.o 7
    have s8 : V.cell? ⟨w.heap.size, 8, none⟩ = some (.string ⟨#[]⟩) := cell_of HS2.out.o 8
    have s9 : V.cell? ⟨w.heap.size, 9, none⟩ = some (.string ⟨#[]⟩) := cell_of HS2.out.o 9
    have z2 := frozen_of HS2.out.o
    have HE : Hid (RpNote w ((((((((((V.setCell ⟨w.heap.size, 0, none⟩ (.int .i64 7)).setCell ⟨w.heap.size, 1, none⟩ (.string ⟨#[]⟩)).setCell ⟨w.heap.size, 2, none⟩ (.slice none 0 0)).setCell ⟨w.heap.size, 3, none⟩ (.slice none 0 0)).setCell ⟨w.heap.size, 4, none⟩ (.string ⟨#[]⟩)).setCell ⟨w.heap.size, 5, none⟩ (.slice none 0 0)).setCell ⟨w.heap.size, 6, none⟩ (.slice none 0 0)).setCell ⟨w.heap.size, 7, none⟩ (.int .i64 0)).setCell ⟨w.heap.size, 8, none⟩ (.string ⟨#[]⟩)).setCell ⟨w.heap.size, 9, none⟩ (.string ⟨#[]⟩))) := ⟨(set10 HS2.out (.int .i64 7) (.string ⟨#[]⟩) (.slice none 0 0) (.slice none 0 0) (.string ⟨#[]⟩) (.slice none 0 0) (.slice none 0 0) (.int .i64 0) (.string ⟨#[]⟩) (.string ⟨#[]⟩)).o, bl10 (bl_next HB1.out HBV.out) (Nat.le_refl _) (.int .i64 7) (.string ⟨#[]⟩) (.slice none 0 0) (.slice none 0 0) (.string ⟨#[]⟩) (.slice none 0 0) (.slice none 0 0) (.int .i64 0) (.string ⟨#[]⟩) (.string ⟨#[]⟩)⟩
    cases WL with
    | nil =>
      simp only [List.length_nil] at c0 hV
      go_wp2_with fail
      have hE := HE.out
      obtain ⟨ZW, hZ⟩ : ∃ Zx, ((((((((((V.setCell ⟨w.heap.size, 0, none⟩ (.int .i64 7)).setCell ⟨w.heap.size, 1, none⟩ (.string ⟨#[]⟩)).setCell ⟨w.heap.size, 2, none⟩ (.slice none 0 0)).setCell ⟨w.heap.size, 3, none⟩ (.slice none 0 0)).setCell ⟨w.heap.size, 4, none⟩ (.string ⟨#[]⟩)).setCell ⟨w.heap.size, 5, none⟩ (.slice none 0 0)).setCell ⟨w.heap.size, 6, none⟩ (.slice none 0 0)).setCell ⟨w.heap.size, 7, none⟩ (.int .i64 0)).setCell ⟨w.heap.size, 8, none⟩ (.string ⟨#[]⟩)).setCell ⟨w.heap.size, 9, none⟩ (.string ⟨#[]⟩)) = Zx := ⟨_, rfl⟩
      rw [hZ] at hE
      rw [hZ]
      exact bodyPost_ret (res_step rfl _ _ w.heap.size 47 _ (0, 0) _ rfl hE.1 Tryz.underlying47 rfl info45) rfl (show RpO A w _ _ by rw [HAq.out]; exact ⟨_, _, _, _, rfl, d9_own _ _ _ rfl rfl rfl rfl, hE.2⟩)
    | cons y0 L =>
      have hy : y0 = [42] := by simpa using hnt
      obtain ⟨ra, rc, h1, _, _, h4⟩ := HR.out.o
      obtain ⟨g, off, q1, q2, q3, q4⟩ := h4 (by simp)
      have h0 := cell_of h1 0
      rw [c0] at h0
      have h00 : (Value.slice a (y0 :: L).length c) = .slice ra (y0 :: L).length rc := by simpa using h0
      obtain ⟨h01, _, h02⟩ := Value.slice.inj h00
      subst h02
      rw [← h01] at q1
      subst q1
      have cx : V.cell? ⟨g, off, none⟩ = some (.string (txtOf y0)) := q4 0 y0 rfl
      have ey := txt_eq y0 [42]
      rw [decide_eq_true hy] at ey
      simp only [List.length_cons] at c0 hV
      have hL0 : (((L.length : Nat) : Int) + 1 == 0) = false := by simpa using (by omega : ¬ ((L.length : Int) + 1 = 0))
      clear h1 h4 q2 q3 q4 h0 h00 h01 hy hnt
      go_wp2_with fail
      have hE := HE.out
      obtain ⟨ZW, hZ⟩ : ∃ Zx, ((((((((((V.setCell ⟨w.heap.size, 0, none⟩ (.int .i64 7)).setCell ⟨w.heap.size, 1, none⟩ (.string ⟨#[]⟩)).setCell ⟨w.heap.size, 2, none⟩ (.slice none 0 0)).setCell ⟨w.heap.size, 3, none⟩ (.slice none 0 0)).setCell ⟨w.heap.size, 4, none⟩ (.string ⟨#[]⟩)).setCell ⟨w.heap.size, 5, none⟩ (.slice none 0 0)).setCell ⟨w.heap.size, 6, none⟩ (.slice none 0 0)).setCell ⟨w.heap.size, 7, none⟩ (.int .i64 0)).setCell ⟨w.heap.size, 8, none⟩ (.string ⟨#[]⟩)).setCell ⟨w.heap.size, 9, none⟩ (.string ⟨#[]⟩)) = Zx := ⟨_, rfl⟩
      rw [hZ] at hE
      rw [hZ]
      exact bodyPost_ret (res_step rfl _ _ w.heap.size 47 _ (0, 0) _ rfl hE.1 Tryz.underlying47 rfl info45) rfl (show RpO A w _ _ by rw [HAq.out]; exact ⟨_, _, _, _, rfl, d9_own _ _ _ rfl rfl rfl rfl, hE.2⟩)
  · have HA2 : Hid ((if sr.2 = 0 then (d, 0) else (SL.zero, sr.2)) = A) := by
      show _ = _
      rw [← HA.out, if_neg hnt]
    cases WL with
    | nil => exact absurd (.inl rfl) hnt
    | cons y0 L =>
    have hy : ¬ y0 = [42] := fun e => hnt (.inr (by rw [e]; rfl))
    obtain ⟨ra, rc, h1, _, _, h4⟩ := HR.out.o
    obtain ⟨g, off, q1, q2, q3, q4⟩ := h4 (by simp)
    have h0 := cell_of h1 0
    rw [c0] at h0
    have h00 : (Value.slice a (y0 :: L).length c) = .slice ra (y0 :: L).length rc := by simpa using h0
    obtain ⟨h01, _, h02⟩ := Value.slice.inj h00
    subst h02
    rw [← h01] at q1
    subst q1
    have cx : V.cell? ⟨g, off, none⟩ = some (.string (txtOf y0)) := q4 0 y0 rfl
    have ey := txt_eq y0 [42]
    rw [decide_eq_false hy] at ey
    simp only [List.length_cons] at c0 hV
    have hL0 : (((L.length : Nat) : Int) + 1 == 0) = false := by simpa using (by omega : ¬ ((L.length : Int) + 1 = 0))
    have HT := rtake_any (B := w1.heap.size) V HR.out (Nat.le_refl _)
    rw [HTk.out] at HT
    have HT2 : Hid (Calls Tryz.prog 13 #[.pointer (some ⟨w1.heap.size, 0, none⟩)] V (LR w1.heap.size w1.heap.size w1.heap.size (.tuple #[.string (txtOf y), .bool tt]) s1 V)) := HT
    have hs1 : s1.1.length ≤ 9000000 := by
      have := (takeR_len1 (y0 :: L, 0)).1
      rw [HTk.out] at this
      exact Nat.le_trans this hWl
    clear h1 h4 q2 q3 q4 h0 h00 h01 hy hnt HT
    go_wp2_with fail
    refine calls_at HT2.out (by with_reducible rfl) (by with_reducible rfl) ?_
    rintro e w2 ⟨rfl, q1, q2⟩
    have HR2 : Hid (RrAt w1.heap.size w2 w1.heap.size s1) := q1
    have HP2 : Hid (SStp w1.heap.size (fun k => k = w1.heap.size) V w2) := q2
    have HS := rstep_any (B := w1.heap.size) y w2 q1 (Nat.le_refl _) hs1
    rw [HSt.out] at HS
    have HS3 : Hid (Calls Tryz.prog 14 #[.pointer (some ⟨w1.heap.size, 0, none⟩), .string (txtOf y)] w2 (QeOut w1.heap.size w1.heap.size w1.heap.size w2 (d, sd))) := HS
    clear q1 q2 HT2 HS c0 cx ey
    go_wp2_with fail
    refine calls_at HS3.out (by with_reducible rfl) (by with_reducible rfl) ?_
    rintro e w3 ⟨vo, vp, vl, vi, rfl, o1, q1, q2⟩
    obtain ⟨oa, oc, pa, pc, la, lc, ia, ic, rfl, rfl, rfl, rfl⟩ := own_ten o1
    obtain ⟨V3, hV3⟩ : ∃ V, w3.alloc (.cells (slC d (.slice oa d.ops.length oc) (.slice pa d.pcs.length pc) (.slice la d.lits.length lc) (.slice ia d.ids.length ic)) 47) = V := ⟨_, rfl⟩
    have hb3 : Below w3.heap.size w3 V3 := by rw [← hV3]; exact (Below.refl _ _).alloc (Nat.le_refl _) _
    have g3 : V3.heap[w3.heap.size]? = some (.cells (slC d (.slice oa d.ops.length oc) (.slice pa d.pcs.length pc) (.slice la d.lits.length lc) (.slice ia d.ids.length ic)) 47 (0, 0)) := by rw [← hV3]; exact heap_alloc_new w3 _
    have hz2 : w1.heap.size ≤ w2.heap.size := Nat.le_trans HBV0 HP2.out.off.size
    have HR3 : Hid (RrAt w1.heap.size V3 w1.heap.size sd) := q1.below hb3
    have HP3 : Hid (SStp w1.heap.size (fun k => k = w1.heap.size) V V3) := (HP2.out.trans q2).next hb3 (Nat.le_trans hz2 q2.off.size)
    have HO3 : Hid (SlOwn w2.heap.size V3 d (.slice oa d.ops.length oc) (.slice pa d.pcs.length pc) (.slice la d.lits.length lc) (.slice ia d.ids.length ic)) := o1.keep fun g _ h4 => hb3.block g h4
    have HG3 : Hid (V3.heap[w3.heap.size]? = some (.cells (slC d (.slice oa d.ops.length oc) (.slice pa d.pcs.length pc) (.slice la d.lits.length lc) (.slice ia d.ids.length ic)) 47 (0, 0)) ∧ w1.heap.size < w3.heap.size) := ⟨g3, q1.lt⟩
    have hV3' : w3.alloc (.cells #[.int .i64 d.k, .string (txtOf d.n), .slice oa d.ops.length oc, .slice pa d.pcs.length pc, .string (txtOf d.deg), .slice la d.lits.length lc, .slice ia d.ids.length ic, .int .i64 d.ends, .string (txtOf d.low), .string (txtOf d.high)] 47) = V3 := hV3
    have HRs := rrest_any (B := w1.heap.size) V3 HR3.out (Nat.le_refl _)
    rw [HRe.out] at HRs
    have HRs2 : Hid (Calls Tryz.prog 15 #[.pointer (some ⟨w1.heap.size, 0, none⟩)] V3 (LR w1.heap.size w1.heap.size w1.heap.size (.tuple #[]) sr V3)) := HRs
    clear hV3 hb3 g3 o1 q1 q2 HRs HS3
    simp only [slC]
    go_wp2_with fail
    try rw [hV3']
    refine calls_at HRs2.out (by with_reducible rfl) (by with_reducible rfl) ?_
    rintro e w4 ⟨rfl, q1, q2⟩
    have HP4 : Hid (SStp w1.heap.size (fun k => k = w1.heap.size) V w4) := HP3.out.trans q2
    have hw12 : w1.heap.size < w2.heap.size := HR2.out.lt
    have HO4 : Hid (SlOwn w2.heap.size w4 d (.slice oa d.ops.length oc) (.slice pa d.pcs.length pc) (.slice la d.lits.length lc) (.slice ia d.ids.length ic)) := HO3.out.keep fun g h3 h4 => q2.off.block g h4 (by omega)
    have g4 : w4.heap[w3.heap.size]? = some (.cells (slC d (.slice oa d.ops.length oc) (.slice pa d.pcs.length pc) (.slice la d.lits.length lc) (.slice ia d.ids.length ic)) 47 (0, 0)) := (q2.off.block _ (Array.getElem?_eq_some_iff.1 HG3.out.1).1 (by have := HG3.out.2; omega)).trans HG3.out.1
    obtain ⟨xa, xc, g5, _⟩ := id q1.o
    have ce : w4.cell? ⟨w1.heap.size, 1, none⟩ = some (.int .i64 sr.2) := cell_of g5 1
    have HR4 : Hid (RrAt w1.heap.size w4 w1.heap.size sr) := q1
    have HS4 : Hid (StAt w4 w.heap.size cs0) := ⟨(HP4.out.off.block _ HS2.out.lt (by have := HSz.out; have := HL2.out; omega)).trans HS2.out.o, rfl⟩
    have HB4 : Hid (Below w.heap.size w w4) := (bl_next HB1.out HBV.out).trans (HP4.out.below.mono (by have := HSz.out; have := HL2.out; omega))
    have HL4 : Hid (w.heap.size < w2.heap.size) := by have := HSz.out; have := HL2.out; show _ < _; omega
    have s0 : w4.cell? ⟨w.heap.size, 0, none⟩ = some (.int .i64 0) := cell_of HS4.out.o 0
    have s1 : w4.cell? ⟨w.heap.size, 1, none⟩ = some (.string ⟨#[]⟩) := cell_of HS4.out.o 1
    have s2 : w4.cell? ⟨w.heap.size, 2, none⟩ = some (.slice none 0 0) := cell_of HS4.out.o 2
    have s3 : w4.cell? ⟨w.heap.size, 3, none⟩ = some (.slice none 0 0) := cell_of HS4.out.o 3
    have s4 : w4.cell? ⟨w.heap.size, 4, none⟩ = some (.string ⟨#[]⟩) := cell_of HS4.out.o 4
    have s5 : w4.cell? ⟨w.heap.size, 5, none⟩ = some (.slice none 0 0) := cell_of HS4.out.o 5
    have s6 : w4.cell? ⟨w.heap.size, 6, none⟩ = some (.slice none 0 0) := cell_of HS4.out.o 6
    have s7 : w4.cell? ⟨w.heap.size, 7, none⟩ = some (.int .i64 0) := cell_of HS4.out.o 7
    have s8 : w4.cell? ⟨w.heap.size, 8, none⟩ = some (.string ⟨#[]⟩) := cell_of HS4.out.o 8
    have s9 : w4.cell? ⟨w.heap.size, 9, none⟩ = some (.string ⟨#[]⟩) := cell_of HS4.out.o 9
    have z4 := frozen_of HS4.out.o
    have HG4 : Hid (w4.heap[w3.heap.size]? = some (.cells (slC d (.slice oa d.ops.length oc) (.slice pa d.pcs.length pc) (.slice la d.lits.length lc) (.slice ia d.ids.length ic)) 47 (0, 0))) := g4
    clear q1 q2 g4 g5 HRs2 hV3'
    by_cases hz : sr.2 = 0
    · have HAq : Hid (A = (d, 0)) := by
        show _ = _
        rw [← HA2.out, if_pos hz]
      rw [hz] at ce
      have q0 : w4.cell? ⟨w3.heap.size, 0, none⟩ = some (.int .i64 d.k) := cell_of HG4.out 0
      have q1 : w4.cell? ⟨w3.heap.size, 1, none⟩ = some (.string (txtOf d.n)) := cell_of HG4.out 1
      have q2 : w4.cell? ⟨w3.heap.size, 2, none⟩ = some (.slice oa d.ops.length oc) := cell_of HG4.out 2
      have q3 : w4.cell? ⟨w3.heap.size, 3, none⟩ = some (.slice pa d.pcs.length pc) := cell_of HG4.out 3
      have q4 : w4.cell? ⟨w3.heap.size, 4, none⟩ = some (.string (txtOf d.deg)) := cell_of HG4.out 4
      have q5 : w4.cell? ⟨w3.heap.size, 5, none⟩ = some (.slice la d.lits.length lc) := cell_of HG4.out 5
      have q6 : w4.cell? ⟨w3.heap.size, 6, none⟩ = some (.slice ia d.ids.length ic) := cell_of HG4.out 6
      have q7 : w4.cell? ⟨w3.heap.size, 7, none⟩ = some (.int .i64 d.ends) := cell_of HG4.out 7
      have q8 : w4.cell? ⟨w3.heap.size, 8, none⟩ = some (.string (txtOf d.low)) := cell_of HG4.out 8
      have q9 : w4.cell? ⟨w3.heap.size, 9, none⟩ = some (.string (txtOf d.high)) := cell_of HG4.out 9
      have HE : Hid (RpGood w d (.slice oa d.ops.length oc) (.slice pa d.pcs.length pc) (.slice la d.lits.length lc) (.slice ia d.ids.length ic) ((((((((((w4.setCell ⟨w.heap.size, 0, none⟩ (.int .i64 d.k)).setCell ⟨w.heap.size, 1, none⟩ (.string (txtOf d.n))).setCell ⟨w.heap.size, 2, none⟩ (.slice oa d.ops.length oc)).setCell ⟨w.heap.size, 3, none⟩ (.slice pa d.pcs.length pc)).setCell ⟨w.heap.size, 4, none⟩ (.string (txtOf d.deg))).setCell ⟨w.heap.size, 5, none⟩ (.slice la d.lits.length lc)).setCell ⟨w.heap.size, 6, none⟩ (.slice ia d.ids.length ic)).setCell ⟨w.heap.size, 7, none⟩ (.int .i64 d.ends)).setCell ⟨w.heap.size, 8, none⟩ (.string (txtOf d.low))).setCell ⟨w.heap.size, 9, none⟩ (.string (txtOf d.high)))) := ⟨(set10 HS4.out (.int .i64 d.k) (.string (txtOf d.n)) (.slice oa d.ops.length oc) (.slice pa d.pcs.length pc) (.string (txtOf d.deg)) (.slice la d.lits.length lc) (.slice ia d.ids.length ic) (.int .i64 d.ends) (.string (txtOf d.low)) (.string (txtOf d.high))).o, (HO4.out.keep (fun g h3 _ => ne10 (by have := HL4.out; omega) _ _ _ _ _ _ _ _ _ _)).less HL4.out, bl10 HB4.out (Nat.le_refl _) (.int .i64 d.k) (.string (txtOf d.n)) (.slice oa d.ops.length oc) (.slice pa d.pcs.length pc) (.string (txtOf d.deg)) (.slice la d.lits.length lc) (.slice ia d.ids.length ic) (.int .i64 d.ends) (.string (txtOf d.low)) (.string (txtOf d.high))⟩
      clear hz
      go_wp2_with fail
      have hE := HE.out
      obtain ⟨ZW, hZ⟩ : ∃ Zx, ((((((((((w4.setCell ⟨w.heap.size, 0, none⟩ (.int .i64 d.k)).setCell ⟨w.heap.size, 1, none⟩ (.string (txtOf d.n))).setCell ⟨w.heap.size, 2, none⟩ (.slice oa d.ops.length oc)).setCell ⟨w.heap.size, 3, none⟩ (.slice pa d.pcs.length pc)).setCell ⟨w.heap.size, 4, none⟩ (.string (txtOf d.deg))).setCell ⟨w.heap.size, 5, none⟩ (.slice la d.lits.length lc)).setCell ⟨w.heap.size, 6, none⟩ (.slice ia d.ids.length ic)).setCell ⟨w.heap.size, 7, none⟩ (.int .i64 d.ends)).setCell ⟨w.heap.size, 8, none⟩ (.string (txtOf d.low))).setCell ⟨w.heap.size, 9, none⟩ (.string (txtOf d.high))) = Zx := ⟨_, rfl⟩
      rw [hZ] at hE
      rw [hZ]
      exact bodyPost_ret (res_step rfl _ _ w.heap.size 47 _ (0, 0) _ rfl hE.1 Tryz.underlying47 rfl info45) rfl (show RpO A w _ _ by rw [HAq.out]; exact ⟨_, _, _, _, rfl, hE.2.1.less (Nat.le_succ _), hE.2.2⟩)
    · have HAq : Hid (A = (SL.zero, sr.2)) := by
        show _ = _
        rw [← HA2.out, if_neg hz]
      obtain ⟨ee, hee⟩ : ∃ q, sr.2 = q := ⟨_, rfl⟩
      rw [hee] at ce hz HAq
      have hz1 : (ee == 0) = false := by simpa using hz
      have HE : Hid (RpGood w SL.zero (.slice none 0 0) (.slice none 0 0) (.slice none 0 0) (.slice none 0 0) ((((((((((w4.setCell ⟨w.heap.size, 0, none⟩ (.int .i64 0)).setCell ⟨w.heap.size, 1, none⟩ (.string ⟨#[]⟩)).setCell ⟨w.heap.size, 2, none⟩ (.slice none 0 0)).setCell ⟨w.heap.size, 3, none⟩ (.slice none 0 0)).setCell ⟨w.heap.size, 4, none⟩ (.string ⟨#[]⟩)).setCell ⟨w.heap.size, 5, none⟩ (.slice none 0 0)).setCell ⟨w.heap.size, 6, none⟩ (.slice none 0 0)).setCell ⟨w.heap.size, 7, none⟩ (.int .i64 0)).setCell ⟨w.heap.size, 8, none⟩ (.string ⟨#[]⟩)).setCell ⟨w.heap.size, 9, none⟩ (.string ⟨#[]⟩))) := ⟨(set10 HS4.out (.int .i64 0) (.string ⟨#[]⟩) (.slice none 0 0) (.slice none 0 0) (.string ⟨#[]⟩) (.slice none 0 0) (.slice none 0 0) (.int .i64 0) (.string ⟨#[]⟩) (.string ⟨#[]⟩)).o, d9_own _ _ _ rfl rfl rfl rfl, bl10 HB4.out (Nat.le_refl _) (.int .i64 0) (.string ⟨#[]⟩) (.slice none 0 0) (.slice none 0 0) (.string ⟨#[]⟩) (.slice none 0 0) (.slice none 0 0) (.int .i64 0) (.string ⟨#[]⟩) (.string ⟨#[]⟩)⟩
      clear hz hee
      have hlt1 : w.heap.size < w1.heap.size := by have := HSz.out; have := HL2.out; omega
      have hne1 : ¬ w1.heap.size = w.heap.size := by omega
      go_wp2_with fail
      go_region
      go_wp2_with fail
      have hE := HE.out
      obtain ⟨ZW, hZ⟩ : ∃ Zx, ((((((((((w4.setCell ⟨w.heap.size, 0, none⟩ (.int .i64 0)).setCell ⟨w.heap.size, 1, none⟩ (.string ⟨#[]⟩)).setCell ⟨w.heap.size, 2, none⟩ (.slice none 0 0)).setCell ⟨w.heap.size, 3, none⟩ (.slice none 0 0)).setCell ⟨w.heap.size, 4, none⟩ (.string ⟨#[]⟩)).setCell ⟨w.heap.size, 5, none⟩ (.slice none 0 0)).setCell ⟨w.heap.size, 6, none⟩ (.slice none 0 0)).setCell ⟨w.heap.size, 7, none⟩ (.int .i64 0)).setCell ⟨w.heap.size, 8, none⟩ (.string ⟨#[]⟩)).setCell ⟨w.heap.size, 9, none⟩ (.string ⟨#[]⟩)) = Zx := ⟨_, rfl⟩
      rw [hZ] at hE
      rw [hZ]
      have hE2 : ZW.drew.heap[w.heap.size]? = some (.cells (slC SL.zero (.slice none 0 0) (.slice none 0 0) (.slice none 0 0) (.slice none 0 0)) 47 (0, 0)) := hE.1
      exact bodyPost_ret (res_step rfl _ _ w.heap.size 47 _ (0, 0) _ rfl hE2 Tryz.underlying47 rfl info45) rfl (show RpO A w _ _ by rw [HAq.out]; exact ⟨_, _, _, _, rfl, d9_own _ _ _ rfl rfl rfl rfl, hE.2.2.drew⟩)
end Go.Proofs.YtgckmkdmlaocmaaGreatDoor

namespace Go.Proofs.YtgckmkdmlaocmaaGreatDoor
open Go.RowKit

/-- Both have the same words left, or the same fault. -/
def Sim (s : Ls) (t : RS) : Prop := (s.2 = none ∧ t.2 = 0 ∧ Tk s.1 t.1) ∨ (∃ e, e ≠ 0 ∧ s.2 = some e ∧ t.2 = e)
theorem Sim.bad {s : Ls} {t : RS} {e : Int} (he : e ≠ 0) (h1 : s.2 = some e) (h2 : t.2 = e) : Sim s t := .inr ⟨e, he, h1, h2⟩
theorem Sim.isBad {s : Ls} {t : RS} (h : Sim s t) (ht : t.2 ≠ 0) : s.2.isSome = true := by
  rcases h with ⟨_, h2, _⟩ | ⟨e, _, h2, _⟩
  · exact absurd h2 ht
  · rw [h2]; rfl
theorem Sim.isOk {s : Ls} {t : RS} (h : Sim s t) (ht : t.2 = 0) : s.2 = none ∧ Tk s.1 t.1 := by
  rcases h with ⟨h1, _, h3⟩ | ⟨e, he, _, h3⟩
  · exact ⟨h1, h3⟩
  · exact absurd (h3.symm.trans ht) he
theorem failR_bad {e : Int} {t : RS} (h : t.2 ≠ 0) : failR e t = t := by unfold failR; rw [if_neg h]
theorem failR_ok {e : Int} {t : RS} (h : t.2 = 0) : failR e t = (t.1, e) := by unfold failR; rw [if_pos h]
theorem takeR_bad {t : RS} (h : t.2 ≠ 0) : takeR t = (([], false), t) := by unfold takeR; rw [if_neg h]
theorem takeR_nil : takeR ([], 0) = (([], false), ([], 82)) := rfl
theorem takeR_cons (x : List UInt8) (L : List (List UInt8)) : takeR (x :: L, 0) = ((x, true), (L, 0)) := rfl
theorem sim_fail {s : Ls} {t : RS} (h : Sim s t) {e : Int} (he : e ≠ 0) : Sim (failP e s) (failR e t) := by
  rcases h with ⟨h1, h2, h3⟩ | ⟨e', he', h1, h2⟩
  · rw [failR_ok h2]
    refine .bad he ?_ rfl
    unfold failP
    rw [h1]
  · rw [failR_bad (by rw [h2]; exact he'), fail_bad (by rw [h1]; rfl)]
    exact .bad he' h1 h2
theorem sim_next {s : Ls} {t : RS} (h : Sim s t) : (nextP s).1 = (takeR t).1.1 ∧ Sim (nextP s).2 (takeR t).2 := by
  rcases h with ⟨h1, h2, h3⟩ | ⟨e', he', h1, h2⟩
  · obtain ⟨r, o⟩ := s
    obtain ⟨L, f⟩ := t
    have e1 : o = none := h1
    have e2 : f = 0 := h2
    subst e1 e2
    cases L with
    | nil =>
      have hs := tk_stop h3
      unfold nextP
      rw [hs, takeR_nil]
      exact ⟨rfl, .bad (by decide) rfl rfl⟩
    | cons x L =>
      obtain ⟨r', h4, h5⟩ := tk_next h3
      rw [h4, takeR_cons]
      exact ⟨rfl, .inl ⟨rfl, rfl, h5⟩⟩
  · rw [takeR_bad (by rw [h2]; exact he'), next_bad (by rw [h1]; rfl)]
    exact ⟨rfl, .bad he' h1 h2⟩
theorem take_flag (t : RS) : ((takeR t).1.2 = true ∧ (takeR t).2.2 = 0) ∨ ((takeR t).1.2 = false ∧ (takeR t).2.2 ≠ 0 ∧ (takeR t).1.1 = []) := by
  obtain ⟨L, f⟩ := t
  by_cases h : f = 0
  · subst h
    cases L with
    | nil => exact .inr ⟨rfl, by rw [takeR_nil]; decide, rfl⟩
    | cons x L => exact .inl ⟨rfl, rfl⟩
  · rw [takeR_bad h]
    exact .inr ⟨rfl, h, rfl⟩
theorem sim_must {s : Ls} {t : RS} (h : Sim s t) {x : List UInt8} (hx : x ≠ []) : Sim (mustP x s) (oneR x t) := by
  obtain ⟨h1, h2⟩ := sim_next h
  unfold mustP oneR
  rw [h1]
  rcases take_flag t with ⟨f1, f2⟩ | ⟨f1, f2, f3⟩
  · rw [f1]
    by_cases hq : (takeR t).1.1 = x
    · rw [if_pos hq, if_neg (fun e => e.2 hq)]; exact h2
    · rw [if_neg hq, if_pos ⟨rfl, hq⟩]; exact sim_fail h2 (by decide)
  · rw [f1, f3, if_neg (fun e => hx e.symm), if_neg (fun e => by cases e.1)]
    rw [fail_bad (h2.isBad f2)]
    exact h2
theorem sim_num {s : Ls} {t : RS} (h : Sim s t) (g : Int) : Sim (wholeP (nextP s).1 g (nextP s).2) (numR g t).2 ∧ ((numR g t).2.2 = 0 → (numR g t).1 = (nextP s).1) := by
  obtain ⟨h1, h2⟩ := sim_next h
  rcases take_flag t with ⟨f1, f2⟩ | ⟨f1, f2, f3⟩
  · unfold wholeP numR
    rw [h1, if_pos f1]
    by_cases hq : badN (takeR t).1.1 g = true
    · rw [if_pos hq, if_pos hq]; exact ⟨sim_fail h2 (by decide), fun e => absurd e (failR_ne (by decide))⟩
    · rw [if_neg hq, if_neg hq]; exact ⟨h2, fun _ => rfl⟩
  · have eN : numR g t = ([], (takeR t).2) := by unfold numR; rw [if_neg (by rw [f1]; simp)]
    rw [eN, whole_bad (h2.isBad f2)]
    exact ⟨h2, fun e => absurd e f2⟩
theorem litR_zero (x : List UInt8) : litR x = 0 ↔ (litP x).2 = false := by
  unfold litR
  cases h : (litP x).2 with
  | true =>
    obtain ⟨ds, _, h1, _, h4 | h4⟩ := lit_word h
    · rw [h4.2]; constructor
      · intro e; omega
      · intro e; cases e
    · rw [h4.2]; constructor
      · intro e; omega
      · intro e; cases e
  | false =>
    refine ⟨fun _ => rfl, fun _ => ?_⟩
    unfold litP at h ⊢
    split at h
    · split at h
      · cases h
      · rename_i h1 h2; rw [if_pos h1, if_neg h2]
    · rename_i h1; rw [if_neg h1]
theorem sim_lit {s : Ls} {t : RS} (h : Sim s t) : Sim (literalP (nextP s).1 (nextP s).2) (lirR t).2 ∧ ((lirR t).2.2 = 0 → (lirR t).1 = (litP (nextP s).1).1) := by
  obtain ⟨h1, h2⟩ := sim_next h
  rcases take_flag t with ⟨f1, f2⟩ | ⟨f1, f2, f3⟩
  · unfold literalP lirR
    rw [h1, if_pos f1]
    dsimp only
    by_cases hq : litR (takeR t).1.1 = 0
    · rw [if_pos hq, if_neg (by rw [(litR_zero _).1 hq]; simp)]; exact ⟨sim_fail h2 (by decide), fun e => absurd e (failR_ne (by decide))⟩
    · rw [if_neg hq, if_pos (by cases hp : (litP (takeR t).1.1).2 with | true => rfl | false => exact absurd ((litR_zero _).2 hp) hq)]; exact ⟨h2, fun _ => rfl⟩
  · have eN : lirR t = (0, (takeR t).2) := by unfold lirR; rw [if_neg (by rw [f1]; simp)]
    rw [eN, literal_bad (h2.isBad f2)]
    exact ⟨h2, fun e => absurd e f2⟩
/-- The words of a text. -/
theorem wrds_pre : ∀ (x cur : List UInt8), cur ≠ [] → wrds x cur = (cur ++ x.takeWhile fun c => !blk c) :: wrds (x.dropWhile fun c => !blk c) [] := by
  intro x
  induction x with
  | nil => intro cur h; simp [wrds, h]
  | cons c t ih =>
    intro cur h
    by_cases hb : blk c = true
    · simp [wrds, hb, h]
    · have hb' : blk c = false := by simpa using hb
      simp only [wrds, hb']
      rw [show (if false = true then (if cur = [] then wrds t [] else cur :: wrds t []) else wrds t (cur ++ [c])) = wrds t (cur ++ [c]) from rfl, ih _ (by simp)]
      simp [hb']
theorem wrds_drop : ∀ x : List UInt8, wrds x [] = wrds (x.dropWhile blk) [] := by
  intro x
  induction x with
  | nil => rfl
  | cons c t ih =>
    by_cases hb : blk c = true
    · simp [wrds, hb, ih]
    · simp [hb]
theorem tk_wrds : ∀ (n : Nat) (x : List UInt8), x.length ≤ n → Tk x (wrds x []) := by
  intro n
  induction n with
  | zero =>
    intro x hx
    have : x = [] := List.length_eq_zero_iff.1 (by omega)
    subst this
    rfl
  | succ n ih =>
    intro x hx
    rw [wrds_drop]
    cases hq : x.dropWhile blk with
    | nil => exact hq
    | cons c t =>
      have hb : blk c = false := by
        have := List.head_dropWhile_not (p := blk) (l := x) (by rw [hq]; simp)
        simpa [hq] using this
      have hlen : t.length ≤ n := by have := drop_le x; rw [hq] at this; simp at this; omega
      have e1 : wrds (c :: t) [] = ([c] ++ t.takeWhile fun c => !blk c) :: wrds (t.dropWhile fun c => !blk c) [] := by
        have : wrds (c :: t) [] = wrds t [c] := by simp [wrds, hb]
        rw [this, wrds_pre t [c] (by simp)]
      rw [e1]
      refine ⟨by rw [hq]; simp, ?_, ?_⟩
      · rw [hq, takeW]; simp [hb]
      · rw [hq, dropW]
        have e2 : (c :: t).dropWhile (fun c => !blk c) = t.dropWhile fun c => !blk c := by simp [hb]
        rw [e2]
        exact ih _ (Nat.le_trans (List.dropWhile_sublist _).length_le hlen)
theorem sim_start (x : List UInt8) : Sim (x, none) (wrds x [], 0) := .inl ⟨rfl, rfl, tk_wrds x.length x (Nat.le_refl _)⟩
end Go.Proofs.YtgckmkdmlaocmaaGreatDoor

namespace Go.Proofs.YtgckmkdmlaocmaaGreatDoor
open Go.RowKit

theorem more_cons (x : List UInt8) (L : List (List UInt8)) : moreR (x :: L, 0) = true := by simp [moreR]
theorem more_nil : moreR ([], 0) = false := by simp [moreR]
theorem more_bad {t : RS} (h : t.2 ≠ 0) : moreR t = false := by simp [moreR, h]
theorem llR_bad {α : Type} {f : RS → α × RS} {n : Nat} {A : List α} {t : RS} (h : t.2 ≠ 0) : llR f n A t = (A, t) := by
  cases n with
  | zero => rfl
  | succ n => unfold llR; rw [if_neg (by rw [more_bad h]; simp)]
theorem sim_lst {α : Type} {rd : List UInt8 → Ls → Ls} {f : RS → α × RS} {val : List UInt8 → α}
    (hone : ∀ x L, (f (x :: L, 0)).2.2 = 0 → (f (x :: L, 0)).2.1 = L)
    (hf : ∀ s t, Sim s t → Sim (rd (nextP s).1 (nextP s).2) (f t).2 ∧ ((f t).2.2 = 0 → (f t).1 = val (nextP s).1)) :
    ∀ (L : List (List UInt8)) (n m : Nat) (A : List α) (r : List UInt8), Tk r L → L.length < n → L.length < m → Sim (lstP rd n (r, none)).2 (llR f m A (L, 0)).2 ∧ ((llR f m A (L, 0)).2.2 = 0 → (llR f m A (L, 0)).1 = A ++ (lstP rd n (r, none)).1.map val) := by
  intro L
  induction L with
  | nil =>
    intro n m A r h hn hm
    obtain ⟨n, rfl⟩ : ∃ k, n = k + 1 := ⟨n - 1, by omega⟩
    obtain ⟨m, rfl⟩ : ∃ k, m = k + 1 := ⟨m - 1, by omega⟩
    unfold lstP llR
    rw [tk_stop h, if_neg (by simp), if_neg (by rw [more_nil]; simp)]
    exact ⟨.inl ⟨rfl, rfl, h⟩, fun _ => by simp⟩
  | cons x L ih =>
    intro n m A r h hn hm
    obtain ⟨n, rfl⟩ : ∃ k, n = k + 1 := ⟨n - 1, by omega⟩
    obtain ⟨m, rfl⟩ : ∃ k, m = k + 1 := ⟨m - 1, by omega⟩
    obtain ⟨r', h1, h2⟩ := tk_take h
    have e2 : nextP (r, none) = (x, (r', none)) := by unfold nextP; rw [h1]; rfl
    have hS := hf (r, none) (x :: L, 0) (.inl ⟨rfl, rfl, h⟩)
    rw [e2] at hS
    simp only at hS
    unfold lstP llR
    rw [h1, if_pos rfl, if_pos (more_cons x L)]
    simp only
    have hO := hone x L
    obtain ⟨p, hp⟩ : ∃ p, f (x :: L, 0) = p := ⟨_, rfl⟩
    rw [hp] at hS hO ⊢
    obtain ⟨u, t'⟩ := p
    simp only at hS hO ⊢
    by_cases ht : t'.2 = 0
    · obtain ⟨k1, k2⟩ := hS.1.isOk ht
      obtain ⟨r3, o3⟩ : ∃ q, rd x (r', none) = q := ⟨_, rfl⟩
      rw [o3] at k1 k2 ⊢
      obtain ⟨ra, rb⟩ := r3
      have e5 : rb = none := k1
      subst e5
      have e6 := hO ht
      obtain ⟨tl, te⟩ := t'
      simp only at ht e6 k2
      subst ht e6
      obtain ⟨i1, i2⟩ := ih n m (A ++ [u]) ra k2 (by simp at hn; omega) (by simp at hm; omega)
      refine ⟨i1, fun e => ?_⟩
      rw [i2 e, hS.2 rfl]
      simp
    · rw [llR_bad ht]
      refine ⟨?_, fun e => absurd e ht⟩
      rw [lst_bad (hS.1.isBad ht)]
      exact hS.1
theorem num_one (g : Int) (x : List UInt8) (L : List (List UInt8)) (h : (numR g (x :: L, 0)).2.2 = 0) : (numR g (x :: L, 0)).2.1 = L := by
  unfold numR at h ⊢
  rw [takeR_cons, if_pos rfl] at h ⊢
  split at h
  · exact absurd h (failR_ne (by decide))
  · rename_i h1; rw [if_neg h1]
theorem lir_one (x : List UInt8) (L : List (List UInt8)) (h : (lirR (x :: L, 0)).2.2 = 0) : (lirR (x :: L, 0)).2.1 = L := by
  unfold lirR at h ⊢
  rw [takeR_cons, if_pos rfl] at h ⊢
  dsimp only at h ⊢
  split at h
  · exact absurd h (failR_ne (by decide))
  · rename_i h1; rw [if_neg h1]
theorem sim_ids {s : Ls} {t : RS} (h : Sim s t) (A : List (List UInt8)) : Sim (idsP s).2 (llR (numR 1) (t.1.length + 1) A t).2 ∧ ((llR (numR 1) (t.1.length + 1) A t).2.2 = 0 → (llR (numR 1) (t.1.length + 1) A t).1 = A ++ (idsP s).1) := by
  rcases h with ⟨h1, h2, h3⟩ | ⟨e, he, h1, h2⟩
  · obtain ⟨r, o⟩ := s
    obtain ⟨L, f⟩ := t
    have e1 : o = none := h1
    have e2 : f = 0 := h2
    subst e1 e2
    have hc : L.length ≤ r.length := tk_count h3
    have := sim_lst (rd := fun x s => wholeP x 1 s) (f := numR 1) (val := id) (num_one 1) (fun s t h => ⟨(sim_num h 1).1, (sim_num h 1).2⟩) L (r.length + 1) (L.length + 1) A r h3 (by omega) (by omega)
    rw [List.map_id] at this
    exact this
  · have ht : t.2 ≠ 0 := by rw [h2]; exact he
    rw [llR_bad ht]
    unfold idsP
    rw [list_bad (by rw [h1]; rfl)]
    exact ⟨.bad he h1 h2, fun e => absurd e ht⟩
theorem sim_lits {s : Ls} {t : RS} (h : Sim s t) : Sim (listP literalP s).2 (llR lirR (t.1.length + 1) [] t).2 ∧ ((llR lirR (t.1.length + 1) [] t).2.2 = 0 → (llR lirR (t.1.length + 1) [] t).1 = (listP literalP s).1.map fun x => (litP x).1) := by
  rcases h with ⟨h1, h2, h3⟩ | ⟨e, he, h1, h2⟩
  · obtain ⟨r, o⟩ := s
    obtain ⟨L, f⟩ := t
    have e1 : o = none := h1
    have e2 : f = 0 := h2
    subst e1 e2
    have hc : L.length ≤ r.length := tk_count h3
    exact sim_lst (rd := literalP) (f := lirR) (val := fun x => (litP x).1) lir_one (fun s t h => ⟨(sim_lit h).1, (sim_lit h).2⟩) L (r.length + 1) (L.length + 1) [] r h3 (by omega) (by omega)
  · have ht : t.2 ≠ 0 := by rw [h2]; exact he
    rw [llR_bad ht, list_bad (by rw [h1]; rfl)]
    exact ⟨.bad he h1 h2, fun e => absurd e ht⟩
/-- Rows. -/
theorem lrow_bad {n : Nat} {P : List PcL} {t : RS} (h : t.2 ≠ 0) : lrowR n P t = (P, t) := by
  cases n with
  | zero => rfl
  | succ n => unfold lrowR; rw [if_neg (fun e => h e.1)]
theorem one_bad {x : List UInt8} {t : RS} (h : t.2 ≠ 0) : oneR x t = t := by
  unfold oneR; rw [takeR_bad h, if_neg (fun e => by cases e.1)]
theorem num_bad {g : Int} {t : RS} (h : t.2 ≠ 0) : numR g t = ([], t) := by
  unfold numR; rw [takeR_bad h, if_neg (by simp)]
theorem lir_bad {t : RS} (h : t.2 ≠ 0) : lirR t = (0, t) := by
  unfold lirR; rw [takeR_bad h, if_neg (by simp)]
theorem sim_lrow : ∀ (k : Nat) (L : List (List UInt8)) (n m : Nat) (P : List PcL) (r : List UInt8), L.length ≤ k → Tk r L → L.length + 1 < n → L.length + 1 < m → Sim (rowL n (nextP (r, none)).1 (nextP (r, none)).2).2 (oneR [62, 61] (lrowR m P (L, 0)).2) ∧ ((oneR [62, 61] (lrowR m P (L, 0)).2).2 = 0 → (lrowR m P (L, 0)).1 = P ++ (rowL n (nextP (r, none)).1 (nextP (r, none)).2).1) := by
  intro k
  induction k with
  | zero =>
    intro L n m P r hk h hn hm
    have : L = [] := List.length_eq_zero_iff.1 (by omega)
    subst this
    obtain ⟨n, rfl⟩ : ∃ q, n = q + 1 := ⟨n - 1, by omega⟩
    obtain ⟨m, rfl⟩ : ∃ q, m = q + 1 := ⟨m - 1, by omega⟩
    have hS := (sim_next (s := (r, none)) (t := ([], 0)) (.inl ⟨rfl, rfl, h⟩)).2
    have hb : (nextP (r, none)).2.2.isSome = true := next_end h
    rw [row_bad hb]
    unfold lrowR
    rw [if_pos ⟨rfl, by rfl⟩]
    have e1 : numR (-1) (([] : List (List UInt8)), (0 : Int)) = ([], ([], 82)) := rfl
    rw [e1, lir_bad (show (82 : Int) ≠ 0 by decide), lrow_bad (show (82 : Int) ≠ 0 by decide), one_bad (show (82 : Int) ≠ 0 by decide)]
    exact ⟨hS, fun e => by cases e⟩
  | succ k ih =>
    intro L n m P r hk h hn hm
    cases L with
    | nil => exact ih [] n m P r (by simp) h hn hm
    | cons x L =>
      obtain ⟨n, rfl⟩ : ∃ q, n = q + 1 := ⟨n - 1, by omega⟩
      obtain ⟨m, rfl⟩ : ∃ q, m = q + 1 := ⟨m - 1, by omega⟩
      obtain ⟨r1, h1, h2⟩ := tk_next h
      rw [h1]
      simp only
      by_cases hx : x = [62, 61]
      · subst hx
        unfold rowL lrowR
        rw [if_pos (.inl rfl), if_neg (fun e => by have := e.2; simp [isR] at this)]
        have e1 : oneR [62, 61] ([62, 61] :: L, 0) = (L, 0) := by unfold oneR; rw [takeR_cons, if_neg (fun e => e.2 rfl)]
        rw [e1]
        exact ⟨.inl ⟨rfl, rfl, h2⟩, fun _ => by simp⟩
      · have hN := sim_num (s := (r, none)) (t := (x :: L, 0)) (.inl ⟨rfl, rfl, h⟩) (-1)
        have hO := num_one (-1) x L
        rw [h1] at hN
        simp only at hN
        unfold rowL lrowR
        rw [if_neg (fun e => e.elim hx (fun e => by cases e)), if_pos ⟨rfl, by simpa [isR] using hx⟩]
        unfold pcB pcY pcA
        obtain ⟨⟨c, t1⟩, hc⟩ : ∃ q, numR (-1) (x :: L, 0) = q := ⟨_, rfl⟩
        rw [hc] at hN hO ⊢
        simp only at hN hO ⊢
        by_cases ht : t1.2 = 0
        · obtain ⟨k1, k2⟩ := hN.1.isOk ht
          have hcx := hN.2 ht
          have e6 := hO ht
          obtain ⟨tl, te⟩ := t1
          simp only at ht e6 k1 k2 hcx
          subst ht e6 hcx
          obtain ⟨sw, hsw⟩ : ∃ q, wholeP c (-1) (r1, none) = q := ⟨_, rfl⟩
          rw [hsw] at k1 k2 ⊢
          obtain ⟨ra, rb⟩ := sw
          have e5 : rb = none := k1
          subst e5
          have hL := sim_lit (s := (ra, none)) (t := (tl, 0)) (.inl ⟨rfl, rfl, k2⟩)
          obtain ⟨⟨lv, t2⟩, hl2⟩ : ∃ q, lirR (tl, 0) = q := ⟨_, rfl⟩
          have hO2 : t2.2 = 0 → ∃ y M, tl = y :: M ∧ t2.1 = M := by
            intro e
            cases tl with
            | nil =>
              have : lirR (([] : List (List UInt8)), (0 : Int)) = (0, ([], 82)) := rfl
              rw [this] at hl2
              have e3 := (Prod.mk.inj hl2).2
              rw [← e3] at e
              cases e
            | cons y M =>
              have := lir_one y M
              rw [hl2] at this
              exact ⟨y, M, rfl, this e⟩
          rw [hl2] at hL ⊢
          simp only at hL ⊢
          by_cases ht2 : t2.2 = 0
          · obtain ⟨y, M, rfl, hM⟩ := hO2 ht2
            obtain ⟨j1, j2⟩ := hL.1.isOk ht2
            have hlv := hL.2 ht2
            obtain ⟨tm, te2⟩ := t2
            simp only at ht2 hM j1 j2 hlv
            subst ht2 hM hlv
            obtain ⟨sl, hsl⟩ : ∃ q, literalP (nextP (ra, none)).1 (nextP (ra, none)).2 = q := ⟨_, rfl⟩
            rw [hsl] at j1 j2 ⊢
            obtain ⟨rc, rd⟩ := sl
            have e7 : rd = none := j1
            subst e7
            obtain ⟨i1, i2⟩ := ih tm n m (P ++ [(c, (litP (nextP (ra, none)).1).1)]) rc (by simp at hk; omega) j2 (by simp at hn; omega) (by simp at hm; omega)
            refine ⟨i1, fun e => ?_⟩
            rw [i2 e]
            simp
          · rw [lrow_bad ht2, one_bad ht2]
            have hb := hL.1.isBad ht2
            refine ⟨?_, fun e => absurd e ht2⟩
            rw [next_bad hb, row_bad hb]
            exact hL.1
        · rw [lir_bad ht, lrow_bad ht, one_bad ht]
          have hb := hN.1.isBad ht
          refine ⟨?_, fun e => absurd e ht⟩
          rw [next_bad hb, literal_bad hb, next_bad hb, row_bad hb]
          exact hN.1
theorem sim_row {s : Ls} {t : RS} (h : Sim s t) : Sim (rowP s).2 (rowR t).2 ∧ ((rowR t).2.2 = 0 → (rowR t).1 = (rowP s).1) := by
  rcases h with ⟨h1, h2, h3⟩ | ⟨e, he, h1, h2⟩
  · obtain ⟨r, o⟩ := s
    obtain ⟨L, f⟩ := t
    have e1 : o = none := h1
    have e2 : f = 0 := h2
    subst e1 e2
    have hc : L.length ≤ r.length := tk_count h3
    obtain ⟨k1, k2⟩ := sim_lrow L.length L (r.length + 3) (L.length + 2) [] r (Nat.le_refl _) h3 (by omega) (by omega)
    unfold rowP rowR
    simp only
    obtain ⟨ra, hra⟩ : ∃ q, rowL (r.length + 3) (nextP (r, none)).1 (nextP (r, none)).2 = q := ⟨_, rfl⟩
    obtain ⟨rb, hrb⟩ : ∃ q, lrowR (L.length + 2) [] (L, 0) = q := ⟨_, rfl⟩
    rw [hra, hrb] at k1 k2
    rw [hra, hrb]
    have hN := sim_num k1 (-1)
    have hM := sim_must hN.1 (x := [59]) (by simp)
    refine ⟨hM, fun e => ?_⟩
    have e3 := (oneR_len [59] _).2 e
    have e4 := (numR_len (-1) _).2 e3.1
    rw [k2 e4.1, hN.2 e3.1]
    simp
  · have ht : t.2 ≠ 0 := by rw [h2]; exact he
    unfold rowR
    rw [lrow_bad ht, one_bad ht, num_bad ht, one_bad ht, rowP_bad (by rw [h1]; rfl)]
    exact ⟨.bad he h1 h2, fun e => absurd e ht⟩
end Go.Proofs.YtgckmkdmlaocmaaGreatDoor
