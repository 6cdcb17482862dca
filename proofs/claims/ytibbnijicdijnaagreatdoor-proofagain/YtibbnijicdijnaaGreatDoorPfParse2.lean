/-
  Package proof: Parse.
-/
import Derived.Test.YtibbnijicdijnaaGreatDoorPfParse
namespace Go.Proofs.YtibbnijicdijnaaGreatDoor
open Go.RowKit

def parseP (x : List UInt8) : SL × Int := match (readP x).2 with
  | some e => (SL.zero, e)
  | none => ((readP x).1, 0)
def PaOut (x : List UInt8) (w : World) (e : Ending) (w' : World) : Prop := ∃ vo vp vl vi, e = .returned (.tuple #[.agg (slC (parseP x).1 vo vp vl vi), .int .i64 (parseP x).2]) ∧ SlOwn w.heap.size w' (parseP x).1 vo vp vl vi ∧ Below w.heap.size w w'

set_option maxRecDepth 10000 in
set_option maxHeartbeats 2000000 in
theorem parse_any8 (x : List UInt8) (w : World) (hx : x.length ≤ 9000000) (hg : Gl w) : Calls Tryz.prog 18 #[.string (txtOf x)] w (PaOut x w) := by
  unfold PaOut
  obtain ⟨W, hW⟩ : ∃ W, w.alloc (.cells cs0 45) = W := ⟨_, rfl⟩
  have hbW : Below w.heap.size w W := by rw [← hW]; exact (Below.refl _ _).alloc (Nat.le_refl _) _
  have gW : W.heap[w.heap.size]? = some (.cells cs0 45 (0, 0)) := by rw [← hW]; exact heap_alloc_new w _
  have HW : Hid (Below w.heap.size w W) := hbW
  have HgW : Hid (W.heap[w.heap.size]? = some (.cells cs0 45 (0, 0))) := gW
  have hW2 : w.alloc (.cells #[.int .i64 0, .string ⟨#[]⟩, .slice none 0 0, .slice none 0 0, .string ⟨#[]⟩, .slice none 0 0, .slice none 0 0, .int .i64 0, .string ⟨#[]⟩, .string ⟨#[]⟩] 45) = W := hW
  have HG : Hid (Gl w) := hg
  have HR : Hid (Calls Tryz.prog 44 #[.string (txtOf x)] W (RdOut x W)) := read_any x W hx (hg.next hbW)
  unfold parseP
  obtain ⟨r, hr⟩ : ∃ r, readP x = r := ⟨_, rfl⟩
  unfold RdOut at HR
  rw [hr] at HR
  rw [hr]
  clear hbW gW hW hg hr
  go_enter Tryz.func18, Tryz.ntmps18
  go_wp2_with fail
  refine calls_at HR.out (by with_reducible rfl) (by with_reducible rfl) ?_
  rintro e w1 ⟨vo, vp, vl, vi, rfl, hO, hb1⟩
  have HB1 : Hid (Below W.heap.size W w1) := hb1
  have HO : Hid (SlOwn W.heap.size w1 r.1 vo vp vl vi) := hO
  obtain ⟨oa, oc, rfl⟩ := own_slice hO.o
  obtain ⟨pa, pc, rfl⟩ := own_slice hO.p
  obtain ⟨la, lc, rfl⟩ := own_slice hO.l
  obtain ⟨ia, ic, rfl⟩ := own_slice hO.i
  clear hO hb1 hW2 HR
  unfold slC
  obtain ⟨d, f⟩ := r
  obtain ⟨V, hV⟩ : ∃ V, (w1.alloc (.cells #[.int .i64 d.k, .string (txtOf d.n), .slice oa d.ops.length oc, .slice pa d.pcs.length pc, .string (txtOf d.deg), .slice la d.lits.length lc, .slice ia d.ids.length ic, .int .i64 d.ends, .string (txtOf d.low), .string (txtOf d.high)] 45)).alloc (.cells #[.int .i64 0] 35) = V := ⟨_, rfl⟩
  have hbV : Below w1.heap.size w1 V := by rw [← hV]; exact ((Below.refl _ _).alloc (Nat.le_refl _) _).alloc (by simp) _
  have gs : V.heap[w1.heap.size]? = some (.cells #[.int .i64 d.k, .string (txtOf d.n), .slice oa d.ops.length oc, .slice pa d.pcs.length pc, .string (txtOf d.deg), .slice la d.lits.length lc, .slice ia d.ids.length ic, .int .i64 d.ends, .string (txtOf d.low), .string (txtOf d.high)] 45 (0, 0)) := by rw [← hV, heap_alloc_old (w1.alloc _) _ (by simp)]; exact heap_alloc_new w1 _
  have ge : V.heap[w1.heap.size + 1]? = some (.cells #[.int .i64 0] 35 (0, 0)) := by rw [← hV]; exact heap_alloc2_new w1 _ _
  have hwW : w.heap.size < W.heap.size := (Array.getElem?_eq_some_iff.1 HgW.out).1
  have hW1 := HB1.out.size
  have hST : StAt V w.heap.size cs0 := ⟨(hbV.block _ (by omega)).trans ((HB1.out.block _ hwW).trans HgW.out), rfl⟩
  have HB2 : Hid (Below w.heap.size w V) := bl_next (bl_next HW.out HB1.out) hbV
  have HbV : Hid (Below w1.heap.size w1 V) := hbV
  cases f with
  | none =>
    have hO : SlOwn W.heap.size V d (.slice oa d.ops.length oc) (.slice pa d.pcs.length pc) (.slice la d.lits.length lc) (.slice ia d.ids.length ic) := by
      have k : ∀ {t : TypeId} {m n : Nat} {u : Value} {xs : List Value}, w1.ownsRow W.heap.size t m u n xs → V.ownsRow W.heap.size t m u n xs := fun ho => own_keep ho fun g hg => hbV.block g (ho.lt g hg).2
      exact ⟨k HO.out.o, k HO.out.p, k HO.out.l, k HO.out.i⟩
    have HST : Hid (StAt V w.heap.size cs0) := hST
    have HOV : Hid (SlOwn W.heap.size V d (.slice oa d.ops.length oc) (.slice pa d.pcs.length pc) (.slice la d.lits.length lc) (.slice ia d.ids.length ic)) := hO
    have z := frozen_of hST.o
    have q0 : V.cell? ⟨w1.heap.size, 0, none⟩ = some (.int .i64 d.k) := cell_of gs 0
    have q1 : V.cell? ⟨w1.heap.size, 1, none⟩ = some (.string (txtOf d.n)) := cell_of gs 1
    have q2 : V.cell? ⟨w1.heap.size, 2, none⟩ = some (.slice oa d.ops.length oc) := cell_of gs 2
    have q3 : V.cell? ⟨w1.heap.size, 3, none⟩ = some (.slice pa d.pcs.length pc) := cell_of gs 3
    have q4 : V.cell? ⟨w1.heap.size, 4, none⟩ = some (.string (txtOf d.deg)) := cell_of gs 4
    have q5 : V.cell? ⟨w1.heap.size, 5, none⟩ = some (.slice la d.lits.length lc) := cell_of gs 5
    have q6 : V.cell? ⟨w1.heap.size, 6, none⟩ = some (.slice ia d.ids.length ic) := cell_of gs 6
    have q7 : V.cell? ⟨w1.heap.size, 7, none⟩ = some (.int .i64 d.ends) := cell_of gs 7
    have q8 : V.cell? ⟨w1.heap.size, 8, none⟩ = some (.string (txtOf d.low)) := cell_of gs 8
    have q9 : V.cell? ⟨w1.heap.size, 9, none⟩ = some (.string (txtOf d.high)) := cell_of gs 9
    have s0 : V.cell? ⟨w.heap.size, 0, none⟩ = some (.int .i64 0) := cell_of hST.o 0
    have s1 : V.cell? ⟨w.heap.size, 1, none⟩ = some (.string ⟨#[]⟩) := cell_of hST.o 1
    have s2 : V.cell? ⟨w.heap.size, 2, none⟩ = some (.slice none 0 0) := cell_of hST.o 2
    have s3 : V.cell? ⟨w.heap.size, 3, none⟩ = some (.slice none 0 0) := cell_of hST.o 3
    have s4 : V.cell? ⟨w.heap.size, 4, none⟩ = some (.string ⟨#[]⟩) := cell_of hST.o 4
    have s5 : V.cell? ⟨w.heap.size, 5, none⟩ = some (.slice none 0 0) := cell_of hST.o 5
    have s6 : V.cell? ⟨w.heap.size, 6, none⟩ = some (.slice none 0 0) := cell_of hST.o 6
    have s7 : V.cell? ⟨w.heap.size, 7, none⟩ = some (.int .i64 0) := cell_of hST.o 7
    have s8 : V.cell? ⟨w.heap.size, 8, none⟩ = some (.string ⟨#[]⟩) := cell_of hST.o 8
    have s9 : V.cell? ⟨w.heap.size, 9, none⟩ = some (.string ⟨#[]⟩) := cell_of hST.o 9
    clear hO hST hbV gs ge
    go_wp2_with fail
    refine calls_at (as_nil _ V) rfl (by with_reducible rfl) ?_
    rintro e w2 ⟨rfl, rfl⟩
    clear hV
    go_wp2_with fail
    have hE := (set10 HST.out (.int .i64 d.k) (.string (txtOf d.n)) (.slice oa d.ops.length oc) (.slice pa d.pcs.length pc) (.string (txtOf d.deg)) (.slice la d.lits.length lc) (.slice ia d.ids.length ic) (.int .i64 d.ends) (.string (txtOf d.low)) (.string (txtOf d.high))).o
    have hL := bl10 HB2.out (Nat.le_refl _) (.int .i64 d.k) (.string (txtOf d.n)) (.slice oa d.ops.length oc) (.slice pa d.pcs.length pc) (.string (txtOf d.deg)) (.slice la d.lits.length lc) (.slice ia d.ids.length ic) (.int .i64 d.ends) (.string (txtOf d.low)) (.string (txtOf d.high))
    have hO := ((((((((((HOV.out.set hwW 0 (.int .i64 d.k)).set hwW 1 (.string (txtOf d.n))).set hwW 2 (.slice oa d.ops.length oc)).set hwW 3 (.slice pa d.pcs.length pc)).set hwW 4 (.string (txtOf d.deg))).set hwW 5 (.slice la d.lits.length lc)).set hwW 6 (.slice ia d.ids.length ic)).set hwW 7 (.int .i64 d.ends)).set hwW 8 (.string (txtOf d.low))).set hwW 9 (.string (txtOf d.high))).less (Nat.le_of_lt hwW)
    obtain ⟨Z, hZ⟩ : ∃ Z, ((((((((((w2.setCell ⟨w.heap.size, 0, none⟩ (.int .i64 d.k)).setCell ⟨w.heap.size, 1, none⟩ (.string (txtOf d.n))).setCell ⟨w.heap.size, 2, none⟩ (.slice oa d.ops.length oc)).setCell ⟨w.heap.size, 3, none⟩ (.slice pa d.pcs.length pc)).setCell ⟨w.heap.size, 4, none⟩ (.string (txtOf d.deg))).setCell ⟨w.heap.size, 5, none⟩ (.slice la d.lits.length lc)).setCell ⟨w.heap.size, 6, none⟩ (.slice ia d.ids.length ic)).setCell ⟨w.heap.size, 7, none⟩ (.int .i64 d.ends)).setCell ⟨w.heap.size, 8, none⟩ (.string (txtOf d.low))).setCell ⟨w.heap.size, 9, none⟩ (.string (txtOf d.high))) = Z := ⟨_, rfl⟩
    rw [hZ] at hE hL hO
    rw [hZ]
    refine bodyPost_ret (res_step rfl _ _ w.heap.size 45 _ (0, 0) _ rfl hE Tryz.underlying45 rfl info45) rfl ⟨_, _, _, _, rfl, hO, hL⟩
  | some ev =>
    have hlt := (Array.getElem?_eq_some_iff.1 ge).1
    have he0 : V.cell? ⟨w1.heap.size + 1, 0, none⟩ = some (.int .i64 0) := cell_of ge 0
    have hf0 := frozen_of ge 0
    have hgV := (((HG.out.next HW.out).next HB1.out).next hbV).err
    obtain ⟨Y, hY⟩ : ∃ Y, ((((V.alloc (.cells #[.pointer (some ⟨w1.heap.size + 1, 0, none⟩)] 107)).alloc (.cells #[.pointer (some ⟨12, 107, none⟩), .pointer (some ⟨V.heap.size, 0, none⟩), .int .u64 150] 141)).alloc (.cells #[.pointer (some ⟨12, 107, none⟩), .pointer (some ⟨V.heap.size, 0, none⟩), .int .u64 150] 141)).alloc (.cells #[.int .i64 ev] 35)) = Y := ⟨_, rfl⟩
    have hbY : Below V.heap.size V Y := by rw [← hY]; exact ((((Below.refl _ _).alloc (Nat.le_refl _) _).alloc (by simp) _).alloc (by simp; omega) _).alloc (by simp; omega) _
    have gY : Y.heap[w1.heap.size + 1]? = some (.cells #[.int .i64 0] 35 (0, 0)) := (hbY.block _ hlt).trans ge
    obtain ⟨U, hU⟩ : ∃ U, Y.setCell ⟨w1.heap.size + 1, 0, none⟩ (.int .i64 ev) = U := ⟨_, rfl⟩
    have gU : U.heap[w1.heap.size + 1]? = some (.cells #[.int .i64 ev] 35 (0, 0)) := by rw [← hU]; exact set_of gY 0 _
    have hbU : Below w.heap.size w U := by rw [← hU]; exact (bl_next HB2.out hbY).setCell (by show w.heap.size ≤ w1.heap.size + 1; omega) _
    have hSU : StAt U w.heap.size cs0 := by
      refine ⟨?_, rfl⟩
      rw [← hU]
      exact (heap_setCell_other _ _ _ _ (by show w.heap.size ≠ w1.heap.size + 1; omega)).trans ((hbY.block _ hST.lt).trans hST.o)
    have HA : Hid (Calls Tryz.prog 45 #[.iface 35 (.int .i64 ev), .iface 107 (.pointer (some ⟨w1.heap.size + 1, 0, none⟩))] V fun e w' => e = .returned (.bool true) ∧ w' = U) := by
      have := as_hit ev ⟨w1.heap.size + 1, 0, none⟩ (.int .i64 0) V hgV he0 hf0
      rw [hY, hU] at this
      exact this
    have HSU : Hid (StAt U w.heap.size cs0) := hSU
    have HBU : Hid (Below w.heap.size w U) := hbU
    have eU : U.cell? ⟨w1.heap.size + 1, 0, none⟩ = some (.int .i64 ev) := cell_of gU 0
    have z := frozen_of hSU.o
    have s0 : U.cell? ⟨w.heap.size, 0, none⟩ = some (.int .i64 0) := cell_of hSU.o 0
    have s1 : U.cell? ⟨w.heap.size, 1, none⟩ = some (.string ⟨#[]⟩) := cell_of hSU.o 1
    have s2 : U.cell? ⟨w.heap.size, 2, none⟩ = some (.slice none 0 0) := cell_of hSU.o 2
    have s3 : U.cell? ⟨w.heap.size, 3, none⟩ = some (.slice none 0 0) := cell_of hSU.o 3
    have s4 : U.cell? ⟨w.heap.size, 4, none⟩ = some (.string ⟨#[]⟩) := cell_of hSU.o 4
    have s5 : U.cell? ⟨w.heap.size, 5, none⟩ = some (.slice none 0 0) := cell_of hSU.o 5
    have s6 : U.cell? ⟨w.heap.size, 6, none⟩ = some (.slice none 0 0) := cell_of hSU.o 6
    have s7 : U.cell? ⟨w.heap.size, 7, none⟩ = some (.int .i64 0) := cell_of hSU.o 7
    have s8 : U.cell? ⟨w.heap.size, 8, none⟩ = some (.string ⟨#[]⟩) := cell_of hSU.o 8
    have s9 : U.cell? ⟨w.heap.size, 9, none⟩ = some (.string ⟨#[]⟩) := cell_of hSU.o 9
    clear hSU hbU gU gY hbY hgV he0 hf0 ge gs hbV hST hY hU hlt HO
    go_wp2_with fail
    refine calls_at HA.out rfl (by with_reducible rfl) ?_
    rintro e w2 ⟨rfl, rfl⟩
    clear hV
    go_wp2_with fail
    go_region
    go_wp2_with fail
    have hE := (set10 HSU.out (.int .i64 0) (.string ⟨#[]⟩) (.slice none 0 0) (.slice none 0 0) (.string ⟨#[]⟩) (.slice none 0 0) (.slice none 0 0) (.int .i64 0) (.string ⟨#[]⟩) (.string ⟨#[]⟩)).o
    have hL := (bl10 HBU.out (Nat.le_refl _) (.int .i64 0) (.string ⟨#[]⟩) (.slice none 0 0) (.slice none 0 0) (.string ⟨#[]⟩) (.slice none 0 0) (.slice none 0 0) (.int .i64 0) (.string ⟨#[]⟩) (.string ⟨#[]⟩)).drew
    obtain ⟨Z, hZ⟩ : ∃ Z, ((((((((((w2.setCell ⟨w.heap.size, 0, none⟩ (.int .i64 0)).setCell ⟨w.heap.size, 1, none⟩ (.string ⟨#[]⟩)).setCell ⟨w.heap.size, 2, none⟩ (.slice none 0 0)).setCell ⟨w.heap.size, 3, none⟩ (.slice none 0 0)).setCell ⟨w.heap.size, 4, none⟩ (.string ⟨#[]⟩)).setCell ⟨w.heap.size, 5, none⟩ (.slice none 0 0)).setCell ⟨w.heap.size, 6, none⟩ (.slice none 0 0)).setCell ⟨w.heap.size, 7, none⟩ (.int .i64 0)).setCell ⟨w.heap.size, 8, none⟩ (.string ⟨#[]⟩)).setCell ⟨w.heap.size, 9, none⟩ (.string ⟨#[]⟩)) = Z := ⟨_, rfl⟩
    rw [hZ] at hE hL
    rw [hZ]
    have hE2 : Z.drew.heap[w.heap.size]? = some (.cells (slC SL.zero (.slice none 0 0) (.slice none 0 0) (.slice none 0 0) (.slice none 0 0)) 45 (0, 0)) := hE
    refine bodyPost_ret (res_step rfl _ _ w.heap.size 45 _ (0, 0) _ rfl hE2 Tryz.underlying45 rfl info45) rfl ⟨_, _, _, _, rfl, ⟨own_z _ _ _ _, own_z _ _ _ _, own_z _ _ _ _, own_z _ _ _ _⟩, hL⟩
end Go.Proofs.YtibbnijicdijnaaGreatDoor
