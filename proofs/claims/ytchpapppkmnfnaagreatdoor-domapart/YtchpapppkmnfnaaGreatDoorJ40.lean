/-
  Put together: DrCopy, DtDuo, DtReads.
-/
import Derived.Test.YtchpapppkmnfnaaGreatDoorJ39
import Derived.Test.YtchpapppkmnfnaaGreatDoorDmMark
import Derived.Test.YtchpapppkmnfnaaGreatDoorDrReads
import Derived.Test.YtchpapppkmnfnaaGreatDoorJ34
namespace Go.Proofs.YtchpapppkmnfnaaGreatDoor
open Go.RowKit

def RyOut (LL : List (List Int)) (MM : List (List (List Int))) (w : World) (e : Ending) (w' : World) : Prop := ∃ r S, e = .returned (.pointer (some ⟨r, 0, none⟩)) ∧ RsAt w.heap.size S w' r LL MM ∧ Below w.heap.size w w'
theorem FrR.less {m n : Nat} {w : World} {u : Value} {LL : List (List Int)} (h : FrR n w u LL) (hm : m ≤ n) : FrR m w u LL := by
  obtain ⟨cs', f1, f2⟩ := h
  refine ⟨cs', own_lessR f1 hm, fun i hi => ?_⟩
  obtain ⟨x, hx, hl⟩ := f2 i hi
  exact ⟨x, hx, own_lessR hl hm⟩
set_option maxRecDepth 10000 in
set_option maxHeartbeats 1000000 in
theorem rCopy_any {B : Nat} {S : Nat → Prop} {r : Nat} {LL : List (List Int)} {MM : List (List (List Int))} (w : World) (h : RsAt B S w r LL MM) : Calls Tryz.prog 36 #[.pointer (some ⟨r, 0, none⟩)] w (RyOut LL MM w) := by
  obtain ⟨dv, mv, ho, hd, cs, m1, m2, m3⟩ := h.ex
  have c0 : w.cell? ⟨r, 0, none⟩ = some dv := cell_of ho 0
  have HOw : Hid (Calls Tryz.prog 80 #[dv] w (OwOut LL w)) := own_any w hd h.lt h.few
  obtain ⟨da, dc, rfl⟩ : ∃ a c, dv = .slice a LL.length c := by obtain ⟨_, d1, _⟩ := hd; exact own_slice d1
  obtain ⟨ma, mc, rfl⟩ := own_slice m1
  have HC : Hid (∀ w', Below w.heap.size w w' → w'.cell? ⟨r, 1, none⟩ = some (.slice ma MM.length mc)) := fun w' hb => cell_of ((hb.block r (h.lt r h.sr)).trans ho) 1
  have HM : Hid (∀ w', Below w.heap.size w w' → ∀ i (hi : i < MM.length), ∃ g x, ma = some ⟨g, 0, none⟩ ∧ w'.cell? ⟨g, i, none⟩ = some x ∧ (∃ a c, x = .slice a MM[i].length c) ∧ ∀ w'', Below w.heap.size w w'' → Calls Tryz.prog 80 #[x] w'' (OwOut MM[i] w'')) := fun w' hb i hi => by
    obtain ⟨x, hx, hl, _⟩ := m3 i hi
    rcases own_cells m1 with ⟨e, e2⟩ | ⟨g, cap, e, _, hgl, _, hc⟩
    · omega
    · injection e with e _ _
      refine ⟨g, x, e, (hb.cell (p := ⟨g, i, none⟩) hgl).trans (hc i x hx), ?_, fun w'' hb2 => own_any w'' (hl.keep fun k hk => hb2.block k (h.lt k hk)) (fun k hk => Nat.lt_of_lt_of_le (h.lt k hk) hb2.size) (h.fews _ (List.getElem_mem hi))⟩
      obtain ⟨_, d1, _⟩ := hl
      exact own_slice d1
  have HFw : Hid (Few LL ∧ (∀ i (hi : i < MM.length), Few MM[i]) ∧ MM.length ≤ 10000) := ⟨h.few, fun i hi => h.fews _ (List.getElem_mem hi), h.ms⟩
  have hms := h.ms
  have HRl : Hid (r < w.heap.size) := h.lt r h.sr
  have HGl : Hid (∀ g, ma = some ⟨g, 0, none⟩ → g < w.heap.size) := fun g e => h.lt g (m2 g (by rw [e]; rfl))
  clear h ho hd m1 m2 m3
  go_enter Tryz.func36, Tryz.ntmps36
  go_wp2_with fail
  refine calls_at HOw.out (by with_reducible rfl) (by with_reducible rfl) ?_
  rintro e w1 ⟨u, rfl, hF, hb⟩
  obtain ⟨W, hW⟩ : ∃ W, w1.alloc (.cells #[u, .slice none 0 0] 92) = W := ⟨_, rfl⟩
  have hbW : Below w1.heap.size w1 W := by rw [← hW]; exact (Below.refl _ _).alloc (Nat.le_refl _) _
  have gW : W.heap[w1.heap.size]? = some (.cells #[u, .slice none 0 0] 92 (0, 0)) := by rw [← hW]; exact heap_alloc_new w1 _
  have HBW : Hid (Below w.heap.size w W) := bl_next hb hbW
  have HR0 : Hid (∃ S', RsAt w.heap.size S' W w1.heap.size LL []) := by
    obtain ⟨cs', f1, f2⟩ := hF.below hbW
    exact ⟨_, NwAt.done (n := w.heap.size) ⟨u, cs', gW, f1, f2⟩ hb.size HFw.out.1⟩
  obtain ⟨ua, uc, rfl⟩ : ∃ a c, u = .slice a LL.length c := by obtain ⟨_, d1, _⟩ := hF; exact own_slice d1
  have HP : Hid (w.heap.size ≤ w1.heap.size) := hb.size
  clear hF hb hbW gW c0
  go_wp2_with fail
  go_loopw [4] (fun iv wr => ∃ k : Nat, iv = .int .i64 (k : Int) ∧ k ≤ MM.length ∧ Hid (∃ S', RsAt w.heap.size S' wr w1.heap.size LL (MM.take k)) ∧ Hid (Below w.heap.size w wr)) (fun iv _ => MM.length - (intOf iv).toNat)
  case atStart => exact ⟨0, rfl, Nat.zero_le _, HR0, HBW⟩
  case round =>
    obtain ⟨k, rfl, hk, HRr, HBr⟩ := hrel
    have y1 := HC.out wr HBr.out
    by_cases hkn : k < MM.length
    · have hkI : (k : Int) < (MM.length : Int) := by omega
      obtain ⟨S1, hR1⟩ := HRr.out
      obtain ⟨dv1, mv1, o1, d1, cs1, n1, n2, n3⟩ := hR1.ex
      have HKl : Hid ((MM.take k).length = k) := by show _ = _; rw [List.length_take]; omega
      have HTk : Hid (MM.take (k + 1) = MM.take k ++ [MM[k]]) := List.take_succ_eq_append_getElem hkn
      obtain ⟨g, x, rfl, y2, ⟨xa, xc, rfl⟩, hOx⟩ := HM.out wr HBr.out k hkn
      have hNk := HFw.out.2.1 k hkn
      obtain ⟨M, hMM⟩ : ∃ M, MM[k] = M := ⟨_, rfl⟩
      rw [hMM] at HTk y2 hNk hOx
      have HOx : Hid (∀ w'', Below w.heap.size w w'' → Calls Tryz.prog 80 #[.slice xa M.length xc] w'' (OwOut M w'')) := hOx
      have HAc : Hid (∀ w', Below wr.heap.size wr w' → w'.cell? ⟨r, 1, none⟩ = some (.slice (some ⟨g, 0, none⟩) MM.length mc) ∧ w'.cell? ⟨g, k, none⟩ = some (.slice xa M.length xc)) := fun w' hb => by
        refine ⟨HC.out w' (bl_next HBr.out hb), ?_⟩
        exact (hb.cell (p := ⟨g, k, none⟩) (World.block_lt_of_cell? wr _ y2)).trans y2
      have HBc : Hid (∀ w', Below wr.heap.size wr w' → w'.heap[w1.heap.size]? = some (.cells #[dv1, mv1] 92 (0, 0)) ∧ w'.ownsRow 0 41 1 mv1 (MM.take k).length cs1) := fun w' hb => ⟨(hb.block _ (hR1.lt _ hR1.sr)).trans o1, own_keep n1 fun g' hg' => hb.block g' (hR1.lt g' (n2 g' hg'))⟩
      have HE : Hid (∀ (w2 w6 : World) (u v6 : Value), Below wr.heap.size wr w2 → FrR wr.heap.size w2 u M → w6.ownsRow 0 41 1 v6 ((MM.take k).length + 1) (cs1 ++ [u]) → (w2.alloc (.cells #[u] 41)).grownBy w6 mv1.ownBlock → (mv1.ownBlock = v6.ownBlock ∨ ∃ g, v6.ownBlock = some g ∧ w2.heap.size ≤ g) → (∃ S', RsAt w.heap.size S' (w6.setCell ⟨w1.heap.size, 1, none⟩ v6) w1.heap.size LL (MM.take k ++ [M]) ∧ SStp w.heap.size S1 wr (w6.setCell ⟨w1.heap.size, 1, none⟩ v6) ∧ Grown S1 wr (w6.setCell ⟨w1.heap.size, 1, none⟩ v6) S') ∧ w6.heap[w1.heap.size]? = some (.cells #[dv1, mv1] 92 (0, 0))) := fun w2 w6 u v6 a1 a2 a3 a4 a5 => rs_mark hR1 o1 d1 n1 n2 n3 a1 hNk a2 a3 a4 a5 (by rw [HKl.out]; omega)
      have HG1 : Hid (∀ g', mv1.ownBlock = some g' → w.heap.size ≤ g' ∧ g' ≠ r ∧ g' ≠ g) := fun g' hg' => by
        have a1 := hR1.lo g' (n2 g' hg')
        have a2 : r < w.heap.size := by
          by_cases hlt : r < w.heap.size
          · exact hlt
          · exfalso; exact hlt HRl.out
        have a3 : g < w.heap.size := HGl.out g rfl
        exact ⟨a1, by omega, by omega⟩
      obtain ⟨mb, md, rfl⟩ : ∃ a c, mv1 = .slice a k c := by have := own_slice n1; rw [HKl.out] at this; exact this
      obtain ⟨db, dd, rfl⟩ : ∃ a c, dv1 = .slice a LL.length c := by obtain ⟨_, q1, _⟩ := d1; exact own_slice q1
      clear hMM hOx hR1 o1 d1 n1 n2 n3 HRr
      go_wp2_with fail
      have HU0 : Hid (Below wr.heap.size wr wr.drew) := (Below.refl _ _).drew
      have HC0 : Hid ((wr.drew.cell? ⟨r, 1, none⟩ = some (.slice (some ⟨g, 0, none⟩) MM.length mc) ∧ wr.drew.cell? ⟨g, k, none⟩ = some (.slice xa M.length xc)) ∧ wr.drew.cell? ⟨w1.heap.size, 1, none⟩ = some (.slice mb k md)) := ⟨HAc.out _ HU0.out, cell_of (HBc.out _ HU0.out).1 1⟩
      refine wp_region_T (fun w' => w'.cell? ⟨r, 1, none⟩ = some (.slice (some ⟨g, 0, none⟩) MM.length mc) ∧ w'.cell? ⟨g, k, none⟩ = some (.slice xa M.length xc)) (fun w' => w'.cell? ⟨w1.heap.size, 1, none⟩ = some (.slice mb k md)) [17] (by kernel_rfl) HC0.out (fun hHeld => ?_)
      clear HC0
      generalize wr.drew = U at hHeld HU0 ⊢
      refine wpAnyT_takeB (i := 0) (oi := ⟨some 21, .move (.tmp 3), _, _, _, _⟩) (v := ?vR5x0) rfl (by kernel_rfl) (by kernel_rfl) (by kernel_rfl) (by kernel_rfl) (fun _ _ _ h => h) (Or.inl ⟨by rfl, ?hyR5x0⟩) (by assumption) ?restR5x0
      case hyR5x0 => (intro w hSw; (try dsimp only at hSw); go_simp; try (with_reducible rfl))
      try simp only [Act.put, List.setIfInBounds_toArray, List.set_cons_zero, List.set_cons_succ]
      refine wpAnyT_takeB (i := 1) (oi := ⟨some 22, .move (.tmp 3), _, _, _, _⟩) (v := ?vR5x1) rfl (by kernel_rfl) (by kernel_rfl) (by kernel_rfl) (by kernel_rfl) (fun _ _ _ h => h) (Or.inl ⟨by rfl, ?hyR5x1⟩) (by assumption) ?restR5x1
      case hyR5x1 => (intro w hSw; (try dsimp only at hSw); go_simp; try (with_reducible rfl))
      try simp only [Act.put, List.setIfInBounds_toArray, List.set_cons_zero, List.set_cons_succ]
      refine wpAnyT_takeB (i := 2) (oi := ⟨some 23, .nilCheck (.tmp 22), _, _, _, _⟩) (v := ?vR5x2) rfl (by kernel_rfl) (by kernel_rfl) (by kernel_rfl) (by kernel_rfl) (fun _ _ _ h => h) (Or.inl ⟨by rfl, ?hyR5x2⟩) (by assumption) ?restR5x2
      case hyR5x2 => (intro w hSw; (try dsimp only at hSw); go_simp; try (with_reducible rfl))
      try simp only [Act.put, List.setIfInBounds_toArray, List.set_cons_zero, List.set_cons_succ]
      refine wpAnyT_takeB (i := 3) (oi := ⟨some 24, .fieldAddr 92 (.tmp 23) 1, _, _, _, _⟩) (v := ?vR5x3) rfl (by kernel_rfl) (by kernel_rfl) (by kernel_rfl) (by kernel_rfl) (fun _ _ _ h => h) (Or.inl ⟨by rfl, ?hyR5x3⟩) (by assumption) ?restR5x3
      case hyR5x3 => (intro w hSw; (try dsimp only at hSw); go_simp; try (with_reducible rfl))
      try simp only [Act.put, List.setIfInBounds_toArray, List.set_cons_zero, List.set_cons_succ]
      refine wpAnyT_take (i := 4) (oi := ⟨some 25, .load 50 (.tmp 24), _, _, _, _⟩) (v := ?vR5x4) rfl (by kernel_rfl) (by kernel_rfl) (by kernel_rfl) (by kernel_rfl) (by kernel_rfl) (fun _ _ _ h => h) (Or.inl ⟨by rfl, ?hyR5x4⟩) (by assumption) ?restR5x4
      case hyR5x4 => (intro w hSw; (try dsimp only at hSw); go_simp; try (with_reducible rfl))
      try simp only [Act.put, List.setIfInBounds_toArray, List.set_cons_zero, List.set_cons_succ]
      refine wpAnyT_takeB (i := 5) (oi := ⟨some 26, .move (.tmp 0), _, _, _, _⟩) (v := ?vR5x5) rfl (by kernel_rfl) (by kernel_rfl) (by kernel_rfl) (by kernel_rfl) (fun _ _ _ h => h) (Or.inl ⟨by rfl, ?hyR5x5⟩) (by assumption) ?restR5x5
      case hyR5x5 => (intro w hSw; (try dsimp only at hSw); go_simp; try (with_reducible rfl))
      try simp only [Act.put, List.setIfInBounds_toArray, List.set_cons_zero, List.set_cons_succ]
      refine wpAnyT_takeB (i := 6) (oi := ⟨some 27, .nilCheck (.tmp 26), _, _, _, _⟩) (v := ?vR5x6) rfl (by kernel_rfl) (by kernel_rfl) (by kernel_rfl) (by kernel_rfl) (fun _ _ _ h => h) (Or.inl ⟨by rfl, ?hyR5x6⟩) (by assumption) ?restR5x6
      case hyR5x6 => (intro w hSw; (try dsimp only at hSw); go_simp; try (with_reducible rfl))
      try simp only [Act.put, List.setIfInBounds_toArray, List.set_cons_zero, List.set_cons_succ]
      refine wpAnyT_takeB (i := 7) (oi := ⟨some 28, .fieldAddr 92 (.tmp 27) 1, _, _, _, _⟩) (v := ?vR5x7) rfl (by kernel_rfl) (by kernel_rfl) (by kernel_rfl) (by kernel_rfl) (fun _ _ _ h => h) (Or.inl ⟨by rfl, ?hyR5x7⟩) (by assumption) ?restR5x7
      case hyR5x7 => (intro w hSw; (try dsimp only at hSw); go_simp; try (with_reducible rfl))
      try simp only [Act.put, List.setIfInBounds_toArray, List.set_cons_zero, List.set_cons_succ]
      refine wpAnyT_takeB (i := 8) (oi := ⟨some 29, .load 50 (.tmp 28), _, _, _, _⟩) (v := ?vR5x8) rfl (by kernel_rfl) (by kernel_rfl) (by kernel_rfl) (by kernel_rfl) (fun _ _ _ h => h) (Or.inl ⟨by rfl, ?hyR5x8⟩) (by assumption) ?restR5x8
      case hyR5x8 => (intro w hSw; (try dsimp only at hSw); go_simp; try (with_reducible rfl))
      try simp only [Act.put, List.setIfInBounds_toArray, List.set_cons_zero, List.set_cons_succ]
      refine wpAnyT_takeB (i := 9) (oi := ⟨some 30, .move (.tmp 4), _, _, _, _⟩) (v := ?vR5x9) rfl (by kernel_rfl) (by kernel_rfl) (by kernel_rfl) (by kernel_rfl) (fun _ _ _ h => h) (Or.inl ⟨by rfl, ?hyR5x9⟩) (by assumption) ?restR5x9
      case hyR5x9 => (intro w hSw; (try dsimp only at hSw); go_simp; try (with_reducible rfl))
      try simp only [Act.put, List.setIfInBounds_toArray, List.set_cons_zero, List.set_cons_succ]
      refine wpAnyT_takeB (i := 10) (oi := ⟨some 31, .indexAddr 50 (.tmp 29) (.tmp 30), _, _, _, _⟩) (v := ?vR5x10) rfl (by kernel_rfl) (by kernel_rfl) (by kernel_rfl) (by kernel_rfl) (fun _ _ _ h => h) (Or.inl ⟨by rfl, ?hyR5x10⟩) (by assumption) ?restR5x10
      case hyR5x10 => (intro w hSw; (try dsimp only at hSw); go_simp; try (with_reducible rfl))
      try simp only [Act.put, List.setIfInBounds_toArray, List.set_cons_zero, List.set_cons_succ]
      refine wpAnyT_takeB (i := 11) (oi := ⟨some 32, .load 41 (.tmp 31), _, _, _, _⟩) (v := ?vR5x11) rfl (by kernel_rfl) (by kernel_rfl) (by kernel_rfl) (by kernel_rfl) (fun _ _ _ h => h) (Or.inl ⟨by rfl, ?hyR5x11⟩) (by assumption) ?restR5x11
      case hyR5x11 => (intro w hSw; (try dsimp only at hSw); go_simp; try (with_reducible rfl))
      try simp only [Act.put, List.setIfInBounds_toArray, List.set_cons_zero, List.set_cons_succ]
      refine wpAnyT_one (i := 12) (o := ⟨some 33, .call { callee := .value (.func 80), args := #[(.tmp 32)], argTypes := #[41] }, _, _, _, _⟩) (by kernel_rfl) rfl (fun K hK => ?_)
      go_simp
      refine calls_at (HOx.out U (bl_next HBr.out HU0.out)) (by with_reducible rfl) (by with_reducible rfl) ?_
      rintro e w2 ⟨u, rfl, hF, hb⟩
      obtain ⟨ua2, uc2, rfl⟩ : ∃ a c, u = .slice a M.length c := by obtain ⟨_, q1, _⟩ := hF; exact own_slice q1
      go_wp2_with fail
      have HB2 : Hid (Below wr.heap.size wr w2) := bl_next HU0.out hb
      have HF : Hid (FrR wr.heap.size w2 (.slice ua2 M.length uc2) M) := hF.less HU0.out.size
      clear hHeld hb hF
      have hHeld : _ ∧ _ := ⟨HAc.out w2 HB2.out, cell_of (HBc.out w2 HB2.out).1 1⟩
      refine hK.out _ _ ⟨hHeld.1, fun _ => hHeld.2⟩ ?_
      clear hK K
      try simp only [Act.put, List.setIfInBounds_toArray, List.set_cons_zero, List.set_cons_succ]
      refine wpAnyT_one (i := 13) (o := ⟨some 34, .buildSlice 50 1 #[(0, (.tmp 33))], _, _, _, _⟩) (by kernel_rfl) rfl (fun K hK => ?_)
      go_simp
      obtain ⟨Y, hY⟩ : ∃ Y, w2.alloc (.cells #[.slice ua2 M.length uc2] 41) = Y := ⟨_, rfl⟩
      have HBY : Hid (Below wr.heap.size wr Y) := by show Below _ _ _; rw [← hY]; exact HB2.out.alloc HB2.out.size _
      have HSc2 : Hid (SrcAt Y (.slice (some ⟨w2.heap.size, 0, none⟩) 1 1) 1 1 [.slice ua2 M.length uc2]) := src_1 (by rw [← hY]; exact heap_alloc_new w2 _) rfl
      have HY : Hid (w2.alloc (.cells #[.slice ua2 M.length uc2] 41) = Y) := hY
      have HYs : Hid (w2.heap.size ≤ Y.heap.size) := by show _ ≤ _; rw [← hY]; simp
      rw [hY]
      clear hY hHeld
      have hHeld : _ ∧ _ := ⟨HAc.out Y HBY.out, cell_of (HBc.out Y HBY.out).1 1⟩
      refine hK.out _ _ ⟨hHeld.1, fun _ => hHeld.2⟩ ?_
      clear hK K
      try simp only [Act.put, List.setIfInBounds_toArray, List.set_cons_zero, List.set_cons_succ]
      refine wpAnyT_one (i := 14) (o := ⟨some 35, .call { callee := .builtin .append, args := #[(.tmp 25), (.tmp 34)], argTypes := #[50, 50] }, _, _, _, _⟩) (by kernel_rfl) rfl (fun K hK => ?_)
      have hown : Y.ownsRow 0 41 1 (.slice mb k md) k cs1 := by have := (HBc.out Y HBY.out).2; rw [HKl.out] at this; exact this
      refine op_append_src Y (.tmp 25) (.tmp 34) 50 41 (.slice none 0 0) 1 24 rfl un64 inf63 rfl (by decide) 0 _ _ k 1 cs1 _ (by rfl) (by rfl) hown HSc2.out (by unfold maxLen; omega) (by omega) (Nat.zero_le _) (by rfl) ?_
      intro v6 w6 o1 o2 o3
      obtain ⟨a6, c6, rfl⟩ := own_slice o1
      have hE := HE.out w2 w6 _ _ HB2.out HF.out (by rw [HKl.out]; exact o1) (by rw [HY.out]; exact o2) (by
        rcases o3 with e | e
        · exact .inl e.symm
        · exact .inr ⟨_, e, HYs.out⟩)
      have HSx : Hid (∃ S', RsAt w.heap.size S' (w6.setCell ⟨w1.heap.size, 1, none⟩ (.slice a6 (k + 1) c6)) w1.heap.size LL (MM.take k ++ [M]) ∧ SStp w.heap.size S1 wr (w6.setCell ⟨w1.heap.size, 1, none⟩ (.slice a6 (k + 1) c6)) ∧ Grown S1 wr (w6.setCell ⟨w1.heap.size, 1, none⟩ (.slice a6 (k + 1) c6)) S') := hE.1
      have GP : Hid (w6.heap[w1.heap.size]? = some (.cells #[.slice db LL.length dd, .slice mb k md] 92 (0, 0))) := hE.2
      have hcl : ∀ (g' j : Nat), g' < Y.heap.size → (∀ g'', (Value.slice mb k md).ownBlock = some g'' → g'' ≠ g') → w6.cell? ⟨g', j, none⟩ = Y.cell? ⟨g', j, none⟩ := fun g' j hl hn => World.cell?_of_block (a := ⟨g', j, none⟩) (o2.block g' hl fun e => hn g' e.symm rfl)
      have hHl := hHeld.1
      have c0 : w6.cell? ⟨r, 1, none⟩ = some (.slice (some ⟨g, 0, none⟩) MM.length mc) := (hcl r 1 (World.block_lt_of_cell? Y _ hHl.1) (fun g'' e => (HG1.out g'' e).2.1)).trans hHl.1
      have c0' : w6.cell? ⟨g, k, none⟩ = some (.slice xa M.length xc) := (hcl g k (World.block_lt_of_cell? Y _ hHl.2) (fun g'' e => (HG1.out g'' e).2.2)).trans hHl.2
      have HH6 : Hid (w6.cell? ⟨r, 1, none⟩ = some (.slice (some ⟨g, 0, none⟩) MM.length mc) ∧ w6.cell? ⟨g, k, none⟩ = some (.slice xa M.length xc)) := ⟨c0, c0'⟩
      have c1 : w6.cell? ⟨w1.heap.size, 1, none⟩ = some (.slice mb k md) := cell_of hE.2 1
      have cz : ∀ i, w6.frozen? ⟨w1.heap.size, i, none⟩ = false := frozen_of hE.2
      clear hE o1 o2 o3 hown hHeld hcl hHl
      refine hK.out _ _ ⟨⟨c0, c0'⟩, fun _ => c1⟩ ?_
      have hHeld := (⟨(⟨c0, c0'⟩ : _ ∧ _), c1⟩ : _ ∧ _)
      clear hK K
      try simp only [Act.put, List.setIfInBounds_toArray, List.set_cons_zero, List.set_cons_succ]
      refine wpAnyT_takeB (i := 15) (oi := ⟨some 36, .nilCheck (.tmp 21), _, _, _, _⟩) (v := ?vR5x15) rfl (by kernel_rfl) (by kernel_rfl) (by kernel_rfl) (by kernel_rfl) (fun _ _ _ h => h) (Or.inl ⟨by rfl, ?hyR5x15⟩) (by assumption) ?restR5x15
      case hyR5x15 => (intro w hSw; (try dsimp only at hSw); go_simp; try (with_reducible rfl))
      try simp only [Act.put, List.setIfInBounds_toArray, List.set_cons_zero, List.set_cons_succ]
      refine wpAnyT_takeB (i := 16) (oi := ⟨some 37, .fieldAddr 92 (.tmp 36) 1, _, _, _, _⟩) (v := ?vR5x16) rfl (by kernel_rfl) (by kernel_rfl) (by kernel_rfl) (by kernel_rfl) (fun _ _ _ h => h) (Or.inl ⟨by rfl, ?hyR5x16⟩) (by assumption) ?restR5x16
      case hyR5x16 => (intro w hSw; (try dsimp only at hSw); go_simp; try (with_reducible rfl))
      try simp only [Act.put, List.setIfInBounds_toArray, List.set_cons_zero, List.set_cons_succ]
      refine wpAnyT_late (i := 17) (o := ⟨none, .store 50 (.tmp 37) (.tmp 35), _, _, _, _⟩) (by kernel_rfl) rfl (by kernel_rfl) (fun K hK => ?_)
      go_simp
      refine hK.out _ _ ?shR5x17 ?restR5x17
      case shR5x17 => ((try dsimp only); exact ⟨(World.cell?_setCell_far _ _ ⟨r, 1, none⟩ _ (by have := HRl.out; have := HP.out; show w1.heap.size ≠ r; omega)).trans HH6.out.1, (World.cell?_setCell_far _ _ ⟨g, k, none⟩ _ (by have := HGl.out g rfl; have := HP.out; show w1.heap.size ≠ g; omega)).trans HH6.out.2⟩)
      clear hK K
      try simp only [Act.put, List.setIfInBounds_toArray, List.set_cons_zero, List.set_cons_succ]
      refine wpAnyT_done (by kernel_rfl) ?_ _
      obtain ⟨X, hX⟩ : ∃ X, w6.setCell ⟨w1.heap.size, 1, none⟩ (.slice a6 (k + 1) c6) = X := ⟨_, rfl⟩
      rw [hX] at HSx
      try rw [hX]
      clear hX c0 c0' c1 cz hHeld
      go_wp2_with fail
      go_roundw
      case rel =>
        obtain ⟨S', q1, q2, q3⟩ := HSx.out
        exact ⟨k + 1, by go_num, hkn, ⟨S', by rw [HTk.out]; exact q1⟩, HBr.out.trans q2.below⟩
      case measure => simp [intOf]; omega
    · have hke : k = MM.length := by omega
      subst hke
      have hkI : ¬ (MM.length : Int) < (MM.length : Int) := by omega
      rw [List.take_length] at HRr
      go_wp2_with fail
      go_ret
      obtain ⟨S', q1⟩ := HRr.out
      exact ⟨_, S', rfl, q1, HBr.out⟩
end Go.Proofs.YtchpapppkmnfnaaGreatDoor

namespace Go.Proofs.YtchpapppkmnfnaaGreatDoor
open Go.RowKit

structure Duo (B : Nat) (O : Nat → Prop) (w : World) (p r : Nat) (s : St) (LL : List (List Int)) (MM : List (List (List Int))) : Prop where
  ex : ∃ nv mv S Bs, StAt Bs w p nv mv s ∧ RsAt B S w r LL MM ∧ B ≤ Bs ∧ (∀ k, Own p nv mv k → O k) ∧ (∀ k, S k → O k) ∧ ∀ k, Own p nv mv k → ¬ S k
  lo : ∀ k, O k → B ≤ k
  lt : ∀ k, O k → k < w.heap.size
def DuOut (B : Nat) (O : Nat → Prop) (p r : Nat) (s : St) (LL : List (List Int)) (MM : List (List (List Int))) (v : Value) (w : World) (e : Ending) (w' : World) : Prop := e = .returned v ∧ ∃ O', Duo B O' w' p r s LL MM ∧ SStp B O w w' ∧ Grown O w w' O'
section
variable {B : Nat} {O : Nat → Prop} {w w' : World} {p r : Nat} {s s' : St} {LL LL' : List (List Int)} {MM MM' : List (List (List Int))}
theorem Duo.keep (h : Duo B O w p r s LL MM) (hz : w.heap.size ≤ w'.heap.size) (hk : ∀ k, O k → w'.heap[k]? = w.heap[k]?) : Duo B O w' p r s LL MM := by
  obtain ⟨nv, mv, S, Bs, h2, h3, h4, h5, h6, h7⟩ := h.ex
  exact ⟨⟨nv, mv, S, Bs, h2.keep (fun k _ ho => hk k (h5 k ho)), h3.keep hz (fun k hS => hk k (h6 k hS)), h4, h5, h6, h7⟩, h.lo, fun k hS => Nat.lt_of_lt_of_le (h.lt k hS) hz⟩
theorem Duo.below (h : Duo B O w p r s LL MM) (hb : Below w.heap.size w w') : Duo B O w' p r s LL MM := h.keep hb.size fun k hk => hb.block k (h.lt k hk)
theorem Duo.prog {nv mv mv' : Value} {S : Nat → Prop} {Bs : Nat} (h : Duo B O w p r s LL MM) (_h2 : StAt Bs w p nv mv s) (h3 : RsAt B S w r LL MM) (h4 : B ≤ Bs) (h5 : ∀ k, Own p nv mv k → O k) (h6 : ∀ k, S k → O k) (h7 : ∀ k, Own p nv mv k → ¬ S k)
    (a1 : StAt Bs w' p nv mv' s') (a2 : Stp Bs p nv mv w w') (a3 : ∀ k, mv'.ownBlock = some k → mv.ownBlock = some k ∨ w.heap.size ≤ k) : ∃ O', Duo B O' w' p r s' LL MM ∧ SStp B O w w' ∧ Grown O w w' O' := by
  have hown : ∀ k, Own p nv mv' k → Own p nv mv k ∨ (w.heap.size ≤ k ∧ k < w'.heap.size) := fun k hk => by
    rcases hk with e | e | e
    · exact .inl (.inl e)
    · exact .inl (.inr (.inl e))
    · rcases a3 k e with a | a
      · exact .inl (.inr (.inr a))
      · exact .inr ⟨a, own_lt a1 (.inr (.inr e))⟩
  refine ⟨fun k => O k ∨ Own p nv mv' k, ⟨⟨nv, mv', S, Bs, a1, h3.keep a2.off.size (fun k hk => a2.off.block k (h3.lt k hk) (fun e => h7 k e hk)), h4, fun k hk => .inr hk, fun k hk => .inl (h6 k hk), fun k hk hS => ?_⟩, ?_, ?_⟩, ⟨a2.below.mono h4, a2.off.less h5⟩, fun k hk => ?_⟩
  · rcases hown k hk with e | e
    · exact h7 k e hS
    · have := h3.lt k hS; omega
  · rintro k (e | e)
    · exact h.lo k e
    · exact Nat.le_trans h4 (own_lo a1 e)
  · rintro k (e | e)
    · exact Nat.lt_of_lt_of_le (h.lt k e) a2.off.size
    · exact own_lt a1 e
  · rcases hk with e | e
    · exact .inl e
    · rcases hown k e with a | a
      · exact .inl (h5 k a)
      · exact .inr a
theorem Duo.doc {nv mv : Value} {S S' : Nat → Prop} {Bs : Nat} (h : Duo B O w p r s LL MM) (h2 : StAt Bs w p nv mv s) (h4 : B ≤ Bs) (h5 : ∀ k, Own p nv mv k → O k) (h6 : ∀ k, S k → O k) (h7 : ∀ k, Own p nv mv k → ¬ S k)
    (a1 : RsAt B S' w' r LL' MM') (a2 : SStp B S w w') (a3 : Grown S w w' S') : ∃ O', Duo B O' w' p r s LL' MM' ∧ SStp B O w w' ∧ Grown O w w' O' := by
  refine ⟨fun k => O k ∨ S' k, ⟨⟨nv, mv, S', Bs, h2.keep (fun k hk ho => a2.off.block k hk (fun e => h7 k ho e)), a1, h4, fun k hk => .inl (h5 k hk), fun k hk => .inr hk, fun k hk hS => ?_⟩, ?_, ?_⟩, ⟨a2.below, a2.off.less h6⟩, fun k hk => ?_⟩
  · rcases a3 k hS with e | e
    · exact h7 k hk e
    · have := own_lt h2 hk; omega
  · rintro k (e | e)
    · exact h.lo k e
    · exact a1.lo k e
  · rintro k (e | e)
    · exact Nat.lt_of_lt_of_le (h.lt k e) a2.off.size
    · exact a1.lt k e
  · rcases hk with e | e
    · exact .inl e
    · rcases a3 k e with a | a
      · exact .inl (h6 k a)
      · exact .inr a
/-- The calls. -/
theorem Duo.cut1 (h : Duo B O w p r s LL MM) (k x v : Int) : Calls Tryz.prog 21 #[.pointer (some ⟨p, 0, none⟩), .agg #[.int .i64 k, .int .i64 x, .int .i64 v]] w (DuOut B O p r (s.cut k x v) LL MM (.tuple #[.bool (s.went k x v), .bool (s.may k x v)]) w) := by
  obtain ⟨nv, mv, S, Bs, h2, h3, h4, h5, h6, h7⟩ := h.ex
  exact (cut_any Bs p nv mv s k x v w h2).mono fun e w' hq => ⟨hq.1, h.prog h2 h3 h4 h5 h6 h7 hq.2.1 hq.2.2 fun k hk => .inl hk⟩
theorem Duo.cut2 (h : Duo B O w p r s LL MM) (k x v : Int) : Calls Tryz.prog 33 #[.pointer (some ⟨r, 0, none⟩), .agg #[.int .i64 k, .int .i64 x, .int .i64 v]] w (DuOut B O p r s (cutLL LL k x v) MM (.tuple #[.bool (wentLL LL k x v), .bool (mayLL LL k x v)]) w) := by
  obtain ⟨nv, mv, S, Bs, h2, h3, h4, h5, h6, h7⟩ := h.ex
  refine (rCut_any k x v w h3).mono fun e w' hq => ?_
  obtain ⟨q1, S', q2, q3, q4⟩ := hq
  exact ⟨q1, h.doc h2 h4 h5 h6 h7 q2 q3 q4⟩
theorem Duo.mark1 (h : Duo B O w p r s LL MM) (hm : s.marks + 1 ≤ 10000) : Calls Tryz.prog 22 #[.pointer (some ⟨p, 0, none⟩)] w (DuOut B O p r s.mark LL MM (.int .i64 (s.marks : Int)) w) := by
  obtain ⟨nv, mv, S, Bs, h2, h3, h4, h5, h6, h7⟩ := h.ex
  refine (mark_any Bs p nv mv s w h2 hm).mono fun e w' hq => ?_
  obtain ⟨mv', q1, q2, q3, q4⟩ := hq
  exact ⟨q1, h.prog h2 h3 h4 h5 h6 h7 q2 q3 q4⟩
theorem Duo.mark2 (h : Duo B O w p r s LL MM) (hm : MM.length + 1 ≤ 10000) : Calls Tryz.prog 34 #[.pointer (some ⟨r, 0, none⟩)] w (DuOut B O p r s LL (MM ++ [LL]) (.int .i64 (MM.length : Int)) w) := by
  obtain ⟨nv, mv, S, Bs, h2, h3, h4, h5, h6, h7⟩ := h.ex
  refine (rMark_any w h3 hm).mono fun e w' hq => ?_
  obtain ⟨q1, S', q2, q3, q4⟩ := hq
  exact ⟨q1, h.doc h2 h4 h5 h6 h7 q2 q3 q4⟩
theorem Duo.back1 (h : Duo B O w p r s LL MM) (k : Int) : Calls Tryz.prog 26 #[.pointer (some ⟨p, 0, none⟩), .int .i64 k] w (DuOut B O p r (s.back k) LL MM (.bool (s.backB k)) w) := by
  obtain ⟨nv, mv, S, Bs, h2, h3, h4, h5, h6, h7⟩ := h.ex
  refine (back_any Bs p nv mv s k w h2).mono fun e w' hq => ?_
  obtain ⟨mv', q1, q2, q3, q4⟩ := hq
  exact ⟨q1, h.prog h2 h3 h4 h5 h6 h7 q2 q3 fun k hk => .inl (q4 k hk)⟩
theorem Duo.back2 (h : Duo B O w p r s LL MM) (k : Int) : Calls Tryz.prog 35 #[.pointer (some ⟨r, 0, none⟩), .int .i64 k] w (DuOut B O p r s (if backL MM k then MM.getD k.toNat [] else LL) (if backL MM k then MM.take k.toNat else MM) (.bool (backL MM k)) w) := by
  obtain ⟨nv, mv, S, Bs, h2, h3, h4, h5, h6, h7⟩ := h.ex
  refine (rBack_any k w h3).mono fun e w' hq => ?_
  obtain ⟨q1, S', q2, q3, q4⟩ := hq
  exact ⟨q1, h.doc h2 h4 h5 h6 h7 q2 q3 q4⟩
/-- A pair is two stores and a box. -/
theorem PaAt.duo {P : Nat} (h : PaAt B P O w s) : ∃ p r, w.heap[P]? = some (.cells #[.pointer (some ⟨p, 0, none⟩), .pointer (some ⟨r, 0, none⟩)] 39 (0, 0)) ∧ Duo B (fun k => O k ∧ k ≠ P) w p r s (s.now.map Dm.all) (mksOf s) := by
  obtain ⟨p, nv, mv, r, S, Bs, h1, h2, h3, h4, h5, h6, h7⟩ := h.ex
  exact ⟨p, r, h1, ⟨nv, mv, S, Bs, h2, h3, h4, h5, h6, h7⟩, fun k hk => h.lo k hk.1, fun k hk => h.lt k hk.1⟩
theorem Duo.pair {P : Nat} (h : Duo B O w p r s (s.now.map Dm.all) (mksOf s)) (h1 : w.heap[P]? = some (.cells #[.pointer (some ⟨p, 0, none⟩), .pointer (some ⟨r, 0, none⟩)] 39 (0, 0))) (hP : ¬ O P) (hB : B ≤ P) (ha : Alls s) (hm : AllsM s) : PaAt B P (fun k => O k ∨ k = P) w s := by
  obtain ⟨nv, mv, S, Bs, h2, h3, h4, h5, h6, h7⟩ := h.ex
  refine ⟨⟨p, nv, mv, r, S, Bs, h1, h2, h3, h4, fun k hk => ⟨.inl (h5 k hk), fun e => hP (e ▸ h5 k hk)⟩, fun k hk => ⟨.inl (h6 k hk), fun e => hP (e ▸ h6 k hk)⟩, h7⟩, .inr rfl, ?_, ?_, ha, hm⟩
  · rintro k (e | e)
    · exact h.lo k e
    · rw [e]; exact hB
  · rintro k (e | e)
    · exact h.lt k e
    · rw [e]; exact (Array.getElem?_eq_some_iff.1 h1).1
end
/-- Mark and Back, of lists as of words. -/
theorem mark_rel {s : St} (ha : Alls s) (hm : AllsM s) (hl : s.noted.length = s.marks * s.now.length) : s.mark.now.map Dm.all = s.now.map Dm.all ∧ mksOf s.mark = mksOf s ++ [s.now.map Dm.all] ∧ (mksOf s).length = s.marks ∧ Alls s.mark ∧ AllsM s.mark := by
  refine ⟨rfl, mks_mark hl, by simp [mksOf], ha, fun d hd => ?_⟩
  rcases List.mem_append.1 hd with e | e
  · exact hm d e
  · exact ha d e
theorem back_rel {s : St} (ha : Alls s) (hm : AllsM s) (hl : s.noted.length = s.marks * s.now.length) (k : Int) : s.backB k = backL (mksOf s) k ∧ (s.back k).now.map Dm.all = (if backL (mksOf s) k then (mksOf s).getD k.toNat [] else s.now.map Dm.all) ∧ mksOf (s.back k) = (if backL (mksOf s) k then (mksOf s).take k.toNat else mksOf s) ∧ Alls (s.back k) ∧ AllsM (s.back k) ∧ (s.back k).marks ≤ s.marks := by
  have e0 : s.backB k = backL (mksOf s) k := by unfold St.backB backL; simp [mksOf]
  cases hb : s.backB k with
  | false =>
    have e1 : s.back k = s := by unfold St.back; rw [hb]; rfl
    rw [← e0, hb, e1]
    exact ⟨rfl, rfl, rfl, ha, hm, Nat.le_refl _⟩
  | true =>
    obtain ⟨q1, q2, q3⟩ := mks_back hl hb
    rw [← e0, hb, if_pos rfl, if_pos rfl]
    refine ⟨rfl, ?_, q1, ?_, ?_, ?_⟩
    · rw [q3, List.getD_eq_getElem?_getD, List.getElem?_eq_getElem q2]; rfl
    · intro d hd
      unfold St.back at hd
      rw [if_pos hb] at hd
      exact hm d (List.mem_of_mem_drop (List.mem_of_mem_take hd))
    · intro d hd
      unfold St.back at hd
      rw [if_pos hb] at hd
      exact hm d (List.mem_of_mem_take hd)
    · unfold St.back
      rw [if_pos hb]
      have : 0 ≤ k ∧ k < (s.marks : Int) := by unfold St.backB at hb; simpa using hb
      show k.toNat ≤ s.marks
      omega
end Go.Proofs.YtchpapppkmnfnaaGreatDoor

namespace Go.Proofs.YtchpapppkmnfnaaGreatDoor
open Go.RowKit
section
variable {B p : Nat} {nv mv : Value} {s : St}
set_option maxRecDepth 10000 in
set_option maxHeartbeats 400000 in
theorem lo_no (x : Int) (hx : isB s.now.length x = false) (w : World) (h : StAt B w p nv mv s) : Calls Tryz.prog 24 #[.pointer (some ⟨p, 0, none⟩), .int .i64 x] w fun e w' => e = .returned (.int .i64 0) ∧ Below w.heap.size w w' := by
  have HIs : Hid (Calls Tryz.prog 39 #[.pointer (some ⟨p, 0, none⟩), .int .i64 x] w fun e w' => e = .returned (.bool false) ∧ w' = w) := by
    have := is_any B p nv mv s x w h
    rw [hx] at this
    exact this
  clear h hx
  go_enter Tryz.func24, Tryz.ntmps24
  go_wp2_with fail
  refine calls_at HIs.out (by with_reducible rfl) (by with_reducible rfl) ?_
  rintro e w1 ⟨rfl, rfl⟩
  go_wp2_with fail
  go_ret
  exact ⟨rfl, Below.refl _ _⟩
set_option maxRecDepth 10000 in
set_option maxHeartbeats 400000 in
theorem hi_no (x : Int) (hx : isB s.now.length x = false) (w : World) (h : StAt B w p nv mv s) : Calls Tryz.prog 23 #[.pointer (some ⟨p, 0, none⟩), .int .i64 x] w fun e w' => e = .returned (.int .i64 0) ∧ Below w.heap.size w w' := by
  have HIs : Hid (Calls Tryz.prog 39 #[.pointer (some ⟨p, 0, none⟩), .int .i64 x] w fun e w' => e = .returned (.bool false) ∧ w' = w) := by
    have := is_any B p nv mv s x w h
    rw [hx] at this
    exact this
  clear h hx
  go_enter Tryz.func23, Tryz.ntmps23
  go_wp2_with fail
  refine calls_at HIs.out (by with_reducible rfl) (by with_reducible rfl) ?_
  rintro e w1 ⟨rfl, rfl⟩
  go_wp2_with fail
  go_ret
  exact ⟨rfl, Below.refl _ _⟩
set_option maxRecDepth 10000 in
set_option maxHeartbeats 400000 in
theorem size_no (x : Int) (hx : isB s.now.length x = false) (w : World) (h : StAt B w p nv mv s) : Calls Tryz.prog 20 #[.pointer (some ⟨p, 0, none⟩), .int .i64 x] w fun e w' => e = .returned (.int .i64 0) ∧ Below w.heap.size w w' := by
  have HIs : Hid (Calls Tryz.prog 39 #[.pointer (some ⟨p, 0, none⟩), .int .i64 x] w fun e w' => e = .returned (.bool false) ∧ w' = w) := by
    have := is_any B p nv mv s x w h
    rw [hx] at this
    exact this
  clear h hx
  go_enter Tryz.func20, Tryz.ntmps20
  go_wp2_with fail
  refine calls_at HIs.out (by with_reducible rfl) (by with_reducible rfl) ?_
  rintro e w1 ⟨rfl, rfl⟩
  go_wp2_with fail
  go_ret
  exact ⟨rfl, Below.refl _ _⟩
set_option maxRecDepth 10000 in
set_option maxHeartbeats 400000 in
theorem vals_no (x : Int) (hx : isB s.now.length x = false) (w : World) (h : StAt B w p nv mv s) : Calls Tryz.prog 11 #[.pointer (some ⟨p, 0, none⟩), .int .i64 x] w fun e w' => e = .returned (.slice none 0 0) ∧ Below w.heap.size w w' := by
  have HIs : Hid (Calls Tryz.prog 39 #[.pointer (some ⟨p, 0, none⟩), .int .i64 x] w fun e w' => e = .returned (.bool false) ∧ w' = w) := by
    have := is_any B p nv mv s x w h
    rw [hx] at this
    exact this
  clear h hx
  go_enter Tryz.func11, Tryz.ntmps11
  go_wp2_with fail
  refine calls_at HIs.out (by with_reducible rfl) (by with_reducible rfl) ?_
  rintro e w1 ⟨rfl, rfl⟩
  go_wp2_with fail
  go_ret
  exact ⟨rfl, Below.refl _ _⟩
set_option maxRecDepth 10000 in
set_option maxHeartbeats 400000 in
theorem has_no (x : Int) (hx : isB s.now.length x = false) (v : Int) (w : World) (h : StAt B w p nv mv s) : Calls Tryz.prog 25 #[.pointer (some ⟨p, 0, none⟩), .int .i64 x, .int .i64 v] w fun e w' => e = .returned (.bool false) ∧ Below w.heap.size w w' := by
  have HIs : Hid (Calls Tryz.prog 39 #[.pointer (some ⟨p, 0, none⟩), .int .i64 x] w fun e w' => e = .returned (.bool false) ∧ w' = w) := by
    have := is_any B p nv mv s x w h
    rw [hx] at this
    exact this
  clear h hx
  go_enter Tryz.func25, Tryz.ntmps25
  go_wp2_with fail
  refine calls_at HIs.out (by with_reducible rfl) (by with_reducible rfl) ?_
  rintro e w1 ⟨rfl, rfl⟩
  go_wp2_with fail
  go_ret
  exact ⟨rfl, Below.refl _ _⟩
end
/-- What is asked of a place, of both. -/
structure Asks (p r : Nat) (x : Int) (lo hi sz : Int) (L : List Int) (hs : Int → Bool) (w : World) : Prop where
  lo1 : Calls Tryz.prog 24 #[.pointer (some ⟨p, 0, none⟩), .int .i64 x] w fun e w' => e = .returned (.int .i64 lo) ∧ Below w.heap.size w w'
  lo2 : Calls Tryz.prog 37 #[.pointer (some ⟨r, 0, none⟩), .int .i64 x] w fun e w' => e = .returned (.int .i64 lo) ∧ Below w.heap.size w w'
  hi1 : Calls Tryz.prog 23 #[.pointer (some ⟨p, 0, none⟩), .int .i64 x] w fun e w' => e = .returned (.int .i64 hi) ∧ Below w.heap.size w w'
  hi2 : Calls Tryz.prog 59 #[.pointer (some ⟨r, 0, none⟩), .int .i64 x] w fun e w' => e = .returned (.int .i64 hi) ∧ Below w.heap.size w w'
  sz1 : Calls Tryz.prog 20 #[.pointer (some ⟨p, 0, none⟩), .int .i64 x] w fun e w' => e = .returned (.int .i64 sz) ∧ Below w.heap.size w w'
  sz2 : Calls Tryz.prog 60 #[.pointer (some ⟨r, 0, none⟩), .int .i64 x] w fun e w' => e = .returned (.int .i64 sz) ∧ Below w.heap.size w w'
  vs1 : Calls Tryz.prog 11 #[.pointer (some ⟨p, 0, none⟩), .int .i64 x] w (VsOut L w)
  vs2 : Calls Tryz.prog 13 #[.pointer (some ⟨r, 0, none⟩), .int .i64 x] w (VsOut L w)
  hs1 : ∀ v, Calls Tryz.prog 25 #[.pointer (some ⟨p, 0, none⟩), .int .i64 x, .int .i64 v] w fun e w' => e = .returned (.bool (hs v)) ∧ Below w.heap.size w w'
  hs2 : ∀ v, Calls Tryz.prog 61 #[.pointer (some ⟨r, 0, none⟩), .int .i64 x, .int .i64 v] w fun e w' => e = .returned (.bool (hs v)) ∧ Below w.heap.size w w'
theorem vs_none {w : World} : ∀ e w', (e = .returned (.slice none 0 0) ∧ Below w.heap.size w w') → VsOut [] w e w' := fun _ _ h => ⟨_, h.1, World.ownsRow_nil _ _ _ _, h.2⟩
theorem asks_at {B Bs p r : Nat} {nv mv : Value} {s : St} {S : Nat → Prop} {MM : List (List (List Int))} {w : World} (x : Int) (h2 : StAt Bs w p nv mv s) (h3 : RsAt B S w r (s.now.map Dm.all) MM) (ha : Alls s) : ∃ lo hi sz L hs, (-1000000000 ≤ lo ∧ lo ≤ hi ∧ hi ≤ 2000000000 ∧ L.length ≤ 64) ∧ ∀ w', Below w.heap.size w w' → Tz w' → Asks p r x lo hi sz L hs w' := by
  cases hi : isB s.now.length x with
  | false =>
    have hi2 : isL (s.now.map Dm.all).length x = false := by rw [List.length_map]; exact hi
    exact ⟨0, 0, 0, [], fun _ => false, ⟨by omega, by omega, by omega, Nat.zero_le _⟩, fun w' hb hT => ⟨lo_no x hi w' (h2.below hb), rLo_no x hi2 w' (h3.below hb), hi_no x hi w' (h2.below hb), rHi_no x hi2 w' (h3.below hb), size_no x hi w' (h2.below hb), rSize_no x hi2 w' (h3.below hb), (vals_no x hi w' (h2.below hb)).mono vs_none, (rVals_no x hi2 w' (h3.below hb)).mono vs_none, fun v => has_no x hi v w' (h2.below hb), fun v => rHas_no x hi2 v w' (h3.below hb)⟩⟩
  | true =>
    obtain ⟨q, rfl, hq⟩ : ∃ q : Nat, x = (q : Int) ∧ q < s.now.length := by
      simp [isB] at hi
      exact ⟨x.toNat, by omega, by omega⟩
    obtain ⟨ho, hA⟩ := ha _ (List.getElem_mem hq)
    have hf := fine_of ho hA
    have hqm : q < (s.now.map Dm.all).length := by rw [List.length_map]; exact hq
    have e0 : (s.now.map Dm.all)[q] = s.now[q].all := List.getElem_map _
    have hp : 0 < (s.now.map Dm.all)[q].length := by rw [e0]; exact all_pos ho hA
    have e1 : (s.now.map Dm.all)[q][0] = s.now[q].lo := by simp only [e0]; exact all_first ho hA
    have e2 : (s.now.map Dm.all)[q][(s.now.map Dm.all)[q].length - 1] = s.now[q].hi := by simp only [e0]; exact all_last ho hA
    have e3 : ((s.now.map Dm.all)[q].length : Int) = s.now[q].size := by rw [e0]; exact all_len ho hA
    refine ⟨s.now[q].lo, s.now[q].hi, s.now[q].size, s.now[q].all, s.now[q].has, ⟨hf.b1, hf.most _ hf.loIn, hf.b2, all_len64 ho hA⟩, fun w' hb hT => ⟨lo_in _ p _ _ s q hq w' (h2.below hb) hT, ?_, hi_in _ p _ _ s q hq w' (h2.below hb), ?_, size_in _ p _ _ s q hq w' (h2.below hb), ?_, values_in _ p _ _ s q hq w' (h2.below hb) hT, ?_, fun v => has_in _ p _ _ s q hq v w' (h2.below hb), fun v => ?_⟩⟩
    · have := rLo_in q hqm hp w' (h3.below hb)
      rw [e1] at this
      exact this
    · have := rHi_in q hqm hp w' (h3.below hb)
      rw [e2] at this
      exact this
    · have := rSize_in q hqm w' (h3.below hb)
      rw [e3] at this
      exact this
    · have := rVals_in q hqm w' (h3.below hb)
      rw [e0] at this
      exact this
    · have := rHas_in q hqm v w' (h3.below hb)
      rw [e0, ← all_has ho hA v] at this
      exact this
theorem open_rel {s : St} (ha : Alls s) : ∀ k, k ≤ s.now.length → openR (s.now.map Dm.all) k = openL s.now k
  | 0, _ => rfl
  | k + 1, hk => by
    have hkl : k < s.now.length := hk
    obtain ⟨ho, hA⟩ := ha _ (List.getElem_mem hkl)
    rw [openR_succ _ _ (by rw [List.length_map]; exact hkl), openL_succ _ _ hkl, open_rel ha k (by omega)]
    refine congrArg (HAppend.hAppend _) ?_
    have e : ((s.now.map Dm.all)[k]'(by rw [List.length_map]; exact hkl)).length = s.now[k].all.length := by rw [List.getElem_map]
    have e3 : (s.now[k].all.length : Int) = bSize s.now[k].a s.now[k].b := all_len ho hA
    rw [e]
    by_cases h1 : 1 < s.now[k].all.length
    · rw [if_pos h1, if_pos (by omega)]
    · rw [if_neg h1, if_neg (by omega)]
end Go.Proofs.YtchpapppkmnfnaaGreatDoor
