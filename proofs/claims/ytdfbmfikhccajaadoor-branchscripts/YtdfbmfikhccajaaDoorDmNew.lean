/-
  Package dom: New.
-/
import Derived.Test.YtdfbmfikhccajaaDoorDmCopy
import Derived.Test.YtdfbmfikhccajaaDoorMdV5
namespace Go.Proofs.YtdfbmfikhccajaaDoor
open Go.RowKit

/-- All values of a variable. -/
def wholeD (v : Md.Vr) : Dm := ⟨v.lo, wWd v.lo v.hi 0, wWd v.lo v.hi 1⟩
/-- The store that New makes. -/
def newS (m : Md.Mo) : St := if (Md.check m).2 = 0 then ⟨m.vars.map wholeD, [], 0⟩ else ⟨[], [], 0⟩
theorem wholeD_ok {v : Md.Vr} (h : Md.boundsB v.lo v.hi = true) : (wholeD v).Ok := by
  have hb := Md.bounds_of h
  exact ⟨hb.1.1, hb.1.2, isW_bits .andNot _ _, isW_bits .andNot _ _⟩
/-- One variable more. -/
theorem new_at {B p k : Nat} {na na2 : Option Addr} {nc nc2 : Nat} {L M : List Dm} {d : Dm} {X w2 : World} (h : StAt B X p (.slice na k nc) (.slice none 0 0) ⟨L, [], 0⟩) (hl : L.length = k) (hM : M = L ++ [d]) (hd : d.Ok) (hk : k + 1 ≤ 32)
    (g1 : w2.ownsRow B 61 3 (.slice na2 (k + 1) nc2) (k + 1) (dms L ++ dms [d])) (g2 : X.grownBy w2 (Value.slice na k nc).ownBlock) (g3 : (Value.slice na2 (k + 1) nc2).ownBlock = (Value.slice na k nc).ownBlock ∨ (Value.slice na2 (k + 1) nc2).ownBlock = some X.heap.size) :
    StAt B (w2.setCell ⟨p, 0, none⟩ (.slice na2 (k + 1) nc2)) p (.slice na2 (k + 1) nc2) (.slice none 0 0) ⟨M, [], 0⟩ ∧ Below B X (w2.setCell ⟨p, 0, none⟩ (.slice na2 (k + 1) nc2)) := by
  subst hM
  have hlt := h.lt
  have hne : (Value.slice na2 (k + 1) nc2).ownBlock ≠ some p := fun e => by
    rcases g3 with g3 | g3
    · exact h.ne1 (g3.symm.trans e)
    · rw [g3] at e
      injection e with e
      omega
  have gp := (g2.block p hlt (fun e => h.ne1 e.symm)).trans h.o
  have hE := heap_setCell_same w2 p 0 _ 53 (.slice na2 (k + 1) nc2) gp
  have hoth : ∀ j, j ≠ p → (w2.setCell ⟨p, 0, none⟩ (.slice na2 (k + 1) nc2)).heap[j]? = w2.heap[j]? := fun j hj => heap_setCell_other _ _ _ _ hj
  refine ⟨{
    o := by simpa only [List.setIfInBounds_toArray, List.set_cons_zero] using hE
    n := by
      show World.ownsRow _ _ _ _ _ (L ++ [d]).length (dms (L ++ [d]))
      rw [List.length_append, dms_append, hl]
      exact row_kept g1 (fun g hg => hoth g (fun e => hne (by rw [← e]; exact hg)))
    m := World.ownsRow_nil _ _ _ _
    b1 := h.b1
    p1 := h.p1
    ne1 := hne
    ne2 := fun e => by cases e
    ne3 := fun j _ e => by cases e
    good := fun x hx => by
      rcases List.mem_append.1 hx with hx | hx
      · exact h.good x hx
      · rw [List.mem_singleton.1 hx]; exact hd
    goodm := fun x hx => by cases hx
    len := by show 0 = 0 * _; rw [Nat.zero_mul]
    n32 := by show (L ++ [d]).length ≤ 32; rw [List.length_append, hl]; exact hk
    mks := by show 0 ≤ 10000; omega }, ?_⟩
  exact ((Below.refl _ _).grown g2 h.size (fun g hg => (row_lt h.n hg).1)).setCell h.p1 _

/-- What New leaves. -/
def NewOut (m : Md.Mo) (w : World) (e : Ending) (w' : World) : Prop := ∃ p nv mv, e = .returned (.pointer (some ⟨p, 0, none⟩)) ∧ StAt w.heap.size w' p nv mv (newS m) ∧ Below w.heap.size w w'
set_option maxRecDepth 10000 in
set_option maxHeartbeats 1000000 in
theorem new_any (m : Md.Mo) (vv vc vg : Value) (w : World) (h : MoAt w m vv vc vg) (hs : 0 < w.heap.size) : Calls Tryd.prog 11 #[moVal m vv vc vg] w (NewOut m w) := by
  obtain ⟨W, hW⟩ : ∃ W, (w.alloc (.cells #[vv, vc, .bool m.has, vg] 44)).alloc (.cells #[.slice none 0 0, .slice none 0 0, .int .i64 0] 53) = W := ⟨_, rfl⟩
  have hb0 : Below w.heap.size w W := by rw [← hW]; exact ((Below.refl _ _).alloc (Nat.le_refl _) _).alloc (by simp) _
  have HB : Hid (Below w.heap.size w W) := hb0
  have g0 : W.heap[w.heap.size]? = some (.cells #[vv, vc, .bool m.has, vg] 44 (0, 0)) := by rw [← hW, heap_alloc_old (w.alloc _) _ (by simp)]; exact heap_alloc_new w _
  have g1 : W.heap[w.heap.size + 1]? = some (.cells #[.slice none 0 0, .slice none 0 0, .int .i64 0] 53 (0, 0)) := by rw [← hW]; exact heap_alloc2_new w _ _
  have hlt := (Array.getElem?_eq_some_iff.1 g0).1
  have HG0 : Hid (∀ w', Below W.heap.size W w' → w'.heap[w.heap.size]? = some (.cells #[vv, vc, .bool m.has, vg] 44 (0, 0))) := fun w' hb => (hb.block _ hlt).trans g0
  have HM : Hid (MoAt w m vv vc vg) := h
  have HCh : Hid (Calls Tryd.prog 14 #[.agg #[vv, vc, .bool m.has, vg]] W fun e w' => e = .returned (.tuple #[.int .i64 (Md.check m).1, .int .i64 (Md.check m).2]) ∧ Below W.heap.size W w') := check_any m vv vc vg W (h.below hb0)
  have HE0 : Hid (∀ w', Below W.heap.size W w' → StAt w.heap.size w' (w.heap.size + 1) (.slice none 0 0) (.slice none 0 0) ⟨[], [], 0⟩) := fun w' hb => {
    o := (hb.block _ (Array.getElem?_eq_some_iff.1 g1).1).trans g1
    n := World.ownsRow_nil _ _ _ _
    m := World.ownsRow_nil _ _ _ _
    b1 := hs
    p1 := Nat.le_succ _
    ne1 := fun e => by cases e
    ne2 := fun e => by cases e
    ne3 := fun j _ e => by cases e
    good := fun x hx => by cases hx
    goodm := fun x hx => by cases hx
    len := rfl
    n32 := Nat.zero_le _
    mks := Nat.zero_le _ }
  have c0 : W.cell? ⟨w.heap.size, 0, none⟩ = some vv := cell_of g0 0
  have c1 : W.cell? ⟨w.heap.size, 1, none⟩ = some vc := cell_of g0 1
  have c2 : W.cell? ⟨w.heap.size, 2, none⟩ = some (.bool m.has) := cell_of g0 2
  have c3 : W.cell? ⟨w.heap.size, 3, none⟩ = some vg := cell_of g0 3
  clear hb0 g0 g1 hlt h
  unfold moVal
  go_enter Tryd.func11, Tryd.ntmps11
  go_wp2_with fail
  refine calls_at HCh.out (by with_reducible rfl) (by with_reducible rfl) ?_
  rintro e w1 ⟨rfl, hb1⟩
  have HB1 : Hid (Below W.heap.size W w1) := hb1
  clear hb1 c0 c1 c2 c3 hW
  by_cases hok : (Md.check m).2 = 0
  · have hR := Md.right_of hok
    have HNs : Hid (newS m = ⟨m.vars.map wholeD, [], 0⟩) := by show _ = _; unfold newS; rw [if_pos hok]
    have hn := hR.nv
    have HOk : Hid (∀ v ∈ m.vars, Md.boundsB v.lo v.hi = true) := fun v hv => (hR.var v hv).2
    clear hR
    have d0 : w1.cell? ⟨w.heap.size, 0, none⟩ = some vv := cell_of (HG0.out w1 HB1.out) 0
    obtain ⟨va, vp, rfl, hvm, _, hvo⟩ := id HM.out.v
    have HVC : Hid (∀ w', Below w.heap.size w w' → ∀ j (hj : j < m.vars.length), ∃ b off, va = some ⟨b, off, none⟩ ∧ w'.cell? ⟨b, off + j * 3, none⟩ = some (.string m.vars[j].name) ∧ w'.cell? ⟨b, off + j * 3 + 1, none⟩ = some (.int .i64 m.vars[j].lo) ∧ w'.cell? ⟨b, off + j * 3 + 2, none⟩ = some (.int .i64 m.vars[j].hi)) := fun w' hb j hj => by
      obtain ⟨b, off, e1, e2, e3⟩ := hvo (by omega)
      obtain ⟨f1, f2, f3⟩ := e3 j hj
      exact ⟨b, off, e1, (hb.cell (p := ⟨b, off + j * 3, none⟩) e2).trans f1, (hb.cell (p := ⟨b, off + j * 3 + 1, none⟩) e2).trans f2, (hb.cell (p := ⟨b, off + j * 3 + 2, none⟩) e2).trans f3⟩
    clear hvo
    go_wp2_with fail
    go_loopw [21] (fun iv wr => ∃ (k : Nat) (na : Option Addr) (nc : Nat), iv = .int .i64 (k : Int) ∧ k ≤ m.vars.length ∧ Hid (StAt w.heap.size wr (w.heap.size + 1) (.slice na k nc) (.slice none 0 0) ⟨(m.vars.take k).map wholeD, [], 0⟩) ∧ Hid (Below w.heap.size w wr)) (fun iv _ => m.vars.length - (intOf iv).toNat)
    case atStart => exact ⟨0, none, 0, rfl, Nat.zero_le _, HE0.out w1 HB1.out, HB.out.trans (HB1.out.mono HB.out.size)⟩
    case round =>
      obtain ⟨k, na, nc, rfl, hk, HAr, HBr⟩ := hrel
      by_cases hkn : k < m.vars.length
      · have hkI : (k : Int) < (m.vars.length : Int) := by omega
        obtain ⟨b, off, rfl, x0, x1, x2⟩ := HVC.out wr HBr.out k hkn
        have HKl : Hid (((m.vars.take k).map wholeD).length = k) := by show _ = _; rw [List.length_map, List.length_take]; omega
        have HTk : Hid ((m.vars.take (k + 1)).map wholeD = (m.vars.take k).map wholeD ++ [wholeD m.vars[k]]) := by show _ = _; rw [List.take_succ_eq_append_getElem hkn, List.map_append]; rfl
        have hbd := HOk.out m.vars[k] (List.getElem_mem hkn)
        have HOkv : Hid ((wholeD m.vars[k]).Ok) := wholeD_ok hbd
        obtain ⟨v, hv⟩ : ∃ v, m.vars[k] = v := ⟨_, rfl⟩
        rw [hv] at x0 x1 x2 HTk hbd HOkv
        have hbb := Md.bounds_of hbd
        have HWh : Hid (∀ w', Calls Tryd.prog 15 #[.agg #[.string v.name, .int .i64 v.lo, .int .i64 v.hi]] w' fun e w2 => e = .returned (.agg #[.int .i64 v.lo, .int .u32 (wWd v.lo v.hi 0), .int .u32 (wWd v.lo v.hi 1)]) ∧ Below w'.heap.size w' w2) := fun w' => whole_any v.name v.lo v.hi w' (by omega) (by omega)
        clear hbd hv hbb
        go_wp2_with fail
        obtain ⟨Y, hY⟩ : ∃ Y, wr.alloc (.cells #[.string v.name, .int .i64 v.lo, .int .i64 v.hi] 39) = Y := ⟨_, rfl⟩
        have hbY : Below wr.heap.size wr Y := by rw [← hY]; exact (Below.refl _ _).alloc (Nat.le_refl _) _
        have HAY : Hid (StAt w.heap.size Y.drew (w.heap.size + 1) (.slice na k nc) (.slice none 0 0) ⟨(m.vars.take k).map wholeD, [], 0⟩) := (HAr.out.below hbY).below (Below.refl _ _).drew
        have HBY : Hid (Below w.heap.size w Y.drew) := (HBr.out.trans (hbY.mono HBr.out.size)).drew
        have hgY : Y.drew.heap[wr.heap.size]? = some (.cells #[.string v.name, .int .i64 v.lo, .int .i64 v.hi] 39 (0, 0)) := by rw [← hY]; exact heap_alloc_new wr _
        have HC0 : Hid (Y.drew.cell? ⟨w.heap.size + 1, 0, none⟩ = some (.slice na k nc)) := cell_of HAY.out.o 0
        have HYg : Hid (Y.drew.heap[wr.heap.size]? = some (.cells #[.string v.name, .int .i64 v.lo, .int .i64 v.hi] 39 (0, 0))) := hgY
        have HYlt : Hid (wr.heap.size < Y.drew.heap.size) := (Array.getElem?_eq_some_iff.1 hgY).1
        have HCC : Hid (∀ w' : World, StAt w.heap.size w' (w.heap.size + 1) (.slice na k nc) (.slice none 0 0) ⟨(m.vars.take k).map wholeD, [], 0⟩ → w'.heap[wr.heap.size]? = some (.cells #[.string v.name, .int .i64 v.lo, .int .i64 v.hi] 39 (0, 0)) → w'.cell? ⟨w.heap.size + 1, 0, none⟩ = some (.slice na k nc) ∧ w'.cell? ⟨wr.heap.size, 0, none⟩ = some (.string v.name) ∧ w'.cell? ⟨wr.heap.size, 1, none⟩ = some (.int .i64 v.lo) ∧ w'.cell? ⟨wr.heap.size, 2, none⟩ = some (.int .i64 v.hi)) := fun w' h1 h2 => ⟨cell_of h1.o 0, cell_of h2 0, cell_of h2 1, cell_of h2 2⟩
        rw [hY]
        refine wp_region_T (fun _ => True) (fun w' => w'.cell? ⟨w.heap.size + 1, 0, none⟩ = some (.slice na k nc) ∧ w'.cell? ⟨wr.heap.size, 0, none⟩ = some (.string v.name) ∧ w'.cell? ⟨wr.heap.size, 1, none⟩ = some (.int .i64 v.lo) ∧ w'.cell? ⟨wr.heap.size, 2, none⟩ = some (.int .i64 v.hi)) [11] (by kernel_rfl) ⟨trivial, HCC.out _ HAY.out hgY⟩ (fun hHeld => ?_)
        clear hgY HC0 hbY hY x0 x1 x2
        have HAU := HAY
        have HBU := HBY
        generalize Y.drew = U at HAU HBU HYg HYlt hHeld ⊢
        refine wpAnyT_takeB (i := 0) (oi := ⟨some 25, .move (.tmp 3), _, _, _, _⟩) (v := ?vR8x0) rfl (by kernel_rfl) (by kernel_rfl) (by kernel_rfl) (by kernel_rfl) (fun _ _ _ h => h) (Or.inl ⟨by rfl, ?hyR8x0⟩) (by assumption) ?restR8x0
        case hyR8x0 => (intro w hSw; (try dsimp only at hSw); go_simp; try (with_reducible rfl))
        try simp only [Act.put, List.setIfInBounds_toArray, List.set_cons_zero, List.set_cons_succ]
        refine wpAnyT_takeB (i := 1) (oi := ⟨some 26, .move (.tmp 3), _, _, _, _⟩) (v := ?vR8x1) rfl (by kernel_rfl) (by kernel_rfl) (by kernel_rfl) (by kernel_rfl) (fun _ _ _ h => h) (Or.inl ⟨by rfl, ?hyR8x1⟩) (by assumption) ?restR8x1
        case hyR8x1 => (intro w hSw; (try dsimp only at hSw); go_simp; try (with_reducible rfl))
        try simp only [Act.put, List.setIfInBounds_toArray, List.set_cons_zero, List.set_cons_succ]
        refine wpAnyT_takeB (i := 2) (oi := ⟨some 27, .nilCheck (.tmp 26), _, _, _, _⟩) (v := ?vR8x2) rfl (by kernel_rfl) (by kernel_rfl) (by kernel_rfl) (by kernel_rfl) (fun _ _ _ h => h) (Or.inl ⟨by rfl, ?hyR8x2⟩) (by assumption) ?restR8x2
        case hyR8x2 => (intro w hSw; (try dsimp only at hSw); go_simp; try (with_reducible rfl))
        try simp only [Act.put, List.setIfInBounds_toArray, List.set_cons_zero, List.set_cons_succ]
        refine wpAnyT_takeB (i := 3) (oi := ⟨some 28, .fieldAddr 53 (.tmp 27) 0, _, _, _, _⟩) (v := ?vR8x3) rfl (by kernel_rfl) (by kernel_rfl) (by kernel_rfl) (by kernel_rfl) (fun _ _ _ h => h) (Or.inl ⟨by rfl, ?hyR8x3⟩) (by assumption) ?restR8x3
        case hyR8x3 => (intro w hSw; (try dsimp only at hSw); go_simp; try (with_reducible rfl))
        try simp only [Act.put, List.setIfInBounds_toArray, List.set_cons_zero, List.set_cons_succ]
        refine wpAnyT_take (i := 4) (oi := ⟨some 29, .load 51 (.tmp 28), _, _, _, _⟩) (v := ?vR8x4) rfl (by kernel_rfl) (by kernel_rfl) (by kernel_rfl) (by kernel_rfl) (by kernel_rfl) (fun _ _ _ h => h) (Or.inl ⟨by rfl, ?hyR8x4⟩) (by assumption) ?restR8x4
        case hyR8x4 => (intro w hSw; (try dsimp only at hSw); go_simp; try (with_reducible rfl))
        try simp only [Act.put, List.setIfInBounds_toArray, List.set_cons_zero, List.set_cons_succ]
        refine wpAnyT_take (i := 5) (oi := ⟨some 30, .load 39 (.tmp 7), _, _, _, _⟩) (v := ?vR8x5) rfl (by kernel_rfl) (by kernel_rfl) (by kernel_rfl) (by kernel_rfl) (by kernel_rfl) (fun _ _ _ h => h) (Or.inl ⟨by rfl, ?hyR8x5⟩) (by assumption) ?restR8x5
        case hyR8x5 => (intro w hSw; (try dsimp only at hSw); go_simp; try (with_reducible rfl))
        try simp only [Act.put, List.setIfInBounds_toArray, List.set_cons_zero, List.set_cons_succ]
        refine wpAnyT_one (i := 6) (o := ⟨some 31, .call { callee := .value (.func 15), args := #[(.tmp 30)], argTypes := #[39] }, _, _, _, _⟩) (by kernel_rfl) rfl (fun K hK => ?_)
        go_simp
        refine calls_at (HWh.out _) (by with_reducible rfl) (by with_reducible rfl) ?_
        rintro e w1 ⟨rfl, hb1⟩
        have HA1 : Hid (StAt w.heap.size w1 (w.heap.size + 1) (.slice na k nc) (.slice none 0 0) ⟨(m.vars.take k).map wholeD, [], 0⟩) := HAU.out.below hb1
        have HB1 : Hid (Below U.heap.size U w1) := hb1
        have p0 := HCC.out w1 HA1.out ((HB1.out.block _ HYlt.out).trans HYg.out)
        go_wp2_with fail
        refine hK.out _ _ ⟨trivial, fun _ => p0⟩ ?_
        have hHeld := (⟨trivial, p0⟩ : True ∧ _)
        clear hK K hb1
        try simp only [Act.put, List.setIfInBounds_toArray, List.set_cons_zero, List.set_cons_succ]
        refine wpAnyT_one (i := 7) (o := ⟨some 32, .buildSlice 51 1 #[(0, (.tmp 31))], _, _, _, _⟩) (by kernel_rfl) rfl (fun K hK => ?_)
        go_simp
        obtain ⟨X, hX⟩ : ∃ X, w1.alloc (.cells #[.int .i64 v.lo, .int .u32 (wWd v.lo v.hi 0), .int .u32 (wWd v.lo v.hi 1)] 61) = X := ⟨_, rfl⟩
        have hbX : Below w1.heap.size w1 X := by rw [← hX]; exact (Below.refl _ _).alloc (Nat.le_refl _) _
        have HAX : Hid (StAt w.heap.size X (w.heap.size + 1) (.slice na k nc) (.slice none 0 0) ⟨(m.vars.take k).map wholeD, [], 0⟩) := HA1.out.below hbX
        have HBX : Hid (Below U.heap.size U X) := bl_next HB1.out hbX
        have HSX : Hid (SrcAt X (.slice (some ⟨w1.heap.size, 0, none⟩) 1 1) 1 3 (dms [wholeD v])) := by
          have hg : X.heap[w1.heap.size]? = some (.cells #[.int .i64 v.lo, .int .u32 (wWd v.lo v.hi 0), .int .u32 (wWd v.lo v.hi 1)] 61 (0, 0)) := by rw [← hX]; exact heap_alloc_new w1 _
          exact row_src (B := 0) (e := 61) (L := [wholeD v]) ⟨rfl, .inr ⟨w1.heap.size, 1, _, rfl, Nat.zero_le _, hg, Nat.le_refl _, by unfold maxLen; decide, rfl, rfl⟩⟩
        have px := HCC.out X HAX.out ((HBX.out.block _ HYlt.out).trans HYg.out)
        have HXg : Hid (X.heap[wr.heap.size]? = some (.cells #[.string v.name, .int .i64 v.lo, .int .i64 v.hi] 39 (0, 0)) ∧ wr.heap.size < X.heap.size) := ⟨(HBX.out.block _ HYlt.out).trans HYg.out, Nat.lt_of_lt_of_le HYlt.out HBX.out.size⟩
        rw [hX]
        refine hK.out _ _ ⟨trivial, fun _ => px⟩ ?_
        have hHeld := (⟨trivial, px⟩ : True ∧ _)
        clear hK K hbX hX p0
        try simp only [Act.put, List.setIfInBounds_toArray, List.set_cons_zero, List.set_cons_succ]
        refine wpAnyT_one (i := 8) (o := ⟨some 33, .call { callee := .builtin .append, args := #[(.tmp 29), (.tmp 32)], argTypes := #[51, 51] }, _, _, _, _⟩) (by kernel_rfl) rfl (fun K hK => ?_)
        refine op_append_src X (.tmp 29) (.tmp 32) 51 61 (.agg #[.int .i64 0, .int .u32 0, .int .u32 0]) 3 16 rfl und57 info67b rfl (by decide) w.heap.size _ _ k 1 (dms ((m.vars.take k).map wholeD)) (dms [wholeD v]) (by rfl) (by rfl) (by have hq := HAX.out.n; rw [HKl.out] at hq; exact hq) HSX.out (by unfold maxLen; omega) (by omega) HAX.out.size (by rfl) ?_
        intro nv2 w2 g1 g2 g3
        obtain ⟨na2, nc2, rfl⟩ := own_slice g1
        have HF2 : Hid (StAt w.heap.size (w2.setCell ⟨w.heap.size + 1, 0, none⟩ (.slice na2 (k + 1) nc2)) (w.heap.size + 1) (.slice na2 (k + 1) nc2) (.slice none 0 0) ⟨(m.vars.take (k + 1)).map wholeD, [], 0⟩ ∧ Below w.heap.size X (w2.setCell ⟨w.heap.size + 1, 0, none⟩ (.slice na2 (k + 1) nc2))) := new_at HAX.out HKl.out HTk.out HOkv.out (by omega) g1 g2 g3
        have HG2 : Hid (w2.heap[w.heap.size + 1]? = some (.cells #[.slice na k nc, .slice none 0 0, .int .i64 0] 53 (0, 0))) := (g2.block _ HAX.out.lt (fun e => HAX.out.ne1 e.symm)).trans HAX.out.o
        have hwv := (g2.block _ HXg.out.2 (fun e => Nat.lt_irrefl _ (row_lt HAr.out.n e.symm).2)).trans HXg.out.1
        have pw := (⟨cell_of HG2.out 0, cell_of hwv 0, cell_of hwv 1, cell_of hwv 2⟩ : w2.cell? ⟨w.heap.size + 1, 0, none⟩ = some (.slice na k nc) ∧ w2.cell? ⟨wr.heap.size, 0, none⟩ = some (.string v.name) ∧ w2.cell? ⟨wr.heap.size, 1, none⟩ = some (.int .i64 v.lo) ∧ w2.cell? ⟨wr.heap.size, 2, none⟩ = some (.int .i64 v.hi))
        clear hwv
        have pz : ∀ i, w2.frozen? ⟨w.heap.size + 1, i, none⟩ = false := frozen_of HG2.out
        clear g1 g2 g3 px hHeld
        refine hK.out _ _ ⟨trivial, fun _ => pw⟩ ?_
        have hHeld := (⟨trivial, pw⟩ : True ∧ _)
        clear hK K
        try simp only [Act.put, List.setIfInBounds_toArray, List.set_cons_zero, List.set_cons_succ]
        refine wpAnyT_takeB (i := 9) (oi := ⟨some 34, .nilCheck (.tmp 25), _, _, _, _⟩) (v := ?vR8x9) rfl (by kernel_rfl) (by kernel_rfl) (by kernel_rfl) (by kernel_rfl) (fun _ _ _ h => h) (Or.inl ⟨by rfl, ?hyR8x9⟩) (by assumption) ?restR8x9
        case hyR8x9 => (intro w hSw; (try dsimp only at hSw); go_simp; try (with_reducible rfl))
        try simp only [Act.put, List.setIfInBounds_toArray, List.set_cons_zero, List.set_cons_succ]
        refine wpAnyT_takeB (i := 10) (oi := ⟨some 35, .fieldAddr 53 (.tmp 34) 0, _, _, _, _⟩) (v := ?vR8x10) rfl (by kernel_rfl) (by kernel_rfl) (by kernel_rfl) (by kernel_rfl) (fun _ _ _ h => h) (Or.inl ⟨by rfl, ?hyR8x10⟩) (by assumption) ?restR8x10
        case hyR8x10 => (intro w hSw; (try dsimp only at hSw); go_simp; try (with_reducible rfl))
        try simp only [Act.put, List.setIfInBounds_toArray, List.set_cons_zero, List.set_cons_succ]
        refine wpAnyT_late (i := 11) (o := ⟨none, .store 51 (.tmp 35) (.tmp 33), _, _, _, _⟩) (by kernel_rfl) rfl (by kernel_rfl) (fun K hK => ?_)
        go_simp
        refine hK.out _ _ ?shR8x11 ?restR8x11
        case shR8x11 => trivial
        clear hK K
        try simp only [Act.put, List.setIfInBounds_toArray, List.set_cons_zero, List.set_cons_succ]
        refine wpAnyT_done (by kernel_rfl) ?_ _
        clear hHeld pw pz
        go_wp2_with fail
        go_roundw
        case rel => exact ⟨k + 1, na2, nc2, by go_num, hkn, HF2.out.1, HBU.out.trans ((HBX.out.mono (Nat.le_trans (Nat.le_refl _) HBU.out.size)).trans HF2.out.2)⟩
        case measure => simp [intOf]; omega
      · have hke : k = m.vars.length := by omega
        subst hke
        rw [List.take_length, ← HNs.out] at HAr
        go_wp2_with fail
        go_ret
        exact ⟨_, _, _, rfl, HAr.out, HBr.out⟩
  · have HNs : Hid (newS m = ⟨[], [], 0⟩) := by show _ = _; unfold newS; rw [if_neg hok]
    have hne : ((Md.check m).2 == 0) = false := by simp [hok]
    go_wp2_with fail
    go_ret
    exact ⟨_, _, _, rfl, by rw [HNs.out]; exact HE0.out w1 HB1.out, HB.out.trans (HB1.out.mono HB.out.size)⟩
end Go.Proofs.YtdfbmfikhccajaaDoor
