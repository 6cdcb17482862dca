/-
  Package big: compareLimbs.
-/
import Derived.Test.YtjffbndiecjkjaaGreatDoorSub
import Derived.Test.YtjffbndiecjkjaaGreatDoorIs
namespace Go.Proofs.YtjffbndiecjkjaaGreatDoor
open Go.RowKit Go.Shelf
open Bn (limbs)
attribute [local go_sem] Oper.semAt_some

set_option maxRecDepth 100000 in
set_option maxHeartbeats 1000000 in
/-- cmp.Compare of two limbs. -/
theorem compare32_any (p q : Nat) (w : World) :
    Calls Tryz.prog 92 #[.int .u32 (p : Int), .int .u32 (q : Int)] w fun e w' => e = .returned (.int .i64 (cmpI p q)) ∧ w' = w := by
  rcases Nat.lt_trichotomy p q with h | h | h
  · have h1 : (p : Int) < (q : Int) := by omega
    have HE : Hid (cmpI (p : Int) (q : Int) = -1) := cmpI_lt h1
    go_enter Tryz.func92, Tryz.ntmps92
    go_wp2_with (go_at_call 109; go_in)
    go_ret
    exact ⟨ret_int HE.out.symm, rfl⟩
  · subst h
    have HE : Hid (cmpI (p : Int) (p : Int) = 0) := cmpI_eq (by omega) (by omega)
    go_enter Tryz.func92, Tryz.ntmps92
    go_wp2_with (go_at_call 109; go_in)
    go_ret
    exact ⟨ret_int HE.out.symm, rfl⟩
  · have h1 : ¬ (p : Int) < (q : Int) := by omega
    have h2 : (q : Int) < (p : Int) := by omega
    have HE : Hid (cmpI (p : Int) (q : Int) = 1) := cmpI_gt h2
    go_enter Tryz.func92, Tryz.ntmps92
    go_wp2_with (go_at_call 109; go_in)
    go_ret
    exact ⟨ret_int HE.out.symm, rfl⟩

theorem kept_put {W : World} {D N : Nat} (o : Obj) (h : N ≠ D) : (W.putObj D o).cell? ⟨N, 0, none⟩ = W.cell? ⟨N, 0, none⟩ :=
  World.cell?_of_block (a := ⟨N, 0, none⟩) (World.putObj_heap_other h)

/-- At these places both numbers have the same limb. -/
def eqs (x y : Nat) (pre : List (Fin (limbs x).length)) : Prop := ∀ i ∈ pre, (limbs x)[i] = lAt (limbs y) i.val

theorem eqs_top {x y k : Nat} (hl : (limbs x).length = (limbs y).length) (hk : k ≤ (limbs x).length) (h : eqs x y ((backF (limbs x).length).take k)) : x / 1000000000 ^ ((limbs x).length - k) = y / 1000000000 ^ ((limbs x).length - k) := by
  have e : (limbs x).drop ((limbs x).length - k) = (limbs y).drop ((limbs x).length - k) := by
    refine List.ext_getElem (by simp; omega) fun j hj1 hj2 => ?_
    simp only [List.length_drop] at hj1 hj2
    have hi : (limbs x).length - k + j < (limbs x).length := by omega
    have hm : (⟨(limbs x).length - k + j, hi⟩ : Fin (limbs x).length) ∈ (backF (limbs x).length).take k := by
      rw [List.mem_iff_getElem?]
      refine ⟨k - 1 - j, ?_⟩
      rw [List.getElem?_take, if_pos (by omega), backF_get _ _ (by omega)]
      congr 2
      omega
    have := h _ hm
    rw [lAt_get (by simp; omega)] at this
    simpa using this
  rw [Bn.drop_limbs, Bn.drop_limbs] at e
  rw [← Bn.val_limbs' (x / _), e, Bn.val_limbs']

set_option maxRecDepth 100000 in
set_option maxHeartbeats 2000000 in
theorem compareLimbs_same (x y : Nat) (va vb : Value) (w : World) (ha : U32At w va (limbs x)) (hb : U32At w vb (limbs y)) (hl : (limbs x).length = (limbs y).length) (hx : (limbs x).length ≤ 5000000) :
    Calls Tryz.prog 65 #[va, vb] w fun e w' => e = .returned (.int .i64 (cmpI x y)) ∧ Below w.heap.size w w' := by
  have HA : Hid (U32At w va (limbs x)) := ha
  have HB : Hid (U32At w vb (limbs y)) := hb
  obtain ⟨a, cap, rfl, hm⟩ := ha.form
  obtain ⟨b, capb, rfl, hmb⟩ := hb.form
  have hne : (((limbs x).length : Int) != ((limbs y).length : Int)) = false := by simp; omega
  have HL : Hid ((limbs x).length = (limbs y).length) := hl
  have hro : Fence.wide.round = none := rfl
  have h1 : 1 ≤ 5 := by omega
  clear ha hb hl
  refine (callsIn_wide (n := 5)).1 ?_
  refine callsIn_of_wp_marks Tryz.func65 rfl trivial ?_ hro
  simp only [Tryz.ntmps65, List.size_toArray, List.length_cons, List.length_nil, Nat.reduceAdd, Nat.reduceSub, Array.replicate_succ, Array.replicate_zero, List.push_toArray, List.append_toArray, List.nil_append, List.cons_append]
  gi_wp2_with fail
  refine ⟨trivial, ?_⟩
  refine (backward_in Fence.wide 4 trivial hro _ _ _ _).mono ?_
  rintro e w' ⟨rfl, rfl⟩
  gi_wp2
  have hB0 : Below w.heap.size w (((w.alloc (.cells #[.slice b (limbs y).length capb] 76)).alloc (.cells #[.int .i64 0] 3)).alloc (.cells #[.slice a (limbs x).length cap] 76)) := (((Below.refl _ w).alloc (Nat.le_refl _) _).alloc (by simp) _).alloc (by simp; omega) _
  have k0 : (((w.alloc (.cells #[.slice b (limbs y).length capb] 76)).alloc (.cells #[.int .i64 0] 3)).alloc (.cells #[.slice a (limbs x).length cap] 76)).cell? ⟨w.heap.size, 0, none⟩ = some (.slice b (limbs y).length capb) := by
    rw [World.cell?_alloc_past _ _ _ (by simp; omega), World.cell?_alloc_past _ _ _ (by simp)]; exact alloc_first _ _ _
  have hs1 : (w.alloc (.cells #[.slice b (limbs y).length capb] 76)).heap.size = w.heap.size + 1 := by simp
  have k1 : (((w.alloc (.cells #[.slice b (limbs y).length capb] 76)).alloc (.cells #[.int .i64 0] 3)).alloc (.cells #[.slice a (limbs x).length cap] 76)).cell? ⟨w.heap.size + 1, 0, none⟩ = some (.int .i64 0) ∧
      (((w.alloc (.cells #[.slice b (limbs y).length capb] 76)).alloc (.cells #[.int .i64 0] 3)).alloc (.cells #[.slice a (limbs x).length cap] 76)).frozen? ⟨w.heap.size + 1, 0, none⟩ = false := by
    rw [World.cell?_alloc_past _ _ _ (by simp), World.frozen?_alloc_past _ _ _ (by simp), ← hs1]; exact cell_new1 _ _ _
  have hs2 : ((w.alloc (.cells #[.slice b (limbs y).length capb] 76)).alloc (.cells #[.int .i64 0] 3)).heap.size = w.heap.size + 1 + 1 := by simp
  have k2 : (((w.alloc (.cells #[.slice b (limbs y).length capb] 76)).alloc (.cells #[.int .i64 0] 3)).alloc (.cells #[.slice a (limbs x).length cap] 76)).cell? ⟨w.heap.size + 1 + 1, 0, none⟩ = some (.slice a (limbs x).length cap) := by
    rw [← hs2]; exact alloc_first _ _ _
  refine wpIn_rangeFunc_ownF hro h1 (gf := 100) (lb := #[.pointer (some ⟨w.heap.size + 1 + 1, 0, none⟩)]) rfl trivial (enters_of Tryz.func100 (by kernel_rfl) rfl)
    (backward_stops Fence.wide 4 trivial hro (by omega) (w.heap.size + 1 + 1) (.slice a (limbs x).length cap) (limbs x) (by omega) w _ (by simp) hB0 k2 HA.out) KpB.trans (KpB.putObj (by simp; omega) (by simp)) (Below.refl _ _) (fun _ => rfl)
    (fun pre W => (W.cell? ⟨w.heap.size, 0, none⟩ = some (.slice b (limbs y).length capb) ∧ W.cell? ⟨w.heap.size + 1, 0, none⟩ = some (.int .i64 0) ∧ W.frozen? ⟨w.heap.size + 1, 0, none⟩ = false ∧ eqs x y pre) ∧ Below w.heap.size w W)
    (fun c pre W => (∃ d, W.cell? ⟨w.heap.size + 1, 0, none⟩ = some (.int .i64 d) ∧ c = .ret ∧ ∃ pre' i, pre = pre' ++ [i] ∧ eqs x y pre' ∧ (limbs x)[i] ≠ lAt (limbs y) i.val ∧ d = cmpI (((limbs x)[i] : Nat) : Int) ((lAt (limbs y) i.val : Nat) : Int)) ∧ Below w.heap.size w W)
    (OwnFrom.and (Own.from (fun s A B row hs hg hr => ⟨cell_kept hs.1 hg hr, cell_kept hs.2.1 hg hr, (frozen_kept hs.2.1 hg hr).trans hs.2.2.1, hs.2.2.2⟩) _) (ownFrom_below (Nat.le_refl _) (by simp; omega)))
    (fun _ => OwnFrom.and (Own.from (fun s A B row hs hg hr => by obtain ⟨d, h1, h2⟩ := hs; exact ⟨d, cell_kept h1 hg hr, h2⟩) _) (ownFrom_below (Nat.le_refl _) (by simp; omega)))
    ⟨⟨k0, k1.1, k1.2, fun i hi => by cases hi⟩, hB0⟩
    (fun y' => { tmps := #[.slice a (limbs x).length cap, .slice b (limbs y).length capb, undef, .pointer (some ⟨w.heap.size, 0, none⟩), .pointer (some ⟨w.heap.size + 1, 0, none⟩), .int .i64 (y'.val : Int), .int .u32 (((limbs x)[y'] : Nat) : Int), .slice a (limbs x).length cap, .int .i64 ((limbs x).length : Int), .slice b (limbs y).length capb, .int .i64 ((limbs y).length : Int), .bool false, undef, undef, undef, undef, undef, .slice a (limbs x).length cap, .func (.func 100) #[] #[.pointer (some ⟨w.heap.size + 1 + 1, 0, none⟩)], .int .i64 (y'.val : Int), .int .u32 (((limbs x)[y'] : Nat) : Int), undef, undef, undef, undef, undef, undef, undef, undef, undef, undef, undef, undef], defers := [] }) ?assign ?body ?done ?stop
  case assign =>
    intro l i W K hK
    simp only [limbEnc]
    gi_wp2
    exact hK
  case body =>
    rintro l pre i W ⟨⟨c0, c1, c2, he⟩, hB⟩ _
    have hiy : i.val < (limbs y).length := by have := i.isLt; have := HL.out; omega
    have hiI : (i.val : Int) < ((limbs y).length : Int) := by omega
    obtain ⟨bb, off, cap', hv, hbb, _, _, hcb⟩ := HB.out.pos (by omega)
    injection hv with e1 _ e3
    subst e1 e3
    have hcq : W.cell? ⟨bb, off + i.val, none⟩ = some (.int .u32 ((lAt (limbs y) i.val : Nat) : Int)) := by
      rw [lAt_get hiy]; exact (hB.cell (p := ⟨bb, off + i.val, none⟩) hbb).trans (hcb i.val hiy)
    have HE : Hid (eqs x y pre) := he
    have HI : Hid ((limbs x)[i] = (limbs x)[i]) := rfl
    obtain ⟨p, hp⟩ : ∃ p, p = (limbs x)[i] := ⟨_, rfl⟩
    obtain ⟨q, hq⟩ : ∃ q, q = lAt (limbs y) i.val := ⟨_, rfl⟩
    have HP : Hid (p = (limbs x)[i]) := hp
    have HQ : Hid (q = lAt (limbs y) i.val) := hq
    have hp1 : p < 1000000000 := by rw [hp]; exact Bn.limbs_get_lt i.isLt
    have hq1 : q < 1000000000 := by rw [hq]; exact lAt_lt (fun d h => Bn.limbs_lt' h) _
    rw [← hq] at hcq
    rw [← hp]
    clear hcb he hp hq HI hne
    by_cases hpq : p = q
    · subst hpq
      gi_wp2
      refine ⟨KeepsOthers.refl _, KpB.refl _ _ _, ⟨c0, c1, c2, ?_⟩, hB⟩
      intro j hj
      rcases List.mem_append.1 hj with h | h
      · exact HE.out j h
      · simp at h; subst h; rw [← HP.out, ← HQ.out]
    · have hpqI : ((p : Int) != (q : Int)) = true := by simp; omega
      gi_wp2_with fail
      refine ⟨trivial, ?_⟩
      refine (CallsIn.inRound l (callsIn_wide.2 (compare32_any p q W))).mono ?_
      rintro e W' ⟨rfl, rfl⟩
      gi_wp2
      refine ⟨KeepsOthers.setCell _ _ _, ⟨_, World.cell?_setCell_same' _ _ _ (by rw [c1]; rfl), rfl, pre, i, rfl, HE.out, ?_, ?_⟩, hB.setCell (p := ⟨w.heap.size + 1, 0, none⟩) (Nat.le_succ _) _⟩
      · rw [← HP.out, ← HQ.out]; exact hpq
      · rw [← HP.out, ← HQ.out]
  case done =>
    rintro D ys W hD rfl ⟨⟨_, c1, c2, he⟩, hB⟩ hK
    have hxy : x = y := by
      have h := eqs_top (k := (limbs x).length) HL.out (Nat.le_refl _) (by rw [backF_all]; exact he)
      simpa using h
    have HZ : Hid (cmpI (x : Int) (y : Int) = 0) := by show _ = _; rw [hxy]; exact cmpI_eq (by omega) (by omega)
    clear he hxy
    have hDN : w.heap.size + 1 ≠ D := by simp at hD; omega
    gi_wp2
    have hK' : (W.setCell ⟨w.heap.size + 1, 0, none⟩ (.int .i64 0)).heap[D]? = some (.deferred (some [])) := (Below.heap_setCell _ _ _ _ (Ne.symm hDN)).trans hK
    have hc' : (W.setCell ⟨w.heap.size + 1, 0, none⟩ (.int .i64 0)).cell? ⟨w.heap.size + 1, 0, none⟩ = some (.int .i64 0) := World.cell?_setCell_same' _ _ _ (by rw [c1]; rfl)
    have hB' : Below w.heap.size w (W.setCell ⟨w.heap.size + 1, 0, none⟩ (.int .i64 0)) := hB.setCell (p := ⟨w.heap.size + 1, 0, none⟩) (Nat.le_succ _) _
    generalize W.setCell ⟨w.heap.size + 1, 0, none⟩ (.int .i64 0) = W2 at *
    refine ⟨by simp, .inl ⟨_, _, rfl, run_takeDeferred hK', ?_⟩⟩
    refine ⟨.int .i64 0, ?_, by rw [HZ.out], hB'.trans (belowK_b (w := w) (Nat.le_refl _) W2 D _ _ (by simp at hD; omega) hK' rfl rfl)⟩
    simp [results, Tryz.results65, go_sem, kept_put _ hDN, hc']
  case stop =>
    rintro D c pre W hD ⟨k, hk, rfl⟩ ⟨⟨d, c1, rfl, pre', i, hpre, he, hne', hd⟩, hB⟩ hK
    have HZ : Hid (cmpI (x : Int) (y : Int) = d) := by
      show _ = _
      rw [backF_take _ _ hk] at hpre
      obtain ⟨e1, e2⟩ := List.append_inj' hpre rfl
      injection e2 with e2 _
      subst e1 e2
      have ht := eqs_top HL.out (Nat.le_of_lt hk) he
      have hk' : (limbs x).length - k = (limbs x).length - 1 - k + 1 := by omega
      have hyl : (limbs x).length - 1 - k < (limbs y).length := by have := HL.out; omega
      have hxl : (limbs x).length - 1 - k < (limbs x).length := by omega
      rw [hk'] at ht
      rw [hd]
      rw [lAt_get hyl] at hne' ⊢
      simp only [Fin.getElem_fin] at hne' ⊢
      rcases Nat.lt_or_ge ((limbs x)[(limbs x).length - 1 - k]) ((limbs y)[(limbs x).length - 1 - k]) with h | h
      · rw [cmpI_lt (show (((limbs x)[(limbs x).length - 1 - k] : Nat) : Int) < (((limbs y)[(limbs x).length - 1 - k] : Nat) : Int) by omega), cmpI_lt (by have := sizes_lt hxl hyl ht h; omega)]
      · rw [cmpI_gt (show (((limbs y)[(limbs x).length - 1 - k] : Nat) : Int) < (((limbs x)[(limbs x).length - 1 - k] : Nat) : Int) by omega), cmpI_gt (by have := sizes_lt hyl hxl ht.symm (by omega); omega)]
    clear he hpre hne' hd
    have hDN : w.heap.size + 1 ≠ D := by simp at hD; omega
    gi_wp2
    refine ⟨by simp, .inl ⟨_, _, rfl, run_takeDeferred hK, ?_⟩⟩
    refine ⟨.int .i64 d, ?_, by rw [HZ.out], hB.trans (belowK_b (w := w) (Nat.le_refl _) W D _ _ (by simp at hD; omega) hK rfl rfl)⟩
    simp [results, Tryz.results65, go_sem, kept_put _ hDN, c1]
end Go.Proofs.YtjffbndiecjkjaaGreatDoor
