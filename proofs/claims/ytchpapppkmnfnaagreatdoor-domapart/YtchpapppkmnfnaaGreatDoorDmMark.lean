/-
  Package dom: Mark.
-/
import Derived.Test.YtchpapppkmnfnaaGreatDoorDmCut
import Derived.Test.YtchpapppkmnfnaaGreatDoorMdRegU
import Derived.Test.YtchpapppkmnfnaaGreatDoorMdSrc
namespace Go.Proofs.YtchpapppkmnfnaaGreatDoor
open Go.RowKit

theorem und57 : Tryz.prog.underlying 79 = some (.slice 89) := by kernel_rfl
theorem info67b : (Tryz.prog.info? 89).map (fun i => (i.zero, i.size, i.bytes)) = some (some (.agg #[.int .i64 0, .int .u32 0, .int .u32 0]), 3, 16) := by kernel_rfl
theorem own_slice {w : World} {B : Nat} {e : TypeId} {size : Nat} {v : Value} {n : Nat} {xs : List Value} (h : w.ownsRow B e size v n xs) : ∃ a cap, v = .slice a n cap := by
  rcases h.2 with ⟨rfl, hn⟩ | ⟨g, cap, cur, rfl, _⟩
  · exact ⟨none, 0, by rw [hn]⟩
  · exact ⟨_, cap, rfl⟩
theorem dms_one (L : List Dm) : ∀ u ∈ dms L, u.oneCell' = true := by
  intro u hu
  unfold dms at hu
  rw [List.mem_flatMap] at hu
  obtain ⟨d, _, hu⟩ := hu
  simp only [Dm.cells, List.mem_cons, List.not_mem_nil, or_false] at hu
  rcases hu with rfl | rfl | rfl <;> rfl
/-- A row that one reads. -/
theorem row_src {w : World} {B : Nat} {e : TypeId} {v : Value} {L : List Dm} (h : w.ownsRow B e 3 v L.length (dms L)) : SrcAt w v L.length 3 (dms L) := by
  rcases h.2 with ⟨rfl, hn⟩ | ⟨g, cap, cur, rfl, _, e3, _, _, _, e7⟩
  · exact ⟨none, 0, by rw [hn], by rw [dms_len], dms_one L, (fun _ => hn), fun ad ha => by cases ha⟩
  · refine ⟨_, cap, rfl, by rw [dms_len], dms_one L, (fun hn => by cases hn), fun ad ha j u hj => ?_⟩
    injection ha with ha
    subst ha
    rw [addr_none, Nat.zero_add, cell_of e3]
    have hj2 : j < L.length * 3 := by
      have := (List.getElem?_eq_some_iff.1 hj).1
      rwa [dms_len] at this
    have : (cur.toList.take (L.length * 3))[j]? = some u := by rw [e7]; exact hj
    rw [List.getElem?_take, if_pos hj2] at this
    simpa using this
theorem row_kept {w w' : World} {B : Nat} {e : TypeId} {size : Nat} {v : Value} {n : Nat} {xs : List Value} (h : w.ownsRow B e size v n xs) (hk : ∀ g, v.ownBlock = some g → w'.heap[g]? = w.heap[g]?) : w'.ownsRow B e size v n xs := by
  obtain ⟨h1, h2⟩ := h
  refine ⟨h1, ?_⟩
  rcases h2 with h2 | ⟨g, cap, cur, e1, e2, e3, e4⟩
  · exact .inl h2
  · exact .inr ⟨g, cap, cur, e1, e2, (hk g (by rw [e1]; rfl)).trans e3, e4⟩
theorem row_lt {w : World} {B : Nat} {e : TypeId} {size : Nat} {v : Value} {n : Nat} {xs : List Value} (h : w.ownsRow B e size v n xs) {g : Nat} (hg : v.ownBlock = some g) : B ≤ g ∧ g < w.heap.size := h.lt g hg

def St.mark (s : St) : St := ⟨s.now, s.noted ++ s.now, s.marks + 1⟩
theorem dms_append (L M : List Dm) : dms (L ++ M) = dms L ++ dms M := by simp [dms]

/-- What Mark leaves. -/
def MarkOut (B p : Nat) (nv mv : Value) (s : St) (w : World) (e : Ending) (w' : World) : Prop := ∃ mv', e = .returned (.int .i64 (s.marks : Int)) ∧ StAt B w' p nv mv' s.mark ∧ Stp B p nv mv w w' ∧ ∀ k, mv'.ownBlock = some k → mv.ownBlock = some k ∨ w.heap.size ≤ k

theorem mark_at {B p : Nat} {nv mv mv' : Value} {s : St} {U w2 : World} (h : StAt B U p nv mv s) (hmk : s.marks + 1 ≤ 10000) (g1 : w2.ownsRow B 89 3 mv' (s.noted.length + s.now.length) (dms s.noted ++ dms s.now)) (g2 : U.grownBy w2 mv.ownBlock) (g3 : mv'.ownBlock = mv.ownBlock ∨ mv'.ownBlock = some U.heap.size) :
    StAt B ((w2.setCell ⟨p, 1, none⟩ mv').setCell ⟨p, 2, none⟩ (.int .i64 ((s.marks : Int) + 1))) p nv mv' s.mark ∧ Stp B p nv mv U ((w2.setCell ⟨p, 1, none⟩ mv').setCell ⟨p, 2, none⟩ (.int .i64 ((s.marks : Int) + 1))) := by
  have hp : mv'.ownBlock ≠ some p := fun e => by
    rcases g3 with g3 | g3
    · exact h.ne2 (g3.symm.trans e)
    · rw [g3] at e
      injection e with e
      have := h.lt
      omega
  have hnn : ∀ k, nv.ownBlock = some k → mv'.ownBlock ≠ some k := fun k hk e => by
    rcases g3 with g3 | g3
    · exact h.ne3 k hk (g3.symm.trans e)
    · rw [g3] at e
      injection e with e
      have := (row_lt h.n hk).2
      omega
  have gp : w2.heap[p]? = some (.cells #[nv, mv, .int .i64 (s.marks : Int)] 81 (0, 0)) := (g2.block p h.lt (fun e => h.ne2 e.symm)).trans h.o
  have hoth : ∀ k, k ≠ p → ((w2.setCell ⟨p, 1, none⟩ mv').setCell ⟨p, 2, none⟩ (.int .i64 ((s.marks : Int) + 1))).heap[k]? = w2.heap[k]? := fun k hk => by
    rw [heap_setCell_other _ _ _ _ hk, heap_setCell_other _ _ _ _ hk]
  have hE := heap_setCell_same _ p 2 _ 81 (.int .i64 ((s.marks : Int) + 1)) (heap_setCell_same w2 p 1 _ 81 mv' gp)
  have hb2 : Below B U w2 := (Below.refl _ _).grown g2 h.size (fun g hg => (row_lt h.m hg).1)
  refine ⟨?_, ((hb2.setCell h.p1 _).setCell h.p1 _), ?_⟩
  · exact {
      o := by simpa only [List.setIfInBounds_toArray, List.set_cons_zero, List.set_cons_succ, Int.natCast_add, Int.natCast_one, St.mark] using hE
      n := row_kept (row_kept h.n (fun g hg => g2.block g (row_lt h.n hg).2 (fun e => h.ne3 g hg e.symm))) (fun g hg => hoth g (fun e => h.ne1 (by rw [← e]; exact hg)))
      m := by
        show World.ownsRow _ _ _ _ _ (s.noted ++ s.now).length (dms (s.noted ++ s.now))
        rw [List.length_append, dms_append]
        exact row_kept g1 (fun g hg => hoth g (fun e => hp (by rw [← e]; exact hg)))
      b1 := h.b1
      p1 := h.p1
      ne1 := h.ne1
      ne2 := hp
      ne3 := hnn
      good := h.good
      goodm := fun d hd => (List.mem_append.1 hd).elim (h.goodm d) (h.good d)
      len := by show (s.noted ++ s.now).length = (s.marks + 1) * s.now.length; rw [List.length_append, h.len, Nat.add_mul, Nat.one_mul]
      n32 := h.n32
      mks := hmk }
  · refine ⟨by simpa using g2.size, fun k hk ho => ?_⟩
    have hkp : k ≠ p := fun e => ho (.inl e)
    rw [hoth k hkp]
    exact g2.block k hk (fun e => ho (.inr (.inr e.symm)))

set_option maxRecDepth 10000 in
set_option maxHeartbeats 1000000 in
theorem mark_any (B p : Nat) (nv mv : Value) (s : St) (w : World) (h : StAt B w p nv mv s) (hmk : s.marks + 1 ≤ 10000) : Calls Tryz.prog 22 #[.pointer (some ⟨p, 0, none⟩)] w (MarkOut B p nv mv s w) := by
  have HLn : Hid (s.noted.length + s.now.length ≤ 400000) := by
    show _ ≤ _
    have h1 := h.len
    have h2 := h.n32
    have h3 := h.mks
    have := Nat.mul_le_mul h3 h2
    omega
  have HA0 : Hid (StAt B w.drew p nv mv s) := h.below (Below.refl _ _).drew
  have HC0 : Hid (w.drew.cell? ⟨p, 0, none⟩ = some nv ∧ w.drew.cell? ⟨p, 1, none⟩ = some mv) := ⟨cell_of HA0.out.o 0, cell_of HA0.out.o 1⟩
  have HS0 : Hid (Stp B p nv mv w w.drew) := Stp.of_below (Below.refl _ _).drew h.size
  have hmI : (s.marks : Int) ≤ 10000 := by omega
  have HMK : Hid (s.marks + 1 ≤ 10000) := hmk
  clear h hmk
  go_enter Tryz.func22, Tryz.ntmps22
  go_wp2_with fail
  refine wp_region_T (fun w' => w'.cell? ⟨p, 0, none⟩ = some nv) (fun w' => w'.cell? ⟨p, 1, none⟩ = some mv) [12] (by kernel_rfl) HC0.out (fun hHeld => ?_)
  clear HC0
  have HWs : Hid (w.heap.size ≤ w.drew.heap.size) := Nat.le_refl _
  have HWo : Hid (w.drew.heap.size = w.heap.size) := rfl
  generalize w.drew = U at HA0 HS0 hHeld HWo HWs ⊢
  have HA := HA0
  have HSrc : Hid (SrcAt U nv s.now.length 3 (dms s.now)) := row_src HA.out.n
  refine wpAnyT_takeB (i := 0) (oi := ⟨some 3, .move (.tmp 0), _, _, _, _⟩) (v := ?vR1x0) rfl (by kernel_rfl) (by kernel_rfl) (by kernel_rfl) (by kernel_rfl) (fun _ _ _ h => h) (Or.inl ⟨by rfl, ?hyR1x0⟩) (by assumption) ?restR1x0
  case hyR1x0 => (intro w hSw; (try dsimp only at hSw); go_simp; try (with_reducible rfl))
  try simp only [Act.put, List.setIfInBounds_toArray, List.set_cons_zero, List.set_cons_succ]
  refine wpAnyT_takeB (i := 1) (oi := ⟨some 4, .move (.tmp 0), _, _, _, _⟩) (v := ?vR1x1) rfl (by kernel_rfl) (by kernel_rfl) (by kernel_rfl) (by kernel_rfl) (fun _ _ _ h => h) (Or.inl ⟨by rfl, ?hyR1x1⟩) (by assumption) ?restR1x1
  case hyR1x1 => (intro w hSw; (try dsimp only at hSw); go_simp; try (with_reducible rfl))
  try simp only [Act.put, List.setIfInBounds_toArray, List.set_cons_zero, List.set_cons_succ]
  refine wpAnyT_takeB (i := 2) (oi := ⟨some 5, .nilCheck (.tmp 4), _, _, _, _⟩) (v := ?vR1x2) rfl (by kernel_rfl) (by kernel_rfl) (by kernel_rfl) (by kernel_rfl) (fun _ _ _ h => h) (Or.inl ⟨by rfl, ?hyR1x2⟩) (by assumption) ?restR1x2
  case hyR1x2 => (intro w hSw; (try dsimp only at hSw); go_simp; try (with_reducible rfl))
  try simp only [Act.put, List.setIfInBounds_toArray, List.set_cons_zero, List.set_cons_succ]
  refine wpAnyT_takeB (i := 3) (oi := ⟨some 6, .fieldAddr 81 (.tmp 5) 1, _, _, _, _⟩) (v := ?vR1x3) rfl (by kernel_rfl) (by kernel_rfl) (by kernel_rfl) (by kernel_rfl) (fun _ _ _ h => h) (Or.inl ⟨by rfl, ?hyR1x3⟩) (by assumption) ?restR1x3
  case hyR1x3 => (intro w hSw; (try dsimp only at hSw); go_simp; try (with_reducible rfl))
  try simp only [Act.put, List.setIfInBounds_toArray, List.set_cons_zero, List.set_cons_succ]
  refine wpAnyT_take (i := 4) (oi := ⟨some 7, .load 79 (.tmp 6), _, _, _, _⟩) (v := ?vR1x4) rfl (by kernel_rfl) (by kernel_rfl) (by kernel_rfl) (by kernel_rfl) (by kernel_rfl) (fun _ _ _ h => h) (Or.inl ⟨by rfl, ?hyR1x4⟩) (by assumption) ?restR1x4
  case hyR1x4 => (intro w hSw; (try dsimp only at hSw); go_simp; try (with_reducible rfl))
  try simp only [Act.put, List.setIfInBounds_toArray, List.set_cons_zero, List.set_cons_succ]
  refine wpAnyT_takeB (i := 5) (oi := ⟨some 8, .move (.tmp 0), _, _, _, _⟩) (v := ?vR1x5) rfl (by kernel_rfl) (by kernel_rfl) (by kernel_rfl) (by kernel_rfl) (fun _ _ _ h => h) (Or.inl ⟨by rfl, ?hyR1x5⟩) (by assumption) ?restR1x5
  case hyR1x5 => (intro w hSw; (try dsimp only at hSw); go_simp; try (with_reducible rfl))
  try simp only [Act.put, List.setIfInBounds_toArray, List.set_cons_zero, List.set_cons_succ]
  refine wpAnyT_takeB (i := 6) (oi := ⟨some 9, .nilCheck (.tmp 8), _, _, _, _⟩) (v := ?vR1x6) rfl (by kernel_rfl) (by kernel_rfl) (by kernel_rfl) (by kernel_rfl) (fun _ _ _ h => h) (Or.inl ⟨by rfl, ?hyR1x6⟩) (by assumption) ?restR1x6
  case hyR1x6 => (intro w hSw; (try dsimp only at hSw); go_simp; try (with_reducible rfl))
  try simp only [Act.put, List.setIfInBounds_toArray, List.set_cons_zero, List.set_cons_succ]
  refine wpAnyT_takeB (i := 7) (oi := ⟨some 10, .fieldAddr 81 (.tmp 9) 0, _, _, _, _⟩) (v := ?vR1x7) rfl (by kernel_rfl) (by kernel_rfl) (by kernel_rfl) (by kernel_rfl) (fun _ _ _ h => h) (Or.inl ⟨by rfl, ?hyR1x7⟩) (by assumption) ?restR1x7
  case hyR1x7 => (intro w hSw; (try dsimp only at hSw); go_simp; try (with_reducible rfl))
  try simp only [Act.put, List.setIfInBounds_toArray, List.set_cons_zero, List.set_cons_succ]
  refine wpAnyT_takeB (i := 8) (oi := ⟨some 11, .load 79 (.tmp 10), _, _, _, _⟩) (v := ?vR1x8) rfl (by kernel_rfl) (by kernel_rfl) (by kernel_rfl) (by kernel_rfl) (fun _ _ _ h => h) (Or.inl ⟨by rfl, ?hyR1x8⟩) (by assumption) ?restR1x8
  case hyR1x8 => (intro w hSw; (try dsimp only at hSw); go_simp; try (with_reducible rfl))
  try simp only [Act.put, List.setIfInBounds_toArray, List.set_cons_zero, List.set_cons_succ]
  refine wpAnyT_one (i := 9) (o := ⟨some 12, .call { callee := .builtin .append, args := #[(.tmp 7), (.tmp 11)], argTypes := #[79, 79] }, _, _, _, _⟩) (by kernel_rfl) rfl (fun K hK => ?_)
  refine op_append_src U (.tmp 7) (.tmp 11) 79 89 (.agg #[.int .i64 0, .int .u32 0, .int .u32 0]) 3 16 rfl und57 info67b rfl (by decide) B _ _ s.noted.length s.now.length (dms s.noted) (dms s.now) (by rfl) (by rfl) HA.out.m HSrc.out (by unfold maxLen; have := HLn.out; omega) (by have := HLn.out; omega) HA.out.size (by rfl) ?_
  intro mv' w2 g1 g2 g3
  have HM : Hid (w2.ownsRow B 89 3 mv' (s.noted.length + s.now.length) (dms s.noted ++ dms s.now)) := g1
  have HG : Hid (U.grownBy w2 mv.ownBlock) := g2
  have HN : Hid (mv'.ownBlock = mv.ownBlock ∨ mv'.ownBlock = some U.heap.size) := g3
  have gp : w2.heap[p]? = some (.cells #[nv, mv, .int .i64 (s.marks : Int)] 81 (0, 0)) := (g2.block p HA.out.lt (fun e => HA.out.ne2 e.symm)).trans HA.out.o
  have c0 : w2.cell? ⟨p, 0, none⟩ = some nv := cell_of gp 0
  have c1 : w2.cell? ⟨p, 1, none⟩ = some mv := cell_of gp 1
  have c2 : w2.cell? ⟨p, 2, none⟩ = some (.int .i64 (s.marks : Int)) := cell_of gp 2
  have cz : ∀ i, w2.frozen? ⟨p, i, none⟩ = false := frozen_of gp
  have GP : Hid (w2.heap[p]? = some (.cells #[nv, mv, .int .i64 (s.marks : Int)] 81 (0, 0))) := gp
  obtain ⟨ma, mc, rfl⟩ := own_slice g1
  clear g1 g2 g3 gp hHeld
  refine hK.out _ _ ⟨c0, fun _ => c1⟩ ?_
  have hHeld := (⟨c0, c1⟩ : _ ∧ _)
  clear hK K
  try simp only [Act.put, List.setIfInBounds_toArray, List.set_cons_zero, List.set_cons_succ]
  refine wpAnyT_takeB (i := 10) (oi := ⟨some 13, .nilCheck (.tmp 3), _, _, _, _⟩) (v := ?vR1x10) rfl (by kernel_rfl) (by kernel_rfl) (by kernel_rfl) (by kernel_rfl) (fun _ _ _ h => h) (Or.inl ⟨by rfl, ?hyR1x10⟩) (by assumption) ?restR1x10
  case hyR1x10 => (intro w hSw; (try dsimp only at hSw); go_simp; try (with_reducible rfl))
  try simp only [Act.put, List.setIfInBounds_toArray, List.set_cons_zero, List.set_cons_succ]
  refine wpAnyT_takeB (i := 11) (oi := ⟨some 14, .fieldAddr 81 (.tmp 13) 1, _, _, _, _⟩) (v := ?vR1x11) rfl (by kernel_rfl) (by kernel_rfl) (by kernel_rfl) (by kernel_rfl) (fun _ _ _ h => h) (Or.inl ⟨by rfl, ?hyR1x11⟩) (by assumption) ?restR1x11
  case hyR1x11 => (intro w hSw; (try dsimp only at hSw); go_simp; try (with_reducible rfl))
  try simp only [Act.put, List.setIfInBounds_toArray, List.set_cons_zero, List.set_cons_succ]
  refine wpAnyT_late (i := 12) (o := ⟨none, .store 79 (.tmp 14) (.tmp 12), _, _, _, _⟩) (by kernel_rfl) rfl (by kernel_rfl) (fun K hK => ?_)
  go_simp
  refine hK.out _ _ ?shR1x12 ?restR1x12
  case shR1x12 => ((try dsimp only); exact (cell_of (heap_setCell_same w2 p 1 _ 81 _ GP.out) 0).trans rfl)
  clear hK K
  try simp only [Act.put, List.setIfInBounds_toArray, List.set_cons_zero, List.set_cons_succ]
  refine wpAnyT_done (by kernel_rfl) ?_ _
  obtain ⟨X, hX⟩ : ∃ X, w2.setCell ⟨p, 1, none⟩ (.slice ma (s.noted.length + s.now.length) mc) = X := ⟨_, rfl⟩
  have x2 : X.cell? ⟨p, 2, none⟩ = some (.int .i64 (s.marks : Int)) := by rw [← hX]; exact (cell_of (heap_setCell_same w2 p 1 _ 81 _ GP.out) 2).trans rfl
  have xz : ∀ i, X.frozen? ⟨p, i, none⟩ = false := fun i => by rw [← hX]; exact frozen_of (heap_setCell_same w2 p 1 _ 81 _ GP.out) i
  have HX : Hid (w2.setCell ⟨p, 1, none⟩ (.slice ma (s.noted.length + s.now.length) mc) = X) := hX
  try rw [hX]
  clear hX c0 c1 c2 cz hHeld
  go_wp2_with fail
  go_ret
  have hfin := mark_at HA.out HMK.out HM.out HG.out HN.out
  rw [HX.out] at hfin
  refine ⟨_, ret_int (by omega), hfin.1, ⟨HS0.out.below.trans hfin.2.below, HS0.out.off.trans hfin.2.off⟩, fun k hk => ?_⟩
  rcases HN.out with hn | hn
  · exact .inl (hn.symm.trans hk)
  · rw [hn] at hk
    injection hk with hk
    have := HWo.out
    exact .inr (by omega)
end Go.Proofs.YtchpapppkmnfnaaGreatDoor
