/-
  Put together: PfWr3, PfWr4.
-/
import Derived.Test.YtibbnijicdijnaaGreatDoorJ34
namespace Go.Proofs.YtibbnijicdijnaaGreatDoor
open Go.RowKit

set_option maxRecDepth 10000 in
set_option maxHeartbeats 2000000 in
theorem wrt_equal : Wrt 90 fun d => d.ids ++ rowT d.pcs d.deg := by
  intro B b l d vo vp vl vi w h hs hi hl hBw hg hB
  have hl1 : l.length + tot d.ids + tot (rowT d.pcs d.deg) ≤ 900000000 := by rw [tot_app] at hl; omega
  obtain ⟨W, hW⟩ : ∃ W, w.alloc (.cells (slC d vo vp vl vi) 45) = W := ⟨_, rfl⟩
  have hbW : Below w.heap.size w W := by rw [← hW]; exact (Below.refl _ _).alloc (Nat.le_refl _) _
  have kW : Kq B w W.drew := Kq.of_below hbW.drew hBw
  have hBW : B ≤ W.drew.heap.size := Nat.le_trans hBw hbW.drew.size
  have HK : Hid (∀ w', Kq B W.drew w' → w'.cell? ⟨w.heap.size, 3, none⟩ = some vp ∧ w'.cell? ⟨w.heap.size, 4, none⟩ = some (.string (txtOf d.deg)) ∧ w'.cell? ⟨w.heap.size, 6, none⟩ = some vi) := fun w' k => by
    have := k.other _ _ _ _ (show W.drew.heap[w.heap.size]? = some (.cells (slC d vo vp vl vi) 45 (0, 0)) by show W.heap[w.heap.size]? = _; rw [← hW]; exact heap_alloc_new w _) (by decide) (by decide)
    exact ⟨cell_of this 3, cell_of this 4, cell_of this 6⟩
  have HR : Hid (Calls Tryz.prog 80 #[.pointer (some ⟨b, 0, none⟩), vi] W.drew fun e w' => e = .returned (.pointer (some ⟨b, 0, none⟩)) ∧ PageAt B b (wordsP d.ids l) w' ∧ Kq B W.drew w') := words_any d.ids vi W.drew (page_below h hbW.drew) (hs.i.next kW) (by omega) hBW
  have HI : Hid (∀ w', Kq B W.drew w' → PageAt B b (wordsP d.ids l) w' → Calls Tryz.prog 125 #[.pointer (some ⟨b, 0, none⟩), .agg #[vp, .string (txtOf d.deg)]] w' fun e w2 => e = .returned (.pointer (some ⟨b, 0, none⟩)) ∧ PageAt B b (wordsP (d.ids ++ rowT d.pcs d.deg) l) w2 ∧ Kq B w' w2) := fun w' k hp => by
    refine (prow_any d.pcs d.deg vp w' hp (hs.p.next (kW.trans k)) ?_ hi.p (Nat.le_trans hBW k.low.size) (hg.kq (kW.trans k) hB) hB).mono fun e w2 hq => ⟨hq.1, ?_, hq.2.2⟩
    · have := words_len d.ids l
      omega
    · rw [words_app]; exact hq.2.1
  have HKW : Hid (Kq B w W.drew) := kW
  unfold WrO
  obtain ⟨Z, hZ⟩ : ∃ Z, wordsP (d.ids ++ rowT d.pcs d.deg) l = Z := ⟨_, rfl⟩
  rw [hZ] at HI
  show Calls _ _ _ _ fun e w' => e = _ ∧ PageAt B b (wordsP (d.ids ++ rowT d.pcs d.deg) l) w' ∧ Kq B w w'
  rw [hZ]
  have HC := hs.o
  unfold slC at hW
  unfold slC
  obtain ⟨ao, co, rfl, _, _⟩ := hs.o
  obtain ⟨ap, cp, rfl, _, _⟩ := hs.p
  obtain ⟨al, cl, rfl, _, _⟩ := hs.l
  obtain ⟨ai, ci, rfl, _, _⟩ := hs.i
  obtain ⟨dk, dn, do_, dp, dg, dl, di, de, dw, dh⟩ := d
  dsimp only at hW HK HR HI hZ ⊢
  clear h hs hi hl hg hl1 hbW kW HC hZ
  go_enter Tryz.func90, Tryz.ntmps90
  go_wp2_with fail
  refine wp_region_T (fun w' => w'.cell? ⟨w.heap.size, 3, none⟩ = some (.slice ap dp.length cp) ∧ w'.cell? ⟨w.heap.size, 4, none⟩ = some (.string (txtOf dg)) ∧ w'.cell? ⟨w.heap.size, 6, none⟩ = some (.slice ai di.length ci)) (fun _ => True) [] (by kernel_rfl) ⟨HK.out _ (Kq.refl _ _), trivial⟩ (fun hHeld => ?_)
  clear hW
  generalize W.drew = U at hHeld HK HR HI HKW hBW ⊢
  refine wpAnyT_takeB (i := 0) (oi := ⟨some 4, .move (.tmp 0), _, _, _, _⟩) (v := ?v0) rfl (by kernel_rfl) (by kernel_rfl) (by kernel_rfl) (by kernel_rfl) (fun _ _ _ h => h) (Or.inl ⟨by rfl, ?hy0⟩) (by assumption) ?rest0
  case hy0 => (intro w hSw; (try dsimp only at hSw); obtain ⟨s0, s1, s2⟩ := hSw; go_simp; try (with_reducible rfl))
  try simp only [Act.put, List.setIfInBounds_toArray, List.set_cons_zero, List.set_cons_succ]
  refine wpAnyT_takeB (i := 1) (oi := ⟨some 5, .fieldAddr 45 (.tmp 3) 5, _, _, _, _⟩) (v := ?v1) rfl (by kernel_rfl) (by kernel_rfl) (by kernel_rfl) (by kernel_rfl) (fun _ _ _ h => h) (Or.inl ⟨by rfl, ?hy1⟩) (by assumption) ?rest1
  case hy1 => (intro w hSw; (try dsimp only at hSw); obtain ⟨s0, s1, s2⟩ := hSw; go_simp; try (with_reducible rfl))
  try simp only [Act.put, List.setIfInBounds_toArray, List.set_cons_zero, List.set_cons_succ]
  refine wpAnyT_takeB (i := 2) (oi := ⟨some 6, .load 43 (.tmp 5), _, _, _, _⟩) (v := ?v2) rfl (by kernel_rfl) (by kernel_rfl) (by kernel_rfl) (by kernel_rfl) (fun _ _ _ h => h) (Or.inl ⟨by rfl, ?hy2⟩) (by assumption) ?rest2
  case hy2 => (intro w hSw; (try dsimp only at hSw); obtain ⟨s0, s1, s2⟩ := hSw; go_simp; try (with_reducible rfl))
  try simp only [Act.put, List.setIfInBounds_toArray, List.set_cons_zero, List.set_cons_succ]
  refine wpAnyT_takeB (i := 4) (oi := ⟨some 8, .fieldAddr 45 (.tmp 3) 3, _, _, _, _⟩) (v := ?v4) rfl (by kernel_rfl) (by kernel_rfl) (by kernel_rfl) (by kernel_rfl) (fun _ _ _ h => h) (Or.inl ⟨by rfl, ?hy4⟩) (by assumption) ?rest4
  case hy4 => (intro w hSw; (try dsimp only at hSw); obtain ⟨s0, s1, s2⟩ := hSw; go_simp; try (with_reducible rfl))
  try simp only [Act.put, List.setIfInBounds_toArray, List.set_cons_zero, List.set_cons_succ]
  refine wpAnyT_takeB (i := 5) (oi := ⟨some 9, .load 41 (.tmp 8), _, _, _, _⟩) (v := ?v5) rfl (by kernel_rfl) (by kernel_rfl) (by kernel_rfl) (by kernel_rfl) (fun _ _ _ h => h) (Or.inl ⟨by rfl, ?hy5⟩) (by assumption) ?rest5
  case hy5 => (intro w hSw; (try dsimp only at hSw); obtain ⟨s0, s1, s2⟩ := hSw; go_simp; try (with_reducible rfl))
  try simp only [Act.put, List.setIfInBounds_toArray, List.set_cons_zero, List.set_cons_succ]
  clear hHeld
  refine wpAnyT_one (i := 3) (o := ⟨some 7, .call { callee := .value (.func 80), args := #[(.tmp 4), (.tmp 6)], argTypes := #[123, 43] }, _, _, _, _⟩) (by kernel_rfl) rfl (fun K hK => ?_)
  go_simp
  refine calls_at HR.out (by with_reducible rfl) (by with_reducible rfl) ?_
  rintro e w1 ⟨rfl, hp1, hk1⟩
  have H1 : Hid (PageAt B b (wordsP di l) w1 ∧ Kq B U w1) := ⟨hp1, hk1⟩
  clear hp1 hk1
  go_wp2_with fail
  refine hK.out _ _ ⟨HK.out _ H1.out.2, fun _ => trivial⟩ ?_
  clear hK K
  try simp only [Act.put, List.setIfInBounds_toArray, List.set_cons_zero, List.set_cons_succ]
  refine wpAnyT_one (i := 6) (o := ⟨some 10, .call { callee := .value (.func 125), args := #[(.tmp 7), (.tmp 9)], argTypes := #[123, 41] }, _, _, _, _⟩) (by kernel_rfl) rfl (fun K hK => ?_)
  go_simp
  refine calls_at (HI.out w1 H1.out.2 H1.out.1) (by with_reducible rfl) (by with_reducible rfl) ?_
  rintro e w2 ⟨rfl, hp2, hk2⟩
  have H2 : Hid (PageAt B b Z w2 ∧ Kq B U w2) := ⟨hp2, H1.out.2.trans hk2⟩
  clear hp2 hk2
  go_wp2_with fail
  refine hK.out _ _ ⟨HK.out _ H2.out.2, fun _ => trivial⟩ ?_
  clear hK K
  try simp only [Act.put, List.setIfInBounds_toArray, List.set_cons_zero, List.set_cons_succ]
  refine wpAnyT_done (by kernel_rfl) ?_ _
  go_wp2_with fail
  go_end0
  exact ⟨rfl, H2.out.1, HKW.out.trans H2.out.2⟩
/-- An id that is leant on. -/
def leanT (ids : List (List UInt8)) : List (List UInt8) := if ids = [] then [] else [58] :: ids
set_option maxRecDepth 10000 in
set_option maxHeartbeats 2000000 in
theorem leaning_any {B b : Nat} {l : List UInt8} (L : List (List UInt8)) (v : Value) (w : World) (h : PageAt B b l w) (hR : RdE B w v L.length (L.map fun x => .string (txtOf x))) (hl : l.length + tot (leanT L) ≤ 900000000) (hBw : B ≤ w.heap.size) : Calls Tryz.prog 176 #[.pointer (some ⟨b, 0, none⟩), v] w fun e w' => e = .returned (.pointer (some ⟨b, 0, none⟩)) ∧ PageAt B b (wordsP (leanT L) l) w' ∧ Kq B w w' := by
  by_cases hL : L = []
  · subst hL
    have HE : Hid (PageAt B b l w ∧ Kq B w w) := ⟨h, Kq.refl _ _⟩
    obtain ⟨a, cap, rfl, _, _⟩ := hR
    clear h hl
    go_enter Tryz.func176, Tryz.ntmps176
    go_wp2_with fail
    go_ret
    exact ⟨rfl, HE.out⟩
  · have hn : 0 < L.length := List.length_pos_iff.2 hL
    have hnI : (0 : Int) < (L.length : Int) := by omega
    have hlt : leanT L = [58] :: L := if_neg hL
    rw [hlt, show tot ([58] :: L) = 2 + tot L by simp [tot]] at hl
    have HA : Hid (Calls Tryz.prog 80 #[.pointer (some ⟨b, 0, none⟩), .slice (some ⟨w.heap.size, 0, none⟩) 1 1] (w.alloc (.cells #[.string ⟨#[58]⟩] 9)) fun e w' => e = .returned (.pointer (some ⟨b, 0, none⟩)) ∧ PageAt B b (wordP l [58]) w' ∧ Kq B w w') := words_one [58] w h (by simp; omega) hBw
    have HB : Hid (∀ w', Kq B w w' → PageAt B b (wordP l [58]) w' → Calls Tryz.prog 80 #[.pointer (some ⟨b, 0, none⟩), v] w' fun e w2 => e = .returned (.pointer (some ⟨b, 0, none⟩)) ∧ PageAt B b (wordsP (leanT L) l) w2 ∧ Kq B w' w2) := fun w' k hp => by
      refine (words_any L v w' hp (hR.next k) ?_ (Nat.le_trans hBw k.low.size)).mono fun e w2 hq => ⟨hq.1, ?_, hq.2.2⟩
      · have := word_len l [58]
        simp at this
        omega
      · rw [hlt]; exact hq.2.1
    obtain ⟨a, cap, rfl, _, _⟩ := hR
    clear h hl hlt
    go_enter Tryz.func176, Tryz.ntmps176
    go_wp2_with fail
    refine calls_at HA.out (by with_reducible rfl) (by with_reducible rfl) ?_
    rintro e w1 ⟨rfl, hp1, hk1⟩
    have H1 : Hid (PageAt B b (wordP l [58]) w1 ∧ Kq B w w1) := ⟨hp1, hk1⟩
    clear hp1 hk1
    go_wp2_with fail
    refine calls_at (HB.out w1 H1.out.2 H1.out.1) (by with_reducible rfl) (by with_reducible rfl) ?_
    rintro e w2 ⟨rfl, hp2, hk2⟩
    have H2 : Hid (PageAt B b (wordsP (leanT L) l) w2 ∧ Kq B w w2) := ⟨hp2, H1.out.2.trans hk2⟩
    clear hp2 hk2
    go_wp2_with fail
    go_ret
    exact ⟨rfl, H2.out⟩
set_option maxRecDepth 10000 in
set_option maxHeartbeats 2000000 in
theorem wrt_unsat : Wrt 154 fun d => leanT d.ids := by
  intro B b l d vo vp vl vi w h hs hi hl hBw hg hB
  obtain ⟨W, hW⟩ : ∃ W, w.alloc (.cells (slC d vo vp vl vi) 45) = W := ⟨_, rfl⟩
  have hbW : Below w.heap.size w W := by rw [← hW]; exact (Below.refl _ _).alloc (Nat.le_refl _) _
  have kW : Kq B w W := Kq.of_below hbW hBw
  have hBW : B ≤ W.heap.size := Nat.le_trans hBw hbW.size
  have gW : W.heap[w.heap.size]? = some (.cells (slC d vo vp vl vi) 45 (0, 0)) := by rw [← hW]; exact heap_alloc_new w _
  have HKW : Hid (Kq B w W) := kW
  have c0 := cell_of gW 6
  have HC : Hid (Calls Tryz.prog 176 #[.pointer (some ⟨b, 0, none⟩), vi] W fun e w' => e = .returned (.pointer (some ⟨b, 0, none⟩)) ∧ PageAt B b (wordsP (leanT d.ids) l) w' ∧ Kq B W w') := leaning_any d.ids vi W (page_below h hbW) (hs.i.next kW) hl hBW
  obtain ⟨ao, co, rfl, _, _⟩ := hs.o
  obtain ⟨ap, cp, rfl, _, _⟩ := hs.p
  obtain ⟨al, cl, rfl, _, _⟩ := hs.l
  obtain ⟨ai, ci, rfl, _, _⟩ := hs.i
  unfold slC at hW
  unfold WrO slC
  simp only [slC] at c0
  dsimp at c0
  clear h hs hi hl hg hbW kW gW
  go_enter Tryz.func154, Tryz.ntmps154
  go_wp2_with fail
  refine calls_at HC.out (by with_reducible rfl) (by with_reducible rfl) ?_
  rintro e w2 ⟨rfl, hp2, hk2⟩
  have H2 : Hid (PageAt B b (wordsP (leanT d.ids) l) w2 ∧ Kq B w w2) := ⟨hp2, HKW.out.trans hk2⟩
  clear hp2 hk2
  go_wp2_with fail
  go_end0
  exact ⟨rfl, H2.out⟩
end Go.Proofs.YtibbnijicdijnaaGreatDoor

namespace Go.Proofs.YtibbnijicdijnaaGreatDoor
open Go.RowKit

set_option maxRecDepth 10000 in
set_option maxHeartbeats 4000000 in
theorem wrt_all : Wrt 158 fun d => d.high :: leanT d.ids := by
  intro B b l d vo vp vl vi w h hs hi hl hBw hg hB
  obtain ⟨W, hW⟩ : ∃ W, w.alloc (.cells (slC d vo vp vl vi) 45) = W := ⟨_, rfl⟩
  have hbW : Below w.heap.size w W := by rw [← hW]; exact (Below.refl _ _).alloc (Nat.le_refl _) _
  have kW : Kq B w W.drew := Kq.of_below hbW.drew hBw
  have hBW : B ≤ W.drew.heap.size := Nat.le_trans hBw hbW.drew.size
  have HK : Hid (∀ w', Kq B W.drew w' → w'.cell? ⟨w.heap.size, 9, none⟩ = some (.string (txtOf d.high)) ∧ w'.cell? ⟨w.heap.size, 6, none⟩ = some (vi)) := fun w' k => by
    have := k.other _ _ _ _ (show W.drew.heap[w.heap.size]? = some (.cells (slC d vo vp vl vi) 45 (0, 0)) by show W.heap[w.heap.size]? = _; rw [← hW]; exact heap_alloc_new w _) (by decide) (by decide)
    exact ⟨cell_of this 9, cell_of this 6⟩
  have hlen : l.length + (d.high.length + 1) + tot (leanT d.ids) ≤ 900000000 := by
    dsimp only at hl
    have : tot (d.high :: leanT d.ids) = d.high.length + 1 + tot (leanT d.ids) := by simp [tot]
    omega
  have HC0 : Hid (∀ U' v, Kq B W.drew U' → PageAt B b l U' → RdE B U' v 1 ([d.high].map fun x => .string (txtOf x)) → Calls Tryz.prog 80 #[.pointer (some ⟨b, 0, none⟩), v] U' fun e w' => e = .returned (.pointer (some ⟨b, 0, none⟩)) ∧ PageAt B b (wordP l d.high) w' ∧ Kq B U' w') := fun U' v k hp hv => words_any [d.high] v U' hp hv (by show _ + tot [d.high] ≤ _; simp [tot]; omega) (Nat.le_trans hBW k.low.size)
  have HC1 : Hid (∀ U', Kq B W.drew U' → PageAt B b (wordP l d.high) U' → Calls Tryz.prog 176 #[.pointer (some ⟨b, 0, none⟩), vi] U' fun e w' => e = .returned (.pointer (some ⟨b, 0, none⟩)) ∧ PageAt B b (wordsP (d.high :: leanT d.ids) l) w' ∧ Kq B U' w') := fun U' k hp => leaning_any d.ids vi U' hp (hs.i.next (kW.trans k)) (by have := word_len l d.high; omega) (Nat.le_trans hBW k.low.size)
  have HKW : Hid (Kq B w W.drew) := kW
  have HP0 : Hid (PageAt B b l W.drew) := page_below h hbW.drew
  unfold slC at hW
  unfold WrO slC
  obtain ⟨ao, co, rfl, _, _⟩ := hs.o
  obtain ⟨ap, cp, rfl, _, _⟩ := hs.p
  obtain ⟨al, cl, rfl, _, _⟩ := hs.l
  obtain ⟨ai, ci, rfl, _, _⟩ := hs.i
  clear h hs hi hl hg hbW kW
  go_enter Tryz.func158, Tryz.ntmps158
  go_wp2_with fail
  refine wp_region_T (fun w' => w'.cell? ⟨w.heap.size, 9, none⟩ = some (.string (txtOf d.high)) ∧ w'.cell? ⟨w.heap.size, 6, none⟩ = some (.slice ai d.ids.length ci)) (fun _ => True) [] (by kernel_rfl) ⟨HK.out _ (Kq.refl _ _), trivial⟩ (fun hHeld => ?_)
  clear hW
  have HKU : Hid (Kq B W.drew W.drew) := Kq.refl _ _
  generalize W.drew = U at hHeld HK HKW hBW HP0 HKU HC0 HC1  ⊢
  have HPgU : Hid (PageAt B b (l) U) := HP0
  refine wpAnyT_takeB (i := 0) (oi := ⟨some 4, .move (.tmp 0), _, _, _, _⟩) (v := ?v0) rfl (by kernel_rfl) (by kernel_rfl) (by kernel_rfl) (by kernel_rfl) (fun _ _ _ h => h) (Or.inl ⟨by rfl, ?hy0⟩) (by assumption) ?rest0
  case hy0 => (intro w hSw; (try dsimp only at hSw); obtain ⟨s0, s1⟩ := hSw; go_simp; try (with_reducible rfl))
  try simp only [Act.put, List.setIfInBounds_toArray, List.set_cons_zero, List.set_cons_succ]
  refine wpAnyT_takeB (i := 1) (oi := ⟨some 5, .fieldAddr 45 (.tmp 3) 8, _, _, _, _⟩) (v := ?v1) rfl (by kernel_rfl) (by kernel_rfl) (by kernel_rfl) (by kernel_rfl) (fun _ _ _ h => h) (Or.inl ⟨by rfl, ?hy1⟩) (by assumption) ?rest1
  case hy1 => (intro w hSw; (try dsimp only at hSw); obtain ⟨s0, s1⟩ := hSw; go_simp; try (with_reducible rfl))
  try simp only [Act.put, List.setIfInBounds_toArray, List.set_cons_zero, List.set_cons_succ]
  refine wpAnyT_takeB (i := 2) (oi := ⟨some 6, .load 9 (.tmp 5), _, _, _, _⟩) (v := ?v2) rfl (by kernel_rfl) (by kernel_rfl) (by kernel_rfl) (by kernel_rfl) (fun _ _ _ h => h) (Or.inl ⟨by rfl, ?hy2⟩) (by assumption) ?rest2
  case hy2 => (intro w hSw; (try dsimp only at hSw); obtain ⟨s0, s1⟩ := hSw; go_simp; try (with_reducible rfl))
  try simp only [Act.put, List.setIfInBounds_toArray, List.set_cons_zero, List.set_cons_succ]
  refine wpAnyT_takeB (i := 5) (oi := ⟨some 9, .fieldAddr 45 (.tmp 3) 5, _, _, _, _⟩) (v := ?v5) rfl (by kernel_rfl) (by kernel_rfl) (by kernel_rfl) (by kernel_rfl) (fun _ _ _ h => h) (Or.inl ⟨by rfl, ?hy5⟩) (by assumption) ?rest5
  case hy5 => (intro w hSw; (try dsimp only at hSw); obtain ⟨s0, s1⟩ := hSw; go_simp; try (with_reducible rfl))
  try simp only [Act.put, List.setIfInBounds_toArray, List.set_cons_zero, List.set_cons_succ]
  refine wpAnyT_takeB (i := 6) (oi := ⟨some 10, .load 43 (.tmp 9), _, _, _, _⟩) (v := ?v6) rfl (by kernel_rfl) (by kernel_rfl) (by kernel_rfl) (by kernel_rfl) (fun _ _ _ h => h) (Or.inl ⟨by rfl, ?hy6⟩) (by assumption) ?rest6
  case hy6 => (intro w hSw; (try dsimp only at hSw); obtain ⟨s0, s1⟩ := hSw; go_simp; try (with_reducible rfl))
  try simp only [Act.put, List.setIfInBounds_toArray, List.set_cons_zero, List.set_cons_succ]
  clear hHeld
  refine wpAnyT_one (i := 3) (o := ⟨some 7, .buildSlice 43 1 #[(0, (.tmp 6))], _, _, _, _⟩) (by kernel_rfl) rfl (fun K hK => ?_)
  go_simp
  obtain ⟨Ux3, hUx3⟩ : ∃ X, U.alloc (.cells #[.string (txtOf d.high)] 9) = X := ⟨_, rfl⟩
  have hbUx3 : Below U.heap.size U Ux3 := by rw [← hUx3]; exact (Below.refl _ _).alloc (Nat.le_refl _) _
  have HKUx3 : Hid (Kq B U Ux3) := HKU.out.trans (Kq.of_below hbUx3 (Nat.le_trans hBW HKU.out.low.size))
  have HPgUx3 : Hid (PageAt B b (l) Ux3) := page_below HPgU.out hbUx3
  have HR3Ux3 : Hid (RdE B Ux3 (.slice (some ⟨U.heap.size, 0, none⟩) 1 1) 1 ([d.high].map fun x => .string (txtOf x))) := by rw [← hUx3]; exact one_text U d.high
  rw [hUx3]
  clear hUx3 hbUx3
  refine hK.out _ _ ⟨HK.out _ HKUx3.out, fun _ => trivial⟩ ?_
  clear hK K
  try simp only [Act.put, List.setIfInBounds_toArray, List.set_cons_zero, List.set_cons_succ]
  refine wpAnyT_one (i := 4) (o := ⟨some 8, .call { callee := .value (.func 80), args := #[(.tmp 4), (.tmp 7)], argTypes := #[123, 43] }, _, _, _, _⟩) (by kernel_rfl) rfl (fun K hK => ?_)
  go_simp
  refine calls_at (HC0.out Ux3 _ HKUx3.out HPgUx3.out HR3Ux3.out) (by with_reducible rfl) (by with_reducible rfl) ?_
  rintro e Ux3x4 ⟨rfl, hp, hk⟩
  have HKUx3x4 : Hid (Kq B U Ux3x4) := HKUx3.out.trans hk
  have HPgUx3x4 : Hid (PageAt B b (wordP l d.high) Ux3x4) := hp
  have HR3Ux3x4 : Hid (RdE B Ux3x4 (.slice (some ⟨U.heap.size, 0, none⟩) 1 1) 1 ([d.high].map fun x => .string (txtOf x))) := HR3Ux3.out.next hk
  clear hp hk
  go_wp2_with fail
  refine hK.out _ _ ⟨HK.out _ HKUx3x4.out, fun _ => trivial⟩ ?_
  clear hK K
  try simp only [Act.put, List.setIfInBounds_toArray, List.set_cons_zero, List.set_cons_succ]
  refine wpAnyT_one (i := 7) (o := ⟨some 11, .call { callee := .value (.func 176), args := #[(.tmp 8), (.tmp 10)], argTypes := #[123, 43] }, _, _, _, _⟩) (by kernel_rfl) rfl (fun K hK => ?_)
  go_simp
  refine calls_at (HC1.out Ux3x4 HKUx3x4.out HPgUx3x4.out ) (by with_reducible rfl) (by with_reducible rfl) ?_
  rintro e Ux3x4x7 ⟨rfl, hp, hk⟩
  have HKUx3x4x7 : Hid (Kq B U Ux3x4x7) := HKUx3x4.out.trans hk
  have HPgUx3x4x7 : Hid (PageAt B b (wordsP (d.high :: leanT d.ids) l) Ux3x4x7) := hp
  have HR3Ux3x4x7 : Hid (RdE B Ux3x4x7 (.slice (some ⟨U.heap.size, 0, none⟩) 1 1) 1 ([d.high].map fun x => .string (txtOf x))) := HR3Ux3x4.out.next hk
  clear hp hk
  go_wp2_with fail
  refine hK.out _ _ ⟨HK.out _ HKUx3x4x7.out, fun _ => trivial⟩ ?_
  clear hK K
  try simp only [Act.put, List.setIfInBounds_toArray, List.set_cons_zero, List.set_cons_succ]
  refine wpAnyT_done (by kernel_rfl) ?_ _
  have H9 : Hid (PageAt B b (wordsP (d.high :: leanT d.ids) l) Ux3x4x7 ∧ Kq B w Ux3x4x7) := ⟨HPgUx3x4x7.out, HKW.out.trans HKUx3x4x7.out⟩
  go_wp2_with fail
  go_end0
  exact ⟨rfl, H9.out⟩
set_option maxRecDepth 10000 in
set_option maxHeartbeats 4000000 in
theorem wrt_bounds : Wrt 156 fun d => (d.low :: leanT d.ids) ++ [d.high] := by
  intro B b l d vo vp vl vi w h hs hi hl hBw hg hB
  obtain ⟨W, hW⟩ : ∃ W, w.alloc (.cells (slC d vo vp vl vi) 45) = W := ⟨_, rfl⟩
  have hbW : Below w.heap.size w W := by rw [← hW]; exact (Below.refl _ _).alloc (Nat.le_refl _) _
  have kW : Kq B w W.drew := Kq.of_below hbW.drew hBw
  have hBW : B ≤ W.drew.heap.size := Nat.le_trans hBw hbW.drew.size
  have HK : Hid (∀ w', Kq B W.drew w' → w'.cell? ⟨w.heap.size, 8, none⟩ = some (.string (txtOf d.low)) ∧ w'.cell? ⟨w.heap.size, 6, none⟩ = some (vi) ∧ w'.cell? ⟨w.heap.size, 9, none⟩ = some (.string (txtOf d.high))) := fun w' k => by
    have := k.other _ _ _ _ (show W.drew.heap[w.heap.size]? = some (.cells (slC d vo vp vl vi) 45 (0, 0)) by show W.heap[w.heap.size]? = _; rw [← hW]; exact heap_alloc_new w _) (by decide) (by decide)
    exact ⟨cell_of this 8, cell_of this 6, cell_of this 9⟩
  have hlen : l.length + (d.low.length + 1) + tot (leanT d.ids) + (d.high.length + 1) ≤ 900000000 := by
    dsimp only at hl
    have : tot ((d.low :: leanT d.ids) ++ [d.high]) = d.low.length + 1 + tot (leanT d.ids) + (d.high.length + 1) := by rw [tot_app]; simp [tot]
    omega
  have HC0 : Hid (∀ U' v, Kq B W.drew U' → PageAt B b l U' → RdE B U' v 1 ([d.low].map fun x => .string (txtOf x)) → Calls Tryz.prog 80 #[.pointer (some ⟨b, 0, none⟩), v] U' fun e w' => e = .returned (.pointer (some ⟨b, 0, none⟩)) ∧ PageAt B b (wordP l d.low) w' ∧ Kq B U' w') := fun U' v k hp hv => words_any [d.low] v U' hp hv (by show _ + tot [d.low] ≤ _; simp [tot]; omega) (Nat.le_trans hBW k.low.size)
  have HC1 : Hid (∀ U', Kq B W.drew U' → PageAt B b (wordP l d.low) U' → Calls Tryz.prog 176 #[.pointer (some ⟨b, 0, none⟩), vi] U' fun e w' => e = .returned (.pointer (some ⟨b, 0, none⟩)) ∧ PageAt B b (wordsP (d.low :: leanT d.ids) l) w' ∧ Kq B U' w') := fun U' k hp => leaning_any d.ids vi U' hp (hs.i.next (kW.trans k)) (by have := word_len l d.low; omega) (Nat.le_trans hBW k.low.size)
  have HC2 : Hid (∀ U' v, Kq B W.drew U' → PageAt B b (wordsP (d.low :: leanT d.ids) l) U' → RdE B U' v 1 ([d.high].map fun x => .string (txtOf x)) → Calls Tryz.prog 80 #[.pointer (some ⟨b, 0, none⟩), v] U' fun e w' => e = .returned (.pointer (some ⟨b, 0, none⟩)) ∧ PageAt B b (wordsP ((d.low :: leanT d.ids) ++ [d.high]) l) w' ∧ Kq B U' w') := fun U' v k hp hv => by
    refine (words_any [d.high] v U' hp hv ?_ (Nat.le_trans hBW k.low.size)).mono fun e w2 hq => ⟨hq.1, ?_, hq.2.2⟩
    · have h1 := words_len (d.low :: leanT d.ids) l
      have h2 : tot (d.low :: leanT d.ids) = d.low.length + 1 + tot (leanT d.ids) := by simp [tot]
      have h3 : tot [d.high] = d.high.length + 1 := by simp [tot]
      omega
    · rw [words_app]; exact hq.2.1
  have HKW : Hid (Kq B w W.drew) := kW
  have HP0 : Hid (PageAt B b l W.drew) := page_below h hbW.drew
  unfold slC at hW
  unfold WrO slC
  obtain ⟨ao, co, rfl, _, _⟩ := hs.o
  obtain ⟨ap, cp, rfl, _, _⟩ := hs.p
  obtain ⟨al, cl, rfl, _, _⟩ := hs.l
  obtain ⟨ai, ci, rfl, _, _⟩ := hs.i
  clear h hs hi hl hg hbW kW
  go_enter Tryz.func156, Tryz.ntmps156
  go_wp2_with fail
  refine wp_region_T (fun w' => w'.cell? ⟨w.heap.size, 8, none⟩ = some (.string (txtOf d.low)) ∧ w'.cell? ⟨w.heap.size, 6, none⟩ = some (.slice ai d.ids.length ci) ∧ w'.cell? ⟨w.heap.size, 9, none⟩ = some (.string (txtOf d.high))) (fun _ => True) [] (by kernel_rfl) ⟨HK.out _ (Kq.refl _ _), trivial⟩ (fun hHeld => ?_)
  clear hW
  have HKU : Hid (Kq B W.drew W.drew) := Kq.refl _ _
  generalize W.drew = U at hHeld HK HKW hBW HP0 HKU HC0 HC1 HC2 ⊢
  have HPgU : Hid (PageAt B b (l) U) := HP0
  refine wpAnyT_takeB (i := 0) (oi := ⟨some 4, .move (.tmp 0), _, _, _, _⟩) (v := ?v0) rfl (by kernel_rfl) (by kernel_rfl) (by kernel_rfl) (by kernel_rfl) (fun _ _ _ h => h) (Or.inl ⟨by rfl, ?hy0⟩) (by assumption) ?rest0
  case hy0 => (intro w hSw; (try dsimp only at hSw); obtain ⟨s0, s1, s2⟩ := hSw; go_simp; try (with_reducible rfl))
  try simp only [Act.put, List.setIfInBounds_toArray, List.set_cons_zero, List.set_cons_succ]
  refine wpAnyT_takeB (i := 1) (oi := ⟨some 5, .fieldAddr 45 (.tmp 3) 7, _, _, _, _⟩) (v := ?v1) rfl (by kernel_rfl) (by kernel_rfl) (by kernel_rfl) (by kernel_rfl) (fun _ _ _ h => h) (Or.inl ⟨by rfl, ?hy1⟩) (by assumption) ?rest1
  case hy1 => (intro w hSw; (try dsimp only at hSw); obtain ⟨s0, s1, s2⟩ := hSw; go_simp; try (with_reducible rfl))
  try simp only [Act.put, List.setIfInBounds_toArray, List.set_cons_zero, List.set_cons_succ]
  refine wpAnyT_takeB (i := 2) (oi := ⟨some 6, .load 9 (.tmp 5), _, _, _, _⟩) (v := ?v2) rfl (by kernel_rfl) (by kernel_rfl) (by kernel_rfl) (by kernel_rfl) (fun _ _ _ h => h) (Or.inl ⟨by rfl, ?hy2⟩) (by assumption) ?rest2
  case hy2 => (intro w hSw; (try dsimp only at hSw); obtain ⟨s0, s1, s2⟩ := hSw; go_simp; try (with_reducible rfl))
  try simp only [Act.put, List.setIfInBounds_toArray, List.set_cons_zero, List.set_cons_succ]
  refine wpAnyT_takeB (i := 5) (oi := ⟨some 9, .fieldAddr 45 (.tmp 3) 5, _, _, _, _⟩) (v := ?v5) rfl (by kernel_rfl) (by kernel_rfl) (by kernel_rfl) (by kernel_rfl) (fun _ _ _ h => h) (Or.inl ⟨by rfl, ?hy5⟩) (by assumption) ?rest5
  case hy5 => (intro w hSw; (try dsimp only at hSw); obtain ⟨s0, s1, s2⟩ := hSw; go_simp; try (with_reducible rfl))
  try simp only [Act.put, List.setIfInBounds_toArray, List.set_cons_zero, List.set_cons_succ]
  refine wpAnyT_takeB (i := 6) (oi := ⟨some 10, .load 43 (.tmp 9), _, _, _, _⟩) (v := ?v6) rfl (by kernel_rfl) (by kernel_rfl) (by kernel_rfl) (by kernel_rfl) (fun _ _ _ h => h) (Or.inl ⟨by rfl, ?hy6⟩) (by assumption) ?rest6
  case hy6 => (intro w hSw; (try dsimp only at hSw); obtain ⟨s0, s1, s2⟩ := hSw; go_simp; try (with_reducible rfl))
  try simp only [Act.put, List.setIfInBounds_toArray, List.set_cons_zero, List.set_cons_succ]
  refine wpAnyT_takeB (i := 8) (oi := ⟨some 12, .fieldAddr 45 (.tmp 3) 8, _, _, _, _⟩) (v := ?v8) rfl (by kernel_rfl) (by kernel_rfl) (by kernel_rfl) (by kernel_rfl) (fun _ _ _ h => h) (Or.inl ⟨by rfl, ?hy8⟩) (by assumption) ?rest8
  case hy8 => (intro w hSw; (try dsimp only at hSw); obtain ⟨s0, s1, s2⟩ := hSw; go_simp; try (with_reducible rfl))
  try simp only [Act.put, List.setIfInBounds_toArray, List.set_cons_zero, List.set_cons_succ]
  refine wpAnyT_takeB (i := 9) (oi := ⟨some 13, .load 9 (.tmp 12), _, _, _, _⟩) (v := ?v9) rfl (by kernel_rfl) (by kernel_rfl) (by kernel_rfl) (by kernel_rfl) (fun _ _ _ h => h) (Or.inl ⟨by rfl, ?hy9⟩) (by assumption) ?rest9
  case hy9 => (intro w hSw; (try dsimp only at hSw); obtain ⟨s0, s1, s2⟩ := hSw; go_simp; try (with_reducible rfl))
  try simp only [Act.put, List.setIfInBounds_toArray, List.set_cons_zero, List.set_cons_succ]
  clear hHeld
  refine wpAnyT_two (i := 3) (j := 10) (o := ⟨some 7, .buildSlice 43 1 #[(0, (.tmp 6))], _, _, _, _⟩) (o' := ⟨some 14, .buildSlice 43 1 #[(0, (.tmp 13))], _, _, _, _⟩) (by kernel_rfl) rfl rfl (fun K hK => ?_) (fun K hK => ?_)
  · skip
    go_simp
    obtain ⟨Ux3, hUx3⟩ : ∃ X, U.alloc (.cells #[.string (txtOf d.low)] 9) = X := ⟨_, rfl⟩
    have hbUx3 : Below U.heap.size U Ux3 := by rw [← hUx3]; exact (Below.refl _ _).alloc (Nat.le_refl _) _
    have HKUx3 : Hid (Kq B U Ux3) := HKU.out.trans (Kq.of_below hbUx3 (Nat.le_trans hBW HKU.out.low.size))
    have HPgUx3 : Hid (PageAt B b (l) Ux3) := page_below HPgU.out hbUx3
    have HR3Ux3 : Hid (RdE B Ux3 (.slice (some ⟨U.heap.size, 0, none⟩) 1 1) 1 ([d.low].map fun x => .string (txtOf x))) := by rw [← hUx3]; exact one_text U d.low
    rw [hUx3]
    clear hUx3 hbUx3
    refine hK.out _ _ ⟨HK.out _ HKUx3.out, fun _ => trivial⟩ ?_
    clear hK K
    try simp only [Act.put, List.setIfInBounds_toArray, List.set_cons_zero, List.set_cons_succ]
    refine wpAnyT_two (i := 4) (j := 10) (o := ⟨some 8, .call { callee := .value (.func 80), args := #[(.tmp 4), (.tmp 7)], argTypes := #[123, 43] }, _, _, _, _⟩) (o' := ⟨some 14, .buildSlice 43 1 #[(0, (.tmp 13))], _, _, _, _⟩) (by kernel_rfl) rfl rfl (fun K hK => ?_) (fun K hK => ?_)
    · skip
      go_simp
      refine calls_at (HC0.out Ux3 _ HKUx3.out HPgUx3.out HR3Ux3.out) (by with_reducible rfl) (by with_reducible rfl) ?_
      rintro e Ux3x4 ⟨rfl, hp, hk⟩
      have HKUx3x4 : Hid (Kq B U Ux3x4) := HKUx3.out.trans hk
      have HPgUx3x4 : Hid (PageAt B b (wordP l d.low) Ux3x4) := hp
      have HR3Ux3x4 : Hid (RdE B Ux3x4 (.slice (some ⟨U.heap.size, 0, none⟩) 1 1) 1 ([d.low].map fun x => .string (txtOf x))) := HR3Ux3.out.next hk
      clear hp hk
      go_wp2_with fail
      refine hK.out _ _ ⟨HK.out _ HKUx3x4.out, fun _ => trivial⟩ ?_
      clear hK K
      try simp only [Act.put, List.setIfInBounds_toArray, List.set_cons_zero, List.set_cons_succ]
      refine wpAnyT_two (i := 7) (j := 10) (o := ⟨some 11, .call { callee := .value (.func 176), args := #[(.tmp 8), (.tmp 10)], argTypes := #[123, 43] }, _, _, _, _⟩) (o' := ⟨some 14, .buildSlice 43 1 #[(0, (.tmp 13))], _, _, _, _⟩) (by kernel_rfl) rfl rfl (fun K hK => ?_) (fun K hK => ?_)
      · skip
        go_simp
        refine calls_at (HC1.out Ux3x4 HKUx3x4.out HPgUx3x4.out ) (by with_reducible rfl) (by with_reducible rfl) ?_
        rintro e Ux3x4x7 ⟨rfl, hp, hk⟩
        have HKUx3x4x7 : Hid (Kq B U Ux3x4x7) := HKUx3x4.out.trans hk
        have HPgUx3x4x7 : Hid (PageAt B b (wordsP (d.low :: leanT d.ids) l) Ux3x4x7) := hp
        have HR3Ux3x4x7 : Hid (RdE B Ux3x4x7 (.slice (some ⟨U.heap.size, 0, none⟩) 1 1) 1 ([d.low].map fun x => .string (txtOf x))) := HR3Ux3x4.out.next hk
        clear hp hk
        go_wp2_with fail
        refine hK.out _ _ ⟨HK.out _ HKUx3x4x7.out, fun _ => trivial⟩ ?_
        clear hK K
        try simp only [Act.put, List.setIfInBounds_toArray, List.set_cons_zero, List.set_cons_succ]
        refine wpAnyT_one (i := 10) (o := ⟨some 14, .buildSlice 43 1 #[(0, (.tmp 13))], _, _, _, _⟩) (by kernel_rfl) rfl (fun K hK => ?_)
        go_simp
        obtain ⟨Ux3x4x7x10, hUx3x4x7x10⟩ : ∃ X, Ux3x4x7.alloc (.cells #[.string (txtOf d.high)] 9) = X := ⟨_, rfl⟩
        have hbUx3x4x7x10 : Below Ux3x4x7.heap.size Ux3x4x7 Ux3x4x7x10 := by rw [← hUx3x4x7x10]; exact (Below.refl _ _).alloc (Nat.le_refl _) _
        have HKUx3x4x7x10 : Hid (Kq B U Ux3x4x7x10) := HKUx3x4x7.out.trans (Kq.of_below hbUx3x4x7x10 (Nat.le_trans hBW HKUx3x4x7.out.low.size))
        have HPgUx3x4x7x10 : Hid (PageAt B b (wordsP (d.low :: leanT d.ids) l) Ux3x4x7x10) := page_below HPgUx3x4x7.out hbUx3x4x7x10
        have HR3Ux3x4x7x10 : Hid (RdE B Ux3x4x7x10 (.slice (some ⟨U.heap.size, 0, none⟩) 1 1) 1 ([d.low].map fun x => .string (txtOf x))) := HR3Ux3x4x7.out.next (Kq.of_below hbUx3x4x7x10 (Nat.le_trans hBW HKUx3x4x7.out.low.size))
        have HR10Ux3x4x7x10 : Hid (RdE B Ux3x4x7x10 (.slice (some ⟨Ux3x4x7.heap.size, 0, none⟩) 1 1) 1 ([d.high].map fun x => .string (txtOf x))) := by rw [← hUx3x4x7x10]; exact one_text Ux3x4x7 d.high
        rw [hUx3x4x7x10]
        clear hUx3x4x7x10 hbUx3x4x7x10
        refine hK.out _ _ ⟨HK.out _ HKUx3x4x7x10.out, fun _ => trivial⟩ ?_
        clear hK K
        try simp only [Act.put, List.setIfInBounds_toArray, List.set_cons_zero, List.set_cons_succ]
        refine wpAnyT_one (i := 11) (o := ⟨some 15, .call { callee := .value (.func 80), args := #[(.tmp 11), (.tmp 14)], argTypes := #[123, 43] }, _, _, _, _⟩) (by kernel_rfl) rfl (fun K hK => ?_)
        go_simp
        refine calls_at (HC2.out Ux3x4x7x10 _ HKUx3x4x7x10.out HPgUx3x4x7x10.out HR10Ux3x4x7x10.out) (by with_reducible rfl) (by with_reducible rfl) ?_
        rintro e Ux3x4x7x10x11 ⟨rfl, hp, hk⟩
        have HKUx3x4x7x10x11 : Hid (Kq B U Ux3x4x7x10x11) := HKUx3x4x7x10.out.trans hk
        have HPgUx3x4x7x10x11 : Hid (PageAt B b (wordsP ((d.low :: leanT d.ids) ++ [d.high]) l) Ux3x4x7x10x11) := hp
        have HR3Ux3x4x7x10x11 : Hid (RdE B Ux3x4x7x10x11 (.slice (some ⟨U.heap.size, 0, none⟩) 1 1) 1 ([d.low].map fun x => .string (txtOf x))) := HR3Ux3x4x7x10.out.next hk
        have HR10Ux3x4x7x10x11 : Hid (RdE B Ux3x4x7x10x11 (.slice (some ⟨Ux3x4x7.heap.size, 0, none⟩) 1 1) 1 ([d.high].map fun x => .string (txtOf x))) := HR10Ux3x4x7x10.out.next hk
        clear hp hk
        go_wp2_with fail
        refine hK.out _ _ ⟨HK.out _ HKUx3x4x7x10x11.out, fun _ => trivial⟩ ?_
        clear hK K
        try simp only [Act.put, List.setIfInBounds_toArray, List.set_cons_zero, List.set_cons_succ]
        refine wpAnyT_done (by kernel_rfl) ?_ _
        have H9 : Hid (PageAt B b (wordsP ((d.low :: leanT d.ids) ++ [d.high]) l) Ux3x4x7x10x11 ∧ Kq B w Ux3x4x7x10x11) := ⟨HPgUx3x4x7x10x11.out, HKW.out.trans HKUx3x4x7x10x11.out⟩
        go_wp2_with fail
        go_end0
        exact ⟨rfl, H9.out⟩
      · skip
        go_simp
        obtain ⟨Ux3x4x10, hUx3x4x10⟩ : ∃ X, Ux3x4.alloc (.cells #[.string (txtOf d.high)] 9) = X := ⟨_, rfl⟩
        have hbUx3x4x10 : Below Ux3x4.heap.size Ux3x4 Ux3x4x10 := by rw [← hUx3x4x10]; exact (Below.refl _ _).alloc (Nat.le_refl _) _
        have HKUx3x4x10 : Hid (Kq B U Ux3x4x10) := HKUx3x4.out.trans (Kq.of_below hbUx3x4x10 (Nat.le_trans hBW HKUx3x4.out.low.size))
        have HPgUx3x4x10 : Hid (PageAt B b (wordP l d.low) Ux3x4x10) := page_below HPgUx3x4.out hbUx3x4x10
        have HR3Ux3x4x10 : Hid (RdE B Ux3x4x10 (.slice (some ⟨U.heap.size, 0, none⟩) 1 1) 1 ([d.low].map fun x => .string (txtOf x))) := HR3Ux3x4.out.next (Kq.of_below hbUx3x4x10 (Nat.le_trans hBW HKUx3x4.out.low.size))
        have HR10Ux3x4x10 : Hid (RdE B Ux3x4x10 (.slice (some ⟨Ux3x4.heap.size, 0, none⟩) 1 1) 1 ([d.high].map fun x => .string (txtOf x))) := by rw [← hUx3x4x10]; exact one_text Ux3x4 d.high
        rw [hUx3x4x10]
        clear hUx3x4x10 hbUx3x4x10
        refine hK.out _ _ ⟨HK.out _ HKUx3x4x10.out, fun _ => trivial⟩ ?_
        clear hK K
        try simp only [Act.put, List.setIfInBounds_toArray, List.set_cons_zero, List.set_cons_succ]
        refine wpAnyT_one (i := 7) (o := ⟨some 11, .call { callee := .value (.func 176), args := #[(.tmp 8), (.tmp 10)], argTypes := #[123, 43] }, _, _, _, _⟩) (by kernel_rfl) rfl (fun K hK => ?_)
        go_simp
        refine calls_at (HC1.out Ux3x4x10 HKUx3x4x10.out HPgUx3x4x10.out ) (by with_reducible rfl) (by with_reducible rfl) ?_
        rintro e Ux3x4x10x7 ⟨rfl, hp, hk⟩
        have HKUx3x4x10x7 : Hid (Kq B U Ux3x4x10x7) := HKUx3x4x10.out.trans hk
        have HPgUx3x4x10x7 : Hid (PageAt B b (wordsP (d.low :: leanT d.ids) l) Ux3x4x10x7) := hp
        have HR3Ux3x4x10x7 : Hid (RdE B Ux3x4x10x7 (.slice (some ⟨U.heap.size, 0, none⟩) 1 1) 1 ([d.low].map fun x => .string (txtOf x))) := HR3Ux3x4x10.out.next hk
        have HR10Ux3x4x10x7 : Hid (RdE B Ux3x4x10x7 (.slice (some ⟨Ux3x4.heap.size, 0, none⟩) 1 1) 1 ([d.high].map fun x => .string (txtOf x))) := HR10Ux3x4x10.out.next hk
        clear hp hk
        go_wp2_with fail
        refine hK.out _ _ ⟨HK.out _ HKUx3x4x10x7.out, fun _ => trivial⟩ ?_
        clear hK K
        try simp only [Act.put, List.setIfInBounds_toArray, List.set_cons_zero, List.set_cons_succ]
        refine wpAnyT_one (i := 11) (o := ⟨some 15, .call { callee := .value (.func 80), args := #[(.tmp 11), (.tmp 14)], argTypes := #[123, 43] }, _, _, _, _⟩) (by kernel_rfl) rfl (fun K hK => ?_)
        go_simp
        refine calls_at (HC2.out Ux3x4x10x7 _ HKUx3x4x10x7.out HPgUx3x4x10x7.out HR10Ux3x4x10x7.out) (by with_reducible rfl) (by with_reducible rfl) ?_
        rintro e Ux3x4x10x7x11 ⟨rfl, hp, hk⟩
        have HKUx3x4x10x7x11 : Hid (Kq B U Ux3x4x10x7x11) := HKUx3x4x10x7.out.trans hk
        have HPgUx3x4x10x7x11 : Hid (PageAt B b (wordsP ((d.low :: leanT d.ids) ++ [d.high]) l) Ux3x4x10x7x11) := hp
        have HR3Ux3x4x10x7x11 : Hid (RdE B Ux3x4x10x7x11 (.slice (some ⟨U.heap.size, 0, none⟩) 1 1) 1 ([d.low].map fun x => .string (txtOf x))) := HR3Ux3x4x10x7.out.next hk
        have HR10Ux3x4x10x7x11 : Hid (RdE B Ux3x4x10x7x11 (.slice (some ⟨Ux3x4.heap.size, 0, none⟩) 1 1) 1 ([d.high].map fun x => .string (txtOf x))) := HR10Ux3x4x10x7.out.next hk
        clear hp hk
        go_wp2_with fail
        refine hK.out _ _ ⟨HK.out _ HKUx3x4x10x7x11.out, fun _ => trivial⟩ ?_
        clear hK K
        try simp only [Act.put, List.setIfInBounds_toArray, List.set_cons_zero, List.set_cons_succ]
        refine wpAnyT_done (by kernel_rfl) ?_ _
        have H9 : Hid (PageAt B b (wordsP ((d.low :: leanT d.ids) ++ [d.high]) l) Ux3x4x10x7x11 ∧ Kq B w Ux3x4x10x7x11) := ⟨HPgUx3x4x10x7x11.out, HKW.out.trans HKUx3x4x10x7x11.out⟩
        go_wp2_with fail
        go_end0
        exact ⟨rfl, H9.out⟩
    · skip
      go_simp
      obtain ⟨Ux3x10, hUx3x10⟩ : ∃ X, Ux3.alloc (.cells #[.string (txtOf d.high)] 9) = X := ⟨_, rfl⟩
      have hbUx3x10 : Below Ux3.heap.size Ux3 Ux3x10 := by rw [← hUx3x10]; exact (Below.refl _ _).alloc (Nat.le_refl _) _
      have HKUx3x10 : Hid (Kq B U Ux3x10) := HKUx3.out.trans (Kq.of_below hbUx3x10 (Nat.le_trans hBW HKUx3.out.low.size))
      have HPgUx3x10 : Hid (PageAt B b (l) Ux3x10) := page_below HPgUx3.out hbUx3x10
      have HR3Ux3x10 : Hid (RdE B Ux3x10 (.slice (some ⟨U.heap.size, 0, none⟩) 1 1) 1 ([d.low].map fun x => .string (txtOf x))) := HR3Ux3.out.next (Kq.of_below hbUx3x10 (Nat.le_trans hBW HKUx3.out.low.size))
      have HR10Ux3x10 : Hid (RdE B Ux3x10 (.slice (some ⟨Ux3.heap.size, 0, none⟩) 1 1) 1 ([d.high].map fun x => .string (txtOf x))) := by rw [← hUx3x10]; exact one_text Ux3 d.high
      rw [hUx3x10]
      clear hUx3x10 hbUx3x10
      refine hK.out _ _ ⟨HK.out _ HKUx3x10.out, fun _ => trivial⟩ ?_
      clear hK K
      try simp only [Act.put, List.setIfInBounds_toArray, List.set_cons_zero, List.set_cons_succ]
      refine wpAnyT_one (i := 4) (o := ⟨some 8, .call { callee := .value (.func 80), args := #[(.tmp 4), (.tmp 7)], argTypes := #[123, 43] }, _, _, _, _⟩) (by kernel_rfl) rfl (fun K hK => ?_)
      go_simp
      refine calls_at (HC0.out Ux3x10 _ HKUx3x10.out HPgUx3x10.out HR3Ux3x10.out) (by with_reducible rfl) (by with_reducible rfl) ?_
      rintro e Ux3x10x4 ⟨rfl, hp, hk⟩
      have HKUx3x10x4 : Hid (Kq B U Ux3x10x4) := HKUx3x10.out.trans hk
      have HPgUx3x10x4 : Hid (PageAt B b (wordP l d.low) Ux3x10x4) := hp
      have HR3Ux3x10x4 : Hid (RdE B Ux3x10x4 (.slice (some ⟨U.heap.size, 0, none⟩) 1 1) 1 ([d.low].map fun x => .string (txtOf x))) := HR3Ux3x10.out.next hk
      have HR10Ux3x10x4 : Hid (RdE B Ux3x10x4 (.slice (some ⟨Ux3.heap.size, 0, none⟩) 1 1) 1 ([d.high].map fun x => .string (txtOf x))) := HR10Ux3x10.out.next hk
      clear hp hk
      go_wp2_with fail
      refine hK.out _ _ ⟨HK.out _ HKUx3x10x4.out, fun _ => trivial⟩ ?_
      clear hK K
      try simp only [Act.put, List.setIfInBounds_toArray, List.set_cons_zero, List.set_cons_succ]
      refine wpAnyT_one (i := 7) (o := ⟨some 11, .call { callee := .value (.func 176), args := #[(.tmp 8), (.tmp 10)], argTypes := #[123, 43] }, _, _, _, _⟩) (by kernel_rfl) rfl (fun K hK => ?_)
      go_simp
      refine calls_at (HC1.out Ux3x10x4 HKUx3x10x4.out HPgUx3x10x4.out ) (by with_reducible rfl) (by with_reducible rfl) ?_
      rintro e Ux3x10x4x7 ⟨rfl, hp, hk⟩
      have HKUx3x10x4x7 : Hid (Kq B U Ux3x10x4x7) := HKUx3x10x4.out.trans hk
      have HPgUx3x10x4x7 : Hid (PageAt B b (wordsP (d.low :: leanT d.ids) l) Ux3x10x4x7) := hp
      have HR3Ux3x10x4x7 : Hid (RdE B Ux3x10x4x7 (.slice (some ⟨U.heap.size, 0, none⟩) 1 1) 1 ([d.low].map fun x => .string (txtOf x))) := HR3Ux3x10x4.out.next hk
      have HR10Ux3x10x4x7 : Hid (RdE B Ux3x10x4x7 (.slice (some ⟨Ux3.heap.size, 0, none⟩) 1 1) 1 ([d.high].map fun x => .string (txtOf x))) := HR10Ux3x10x4.out.next hk
      clear hp hk
      go_wp2_with fail
      refine hK.out _ _ ⟨HK.out _ HKUx3x10x4x7.out, fun _ => trivial⟩ ?_
      clear hK K
      try simp only [Act.put, List.setIfInBounds_toArray, List.set_cons_zero, List.set_cons_succ]
      refine wpAnyT_one (i := 11) (o := ⟨some 15, .call { callee := .value (.func 80), args := #[(.tmp 11), (.tmp 14)], argTypes := #[123, 43] }, _, _, _, _⟩) (by kernel_rfl) rfl (fun K hK => ?_)
      go_simp
      refine calls_at (HC2.out Ux3x10x4x7 _ HKUx3x10x4x7.out HPgUx3x10x4x7.out HR10Ux3x10x4x7.out) (by with_reducible rfl) (by with_reducible rfl) ?_
      rintro e Ux3x10x4x7x11 ⟨rfl, hp, hk⟩
      have HKUx3x10x4x7x11 : Hid (Kq B U Ux3x10x4x7x11) := HKUx3x10x4x7.out.trans hk
      have HPgUx3x10x4x7x11 : Hid (PageAt B b (wordsP ((d.low :: leanT d.ids) ++ [d.high]) l) Ux3x10x4x7x11) := hp
      have HR3Ux3x10x4x7x11 : Hid (RdE B Ux3x10x4x7x11 (.slice (some ⟨U.heap.size, 0, none⟩) 1 1) 1 ([d.low].map fun x => .string (txtOf x))) := HR3Ux3x10x4x7.out.next hk
      have HR10Ux3x10x4x7x11 : Hid (RdE B Ux3x10x4x7x11 (.slice (some ⟨Ux3.heap.size, 0, none⟩) 1 1) 1 ([d.high].map fun x => .string (txtOf x))) := HR10Ux3x10x4x7.out.next hk
      clear hp hk
      go_wp2_with fail
      refine hK.out _ _ ⟨HK.out _ HKUx3x10x4x7x11.out, fun _ => trivial⟩ ?_
      clear hK K
      try simp only [Act.put, List.setIfInBounds_toArray, List.set_cons_zero, List.set_cons_succ]
      refine wpAnyT_done (by kernel_rfl) ?_ _
      have H9 : Hid (PageAt B b (wordsP ((d.low :: leanT d.ids) ++ [d.high]) l) Ux3x10x4x7x11 ∧ Kq B w Ux3x10x4x7x11) := ⟨HPgUx3x10x4x7x11.out, HKW.out.trans HKUx3x10x4x7x11.out⟩
      go_wp2_with fail
      go_end0
      exact ⟨rfl, H9.out⟩
  · skip
    go_simp
    obtain ⟨Ux10, hUx10⟩ : ∃ X, U.alloc (.cells #[.string (txtOf d.high)] 9) = X := ⟨_, rfl⟩
    have hbUx10 : Below U.heap.size U Ux10 := by rw [← hUx10]; exact (Below.refl _ _).alloc (Nat.le_refl _) _
    have HKUx10 : Hid (Kq B U Ux10) := HKU.out.trans (Kq.of_below hbUx10 (Nat.le_trans hBW HKU.out.low.size))
    have HPgUx10 : Hid (PageAt B b (l) Ux10) := page_below HPgU.out hbUx10
    have HR10Ux10 : Hid (RdE B Ux10 (.slice (some ⟨U.heap.size, 0, none⟩) 1 1) 1 ([d.high].map fun x => .string (txtOf x))) := by rw [← hUx10]; exact one_text U d.high
    rw [hUx10]
    clear hUx10 hbUx10
    refine hK.out _ _ ⟨HK.out _ HKUx10.out, fun _ => trivial⟩ ?_
    clear hK K
    try simp only [Act.put, List.setIfInBounds_toArray, List.set_cons_zero, List.set_cons_succ]
    refine wpAnyT_one (i := 3) (o := ⟨some 7, .buildSlice 43 1 #[(0, (.tmp 6))], _, _, _, _⟩) (by kernel_rfl) rfl (fun K hK => ?_)
    go_simp
    obtain ⟨Ux10x3, hUx10x3⟩ : ∃ X, Ux10.alloc (.cells #[.string (txtOf d.low)] 9) = X := ⟨_, rfl⟩
    have hbUx10x3 : Below Ux10.heap.size Ux10 Ux10x3 := by rw [← hUx10x3]; exact (Below.refl _ _).alloc (Nat.le_refl _) _
    have HKUx10x3 : Hid (Kq B U Ux10x3) := HKUx10.out.trans (Kq.of_below hbUx10x3 (Nat.le_trans hBW HKUx10.out.low.size))
    have HPgUx10x3 : Hid (PageAt B b (l) Ux10x3) := page_below HPgUx10.out hbUx10x3
    have HR10Ux10x3 : Hid (RdE B Ux10x3 (.slice (some ⟨U.heap.size, 0, none⟩) 1 1) 1 ([d.high].map fun x => .string (txtOf x))) := HR10Ux10.out.next (Kq.of_below hbUx10x3 (Nat.le_trans hBW HKUx10.out.low.size))
    have HR3Ux10x3 : Hid (RdE B Ux10x3 (.slice (some ⟨Ux10.heap.size, 0, none⟩) 1 1) 1 ([d.low].map fun x => .string (txtOf x))) := by rw [← hUx10x3]; exact one_text Ux10 d.low
    rw [hUx10x3]
    clear hUx10x3 hbUx10x3
    refine hK.out _ _ ⟨HK.out _ HKUx10x3.out, fun _ => trivial⟩ ?_
    clear hK K
    try simp only [Act.put, List.setIfInBounds_toArray, List.set_cons_zero, List.set_cons_succ]
    refine wpAnyT_one (i := 4) (o := ⟨some 8, .call { callee := .value (.func 80), args := #[(.tmp 4), (.tmp 7)], argTypes := #[123, 43] }, _, _, _, _⟩) (by kernel_rfl) rfl (fun K hK => ?_)
    go_simp
    refine calls_at (HC0.out Ux10x3 _ HKUx10x3.out HPgUx10x3.out HR3Ux10x3.out) (by with_reducible rfl) (by with_reducible rfl) ?_
    rintro e Ux10x3x4 ⟨rfl, hp, hk⟩
    have HKUx10x3x4 : Hid (Kq B U Ux10x3x4) := HKUx10x3.out.trans hk
    have HPgUx10x3x4 : Hid (PageAt B b (wordP l d.low) Ux10x3x4) := hp
    have HR10Ux10x3x4 : Hid (RdE B Ux10x3x4 (.slice (some ⟨U.heap.size, 0, none⟩) 1 1) 1 ([d.high].map fun x => .string (txtOf x))) := HR10Ux10x3.out.next hk
    have HR3Ux10x3x4 : Hid (RdE B Ux10x3x4 (.slice (some ⟨Ux10.heap.size, 0, none⟩) 1 1) 1 ([d.low].map fun x => .string (txtOf x))) := HR3Ux10x3.out.next hk
    clear hp hk
    go_wp2_with fail
    refine hK.out _ _ ⟨HK.out _ HKUx10x3x4.out, fun _ => trivial⟩ ?_
    clear hK K
    try simp only [Act.put, List.setIfInBounds_toArray, List.set_cons_zero, List.set_cons_succ]
    refine wpAnyT_one (i := 7) (o := ⟨some 11, .call { callee := .value (.func 176), args := #[(.tmp 8), (.tmp 10)], argTypes := #[123, 43] }, _, _, _, _⟩) (by kernel_rfl) rfl (fun K hK => ?_)
    go_simp
    refine calls_at (HC1.out Ux10x3x4 HKUx10x3x4.out HPgUx10x3x4.out ) (by with_reducible rfl) (by with_reducible rfl) ?_
    rintro e Ux10x3x4x7 ⟨rfl, hp, hk⟩
    have HKUx10x3x4x7 : Hid (Kq B U Ux10x3x4x7) := HKUx10x3x4.out.trans hk
    have HPgUx10x3x4x7 : Hid (PageAt B b (wordsP (d.low :: leanT d.ids) l) Ux10x3x4x7) := hp
    have HR10Ux10x3x4x7 : Hid (RdE B Ux10x3x4x7 (.slice (some ⟨U.heap.size, 0, none⟩) 1 1) 1 ([d.high].map fun x => .string (txtOf x))) := HR10Ux10x3x4.out.next hk
    have HR3Ux10x3x4x7 : Hid (RdE B Ux10x3x4x7 (.slice (some ⟨Ux10.heap.size, 0, none⟩) 1 1) 1 ([d.low].map fun x => .string (txtOf x))) := HR3Ux10x3x4.out.next hk
    clear hp hk
    go_wp2_with fail
    refine hK.out _ _ ⟨HK.out _ HKUx10x3x4x7.out, fun _ => trivial⟩ ?_
    clear hK K
    try simp only [Act.put, List.setIfInBounds_toArray, List.set_cons_zero, List.set_cons_succ]
    refine wpAnyT_one (i := 11) (o := ⟨some 15, .call { callee := .value (.func 80), args := #[(.tmp 11), (.tmp 14)], argTypes := #[123, 43] }, _, _, _, _⟩) (by kernel_rfl) rfl (fun K hK => ?_)
    go_simp
    refine calls_at (HC2.out Ux10x3x4x7 _ HKUx10x3x4x7.out HPgUx10x3x4x7.out HR10Ux10x3x4x7.out) (by with_reducible rfl) (by with_reducible rfl) ?_
    rintro e Ux10x3x4x7x11 ⟨rfl, hp, hk⟩
    have HKUx10x3x4x7x11 : Hid (Kq B U Ux10x3x4x7x11) := HKUx10x3x4x7.out.trans hk
    have HPgUx10x3x4x7x11 : Hid (PageAt B b (wordsP ((d.low :: leanT d.ids) ++ [d.high]) l) Ux10x3x4x7x11) := hp
    have HR10Ux10x3x4x7x11 : Hid (RdE B Ux10x3x4x7x11 (.slice (some ⟨U.heap.size, 0, none⟩) 1 1) 1 ([d.high].map fun x => .string (txtOf x))) := HR10Ux10x3x4x7.out.next hk
    have HR3Ux10x3x4x7x11 : Hid (RdE B Ux10x3x4x7x11 (.slice (some ⟨Ux10.heap.size, 0, none⟩) 1 1) 1 ([d.low].map fun x => .string (txtOf x))) := HR3Ux10x3x4x7.out.next hk
    clear hp hk
    go_wp2_with fail
    refine hK.out _ _ ⟨HK.out _ HKUx10x3x4x7x11.out, fun _ => trivial⟩ ?_
    clear hK K
    try simp only [Act.put, List.setIfInBounds_toArray, List.set_cons_zero, List.set_cons_succ]
    refine wpAnyT_done (by kernel_rfl) ?_ _
    have H9 : Hid (PageAt B b (wordsP ((d.low :: leanT d.ids) ++ [d.high]) l) Ux10x3x4x7x11 ∧ Kq B w Ux10x3x4x7x11) := ⟨HPgUx10x3x4x7x11.out, HKW.out.trans HKUx10x3x4x7x11.out⟩
    go_wp2_with fail
    go_end0
    exact ⟨rfl, H9.out⟩
end Go.Proofs.YtibbnijicdijnaaGreatDoor
