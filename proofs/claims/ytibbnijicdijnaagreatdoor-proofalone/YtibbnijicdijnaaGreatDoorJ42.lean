/-
  Put together: PfWrite, PfEqs.
-/
import Derived.Test.YtibbnijicdijnaaGreatDoorJ41
namespace Go.Proofs.YtibbnijicdijnaaGreatDoor
open Go.RowKit

set_option maxRecDepth 10000 in
set_option maxHeartbeats 2000000 in
theorem write_any {B : Nat} {wf : FuncId → SL → List (List UInt8)} (d : SL) (hT : TabW formsL wf d.k) (vo vp vl vi : Value) (w : World) (hs : SlE B w d vo vp vl vi) (hi : SlI d) (hl : tot (kindT formsL wf d.k d) ≤ 900000000) (h0 : wordsP (kindT formsL wf d.k d) [] ≠ []) (hBw : B ≤ w.heap.size) (hg : Gl w) (hB : 12 ≤ B) : Calls Tryz.prog 40 #[.agg (slC d vo vp vl vi)] w fun e w' => e = .returned (.string (txtOf (wordsP (kindT formsL wf d.k d) []))) ∧ Below B w w' := by
  obtain ⟨W, hW⟩ : ∃ W, w.alloc (.cells (slC d vo vp vl vi) 45) = W := ⟨_, rfl⟩
  obtain ⟨V, hV⟩ : ∃ V, W.alloc (.cells #[.pointer none, .slice none 0 0] 125) = V := ⟨_, rfl⟩
  have hbW : Below w.heap.size w W := by rw [← hW]; exact (Below.refl _ _).alloc (Nat.le_refl _) _
  have hbV : Below W.heap.size W V := by rw [← hV]; exact (Below.refl _ _).alloc (Nat.le_refl _) _
  have gV : V.heap[W.heap.size]? = some (.cells #[.pointer none, .slice none 0 0] 125 (0, 0)) := by rw [← hV]; exact heap_alloc_new W _
  have kW : Kq B w W := Kq.of_below hbW hBw
  have kV : Kq B W V.drew := Kq.of_below hbV.drew (Nat.le_trans hBw hbW.size)
  have hBV : B ≤ V.drew.heap.size := Nat.le_trans hBw (kW.trans kV).low.size
  have hP : PageAt B W.heap.size [] V.drew := ⟨Nat.le_trans hBw hbW.size, none, .slice none 0 0, gV, .inl rfl, own_z _ _ _ _⟩
  have HBx : Hid (∀ w', Kq B V.drew w' → w'.cell? ⟨w.heap.size, 0, none⟩ = some (.int .i64 d.k) ∧ w'.cell? ⟨w.heap.size, 1, none⟩ = some (.string (txtOf d.n)) ∧ w'.cell? ⟨w.heap.size, 2, none⟩ = some (vo) ∧ w'.cell? ⟨w.heap.size, 3, none⟩ = some (vp) ∧ w'.cell? ⟨w.heap.size, 4, none⟩ = some (.string (txtOf d.deg)) ∧ w'.cell? ⟨w.heap.size, 5, none⟩ = some (vl) ∧ w'.cell? ⟨w.heap.size, 6, none⟩ = some (vi) ∧ w'.cell? ⟨w.heap.size, 7, none⟩ = some (.int .i64 d.ends) ∧ w'.cell? ⟨w.heap.size, 8, none⟩ = some (.string (txtOf d.low)) ∧ w'.cell? ⟨w.heap.size, 9, none⟩ = some (.string (txtOf d.high))) := fun w' k => by
    have gB := box_held hW w' (kV.trans k)
    exact ⟨cell_of gB 0, cell_of gB 1, cell_of gB 2, cell_of gB 3, cell_of gB 4, cell_of gB 5, cell_of gB 6, cell_of gB 7, cell_of gB 8, cell_of gB 9⟩
  have HF : Hid (Calls Tryz.prog 61 #[] V.drew fun e w' => e = .returned (.slice (some ⟨V.drew.heap.size, 0, none⟩) 12 12) ∧ w'.heap[V.drew.heap.size]? = some (.cells (fmsC formsL).toArray 154 (0, 0)) ∧ Below V.drew.heap.size V.drew w') := (forms_any V.drew).mono fun e w' hq => ⟨hq.1, by rw [hq.2]; exact heap_alloc_new V.drew _, by rw [hq.2]; exact (Below.refl _ _).alloc (Nat.le_refl _) _⟩
  have HPk : Hid (∀ w', w'.heap[V.drew.heap.size]? = some (.cells (fmsC formsL).toArray 154 (0, 0)) → Below V.drew.heap.size V.drew w' → Calls Tryz.prog 60 #[.pointer (some ⟨W.heap.size, 0, none⟩), .slice (some ⟨V.drew.heap.size, 0, none⟩) 12 12, .int .i64 d.k, .agg (slC d vo vp vl vi)] w' (WrO B W.heap.size (wordsP (kindT formsL wf d.k d) []) w')) := fun w' hg1 hb1 => by
    have k1 := (kW.trans kV).trans (Kq.of_below hb1 hBV)
    exact ppick_any d.k hT d vo vp vl vi w' (page_below hP hb1) hg1 (hs.next k1) hi (by simpa using hl) (Nat.le_trans hBw k1.low.size) (hg.kq k1 hB) hB
  have HKV : Hid (Kq B w V.drew) := kW.trans kV
  have H0 : Hid (wordsP (kindT formsL wf d.k d) [] ≠ []) := h0
  obtain ⟨Z, hZ⟩ : ∃ Z, wordsP (kindT formsL wf d.k d) [] = Z := ⟨_, rfl⟩
  rw [hZ] at HPk H0
  rw [hZ]
  unfold slC at hW HPk
  unfold slC
  obtain ⟨ao, co, rfl, _, _⟩ := hs.o
  obtain ⟨ap, cp, rfl, _, _⟩ := hs.p
  obtain ⟨al, cl, rfl, _, _⟩ := hs.l
  obtain ⟨ai, ci, rfl, _, _⟩ := hs.i
  clear hs hi hl hg hT h0 hbW hbV gV kW kV hP hZ
  go_enter Tryz.func40, Tryz.ntmps40
  go_wp2_with fail
  refine wp_region_T (fun w' => w'.cell? ⟨w.heap.size, 0, none⟩ = some (.int .i64 d.k) ∧ w'.cell? ⟨w.heap.size, 1, none⟩ = some (.string (txtOf d.n)) ∧ w'.cell? ⟨w.heap.size, 2, none⟩ = some (.slice ao d.ops.length co) ∧ w'.cell? ⟨w.heap.size, 3, none⟩ = some (.slice ap d.pcs.length cp) ∧ w'.cell? ⟨w.heap.size, 4, none⟩ = some (.string (txtOf d.deg)) ∧ w'.cell? ⟨w.heap.size, 5, none⟩ = some (.slice al d.lits.length cl) ∧ w'.cell? ⟨w.heap.size, 6, none⟩ = some (.slice ai d.ids.length ci) ∧ w'.cell? ⟨w.heap.size, 7, none⟩ = some (.int .i64 d.ends) ∧ w'.cell? ⟨w.heap.size, 8, none⟩ = some (.string (txtOf d.low)) ∧ w'.cell? ⟨w.heap.size, 9, none⟩ = some (.string (txtOf d.high))) (fun _ => True) [] (by kernel_rfl) ⟨HBx.out _ (Kq.refl _ _), trivial⟩ (fun hHeld => ?_)
  clear hW hV
  generalize V.drew = U at hHeld HBx HF HPk HKV hBV ⊢
  generalize W.heap.size = b at HPk ⊢
  refine wpAnyT_takeB (i := 0) (oi := ⟨some 6, .move (.tmp 3), _, _, _, _⟩) (v := ?v0) rfl (by kernel_rfl) (by kernel_rfl) (by kernel_rfl) (by kernel_rfl) (fun _ _ _ h => h) (Or.inl ⟨by rfl, ?hy0⟩) (by assumption) ?rest0
  case hy0 => (intro w hSw; (try dsimp only at hSw); obtain ⟨s0, s1, s2, s3, s4, s5, s6, s7, s8, s9⟩ := hSw; go_simp; try (with_reducible rfl))
  try simp only [Act.put, List.setIfInBounds_toArray, List.set_cons_zero, List.set_cons_succ]
  refine wpAnyT_takeB (i := 2) (oi := ⟨some 8, .fieldAddr 45 (.tmp 1) 0, _, _, _, _⟩) (v := ?v2) rfl (by kernel_rfl) (by kernel_rfl) (by kernel_rfl) (by kernel_rfl) (fun _ _ _ h => h) (Or.inl ⟨by rfl, ?hy2⟩) (by assumption) ?rest2
  case hy2 => (intro w hSw; (try dsimp only at hSw); obtain ⟨s0, s1, s2, s3, s4, s5, s6, s7, s8, s9⟩ := hSw; go_simp; try (with_reducible rfl))
  try simp only [Act.put, List.setIfInBounds_toArray, List.set_cons_zero, List.set_cons_succ]
  refine wpAnyT_takeB (i := 3) (oi := ⟨some 9, .load 3 (.tmp 8), _, _, _, _⟩) (v := ?v3) rfl (by kernel_rfl) (by kernel_rfl) (by kernel_rfl) (by kernel_rfl) (fun _ _ _ h => h) (Or.inl ⟨by rfl, ?hy3⟩) (by assumption) ?rest3
  case hy3 => (intro w hSw; (try dsimp only at hSw); obtain ⟨s0, s1, s2, s3, s4, s5, s6, s7, s8, s9⟩ := hSw; go_simp; try (with_reducible rfl))
  try simp only [Act.put, List.setIfInBounds_toArray, List.set_cons_zero, List.set_cons_succ]
  refine wpAnyT_takeB (i := 4) (oi := ⟨some 10, .load 45 (.tmp 1), _, _, _, _⟩) (v := ?v4) rfl (by kernel_rfl) (by kernel_rfl) (by kernel_rfl) (by kernel_rfl) (fun _ _ _ h => h) (Or.inl ⟨by rfl, ?hy4⟩) (by assumption) ?rest4
  case hy4 => (intro w hSw; (try dsimp only at hSw); obtain ⟨s0, s1, s2, s3, s4, s5, s6, s7, s8, s9⟩ := hSw; go_simp; try (with_reducible rfl))
  try simp only [Act.put, List.setIfInBounds_toArray, List.set_cons_zero, List.set_cons_succ]
  clear hHeld
  refine wpAnyT_one (i := 1) (o := ⟨some 7, .call { callee := .value (.func 61), args := #[], argTypes := #[] }, _, _, _, _⟩) (by kernel_rfl) rfl (fun K hK => ?_)
  go_simp
  refine calls_at HF.out (by with_reducible rfl) (by with_reducible rfl) ?_
  rintro e w1 ⟨rfl, hg1, hb1⟩
  have H1 : Hid (w1.heap[U.heap.size]? = some (.cells (fmsC formsL).toArray 154 (0, 0)) ∧ Below U.heap.size U w1) := ⟨hg1, hb1⟩
  clear hg1 hb1
  go_wp2_with fail
  refine hK.out _ _ ⟨HBx.out _ (Kq.of_below H1.out.2 hBV), fun _ => trivial⟩ ?_
  clear hK K
  try simp only [Act.put, List.setIfInBounds_toArray, List.set_cons_zero, List.set_cons_succ]
  refine wpAnyT_one (i := 5) (o := ⟨some 11, .call { callee := .value (.func 60), args := #[(.tmp 6), (.tmp 7), (.tmp 9), (.tmp 10)], argTypes := #[123, 127, 3, 45] }, _, _, _, _⟩) (by kernel_rfl) rfl (fun K hK => ?_)
  go_simp
  refine calls_at (HPk.out w1 H1.out.1 H1.out.2) (by with_reducible rfl) (by with_reducible rfl) ?_
  rintro e w2 ⟨rfl, hp2, hk2⟩
  have H2 : Hid (PageAt B b Z w2 ∧ Kq B U w2) := ⟨hp2, (Kq.of_below H1.out.2 hBV).trans hk2⟩
  clear hp2 hk2
  go_wp2_with fail
  refine hK.out _ _ ⟨HBx.out _ H2.out.2, fun _ => trivial⟩ ?_
  clear hK K
  try simp only [Act.put, List.setIfInBounds_toArray, List.set_cons_zero, List.set_cons_succ]
  refine wpAnyT_done (by kernel_rfl) ?_ _
  have HSt : Hid (Calls Tryz.prog 39 #[.pointer (some ⟨b, 0, none⟩)] w2 fun e w' => e = .returned (.string (txtOf Z)) ∧ Below B w2 w') := string_any B b Z w2 H2.out.1 H0.out
  go_wp2_with fail
  refine calls_at HSt.out (by with_reducible rfl) (by with_reducible rfl) ?_
  rintro e w3 ⟨rfl, hb3⟩
  have H3 : Hid (Below B w w3) := (HKV.out.low.trans H2.out.2.low).trans hb3
  clear hb3
  go_wp2_with fail
  go_ret
  exact ⟨rfl, H3.out⟩

end Go.Proofs.YtibbnijicdijnaaGreatDoor

namespace Go.Proofs.YtibbnijicdijnaaGreatDoor
open Go.RowKit

set_option maxRecDepth 10000 in
set_option maxHeartbeats 1000000 in
theorem eq62 (L : List PcL) (v v' : Value) (w : World) (h : RdAt w v L.length (pcsC L)) (h' : RdAt w v' L.length (pcsC L)) : Calls Tryz.prog 62 #[v, v'] w fun e w' => e = .returned (.bool true) ∧ Below w.heap.size w w' := by
  obtain ⟨a, cap, rfl, hn, hc⟩ := h
  obtain ⟨a', cap', rfl, _, hc'⟩ := h'
  have HC : Hid (∀ w', Below w.heap.size w w' → ∀ j (hj : j < L.length), ∃ g off, a = some ⟨g, off, none⟩ ∧ w'.cell? ⟨g, off + j * 2, none⟩ = some (.string (txtOf L[j].1)) ∧ w'.cell? ⟨g, off + j * 2 + 1, none⟩ = some (.int .i64 L[j].2)) := fun w' hb j hj => by
    obtain ⟨g, off, e1, e2, e3⟩ := hc (by omega)
    obtain ⟨p1, p2⟩ := pcs_get L j hj
    exact ⟨g, off, e1, (hb.cell (p := ⟨g, off + j * 2, none⟩) e2).trans (e3 _ _ p1), (hb.cell (p := ⟨g, off + j * 2 + 1, none⟩) e2).trans (e3 _ _ p2)⟩
  have HC' : Hid (∀ w', Below w.heap.size w w' → ∀ j (hj : j < L.length), ∃ g off, a' = some ⟨g, off, none⟩ ∧ w'.cell? ⟨g, off + j * 2, none⟩ = some (.string (txtOf L[j].1)) ∧ w'.cell? ⟨g, off + j * 2 + 1, none⟩ = some (.int .i64 L[j].2)) := fun w' hb j hj => by
    obtain ⟨g, off, e1, e2, e3⟩ := hc' (by omega)
    obtain ⟨p1, p2⟩ := pcs_get L j hj
    exact ⟨g, off, e1, (hb.cell (p := ⟨g, off + j * 2, none⟩) e2).trans (e3 _ _ p1), (hb.cell (p := ⟨g, off + j * 2 + 1, none⟩) e2).trans (e3 _ _ p2)⟩
  clear hc hc'
  go_enter Tryz.func62, Tryz.ntmps62
  go_wp2_with fail
  go_loopw [13] (fun iv wr => ∃ k : Nat, iv = .int .i64 (k : Int) ∧ k ≤ L.length ∧ Hid (Below w.heap.size w wr)) (fun iv _ => L.length - (intOf iv).toNat)
  case atStart => exact ⟨0, rfl, Nat.zero_le _, Below.refl _ _⟩
  case round =>
    obtain ⟨k, rfl, hk, HBr⟩ := hrel
    by_cases hkn : k < L.length
    · have hkI : (k : Int) < (L.length : Int) := by omega
      obtain ⟨g, off, rfl, x0, x1⟩ := HC.out wr HBr.out k hkn
      obtain ⟨g', off', rfl, y0, y1⟩ := HC'.out wr HBr.out k hkn
      obtain ⟨T, hT⟩ : ∃ T, txtOf L[k].1 = T := ⟨_, rfl⟩
      obtain ⟨n, hn2⟩ : ∃ n, L[k].2 = n := ⟨_, rfl⟩
      rw [hT] at x0 y0
      rw [hn2] at x1 y1
      have hne : ∀ W, (binOp .neq 82 (.agg #[.string T, .int .i64 n]) (.agg #[.string T, .int .i64 n])).run Tryz.prog W = .ok (.bool false) W := fun W => by rw [pc_neq]; simp
      clear hT hn2
      go_wp2_with fail
      go_region
      have HBd : Hid (Below w.heap.size w wr.drew) := HBr.out.drew
      go_wp2_with fail
      go_roundw
      case rel => exact ⟨k + 1, by go_num, hkn, HBd⟩
      case measure => simp [intOf]; omega
    · have hkI : ¬ (k : Int) < (L.length : Int) := by omega
      go_wp2_with fail
      go_ret
      exact ⟨rfl, HBr.out⟩

set_option maxRecDepth 10000 in
set_option maxHeartbeats 1000000 in
theorem eq63 (L : List OpL) (v v' : Value) (w : World) (h : RdAt w v L.length (opsC L)) (h' : RdAt w v' L.length (opsC L)) : Calls Tryz.prog 63 #[v, v'] w fun e w' => e = .returned (.bool true) ∧ Below w.heap.size w w' := by
  obtain ⟨a, cap, rfl, hn, hc⟩ := h
  obtain ⟨a', cap', rfl, _, hc'⟩ := h'
  have HC : Hid (∀ w', Below w.heap.size w w' → ∀ j (hj : j < L.length), ∃ g off, a = some ⟨g, off, none⟩ ∧ w'.cell? ⟨g, off + j * 3, none⟩ = some (.int .i64 L[j].1) ∧ w'.cell? ⟨g, off + j * 3 + 1, none⟩ = some (.string (txtOf L[j].2.1)) ∧ w'.cell? ⟨g, off + j * 3 + 2, none⟩ = some (.int .i64 L[j].2.2)) := fun w' hb j hj => by
    obtain ⟨g, off, e1, e2, e3⟩ := hc (by omega)
    obtain ⟨p1, p2, p3⟩ := ops_get L j hj
    exact ⟨g, off, e1, (hb.cell (p := ⟨g, off + j * 3, none⟩) e2).trans (e3 _ _ p1), (hb.cell (p := ⟨g, off + j * 3 + 1, none⟩) e2).trans (e3 _ _ p2), (hb.cell (p := ⟨g, off + j * 3 + 2, none⟩) e2).trans (e3 _ _ p3)⟩
  have HC' : Hid (∀ w', Below w.heap.size w w' → ∀ j (hj : j < L.length), ∃ g off, a' = some ⟨g, off, none⟩ ∧ w'.cell? ⟨g, off + j * 3, none⟩ = some (.int .i64 L[j].1) ∧ w'.cell? ⟨g, off + j * 3 + 1, none⟩ = some (.string (txtOf L[j].2.1)) ∧ w'.cell? ⟨g, off + j * 3 + 2, none⟩ = some (.int .i64 L[j].2.2)) := fun w' hb j hj => by
    obtain ⟨g, off, e1, e2, e3⟩ := hc' (by omega)
    obtain ⟨p1, p2, p3⟩ := ops_get L j hj
    exact ⟨g, off, e1, (hb.cell (p := ⟨g, off + j * 3, none⟩) e2).trans (e3 _ _ p1), (hb.cell (p := ⟨g, off + j * 3 + 1, none⟩) e2).trans (e3 _ _ p2), (hb.cell (p := ⟨g, off + j * 3 + 2, none⟩) e2).trans (e3 _ _ p3)⟩
  clear hc hc'
  go_enter Tryz.func63, Tryz.ntmps63
  go_wp2_with fail
  go_loopw [13] (fun iv wr => ∃ k : Nat, iv = .int .i64 (k : Int) ∧ k ≤ L.length ∧ Hid (Below w.heap.size w wr)) (fun iv _ => L.length - (intOf iv).toNat)
  case atStart => exact ⟨0, rfl, Nat.zero_le _, Below.refl _ _⟩
  case round =>
    obtain ⟨k, rfl, hk, HBr⟩ := hrel
    by_cases hkn : k < L.length
    · have hkI : (k : Int) < (L.length : Int) := by omega
      obtain ⟨g, off, rfl, x0, x1, x2⟩ := HC.out wr HBr.out k hkn
      obtain ⟨g', off', rfl, y0, y1, y2⟩ := HC'.out wr HBr.out k hkn
      obtain ⟨T, hT⟩ : ∃ T, txtOf L[k].2.1 = T := ⟨_, rfl⟩
      obtain ⟨k1, hk1⟩ : ∃ n, L[k].1 = n := ⟨_, rfl⟩
      obtain ⟨k3, hk3⟩ : ∃ n, L[k].2.2 = n := ⟨_, rfl⟩
      rw [hT] at x1 y1
      rw [hk1] at x0 y0
      rw [hk3] at x2 y2
      have hne : ∀ W, (binOp .neq 84 (.agg #[.int .i64 k1, .string T, .int .i64 k3]) (.agg #[.int .i64 k1, .string T, .int .i64 k3])).run Tryz.prog W = .ok (.bool false) W := fun W => by rw [op_neq]; simp
      clear hT hk1 hk3
      go_wp2_with fail
      go_region
      have HBd : Hid (Below w.heap.size w wr.drew) := HBr.out.drew
      go_wp2_with fail
      go_roundw
      case rel => exact ⟨k + 1, by go_num, hkn, HBd⟩
      case measure => simp [intOf]; omega
    · have hkI : ¬ (k : Int) < (L.length : Int) := by omega
      go_wp2_with fail
      go_ret
      exact ⟨rfl, HBr.out⟩

set_option maxRecDepth 10000 in
set_option maxHeartbeats 1000000 in
theorem eq64 (L : List Int) (v v' : Value) (w : World) (h : RdAt w v L.length (L.map (.int .i64))) (h' : RdAt w v' L.length (L.map (.int .i64))) : Calls Tryz.prog 64 #[v, v'] w fun e w' => e = .returned (.bool true) ∧ Below w.heap.size w w' := by
  obtain ⟨a, cap, rfl, hn, hc⟩ := h
  obtain ⟨a', cap', rfl, _, hc'⟩ := h'
  have HC : Hid (∀ w', Below w.heap.size w w' → ∀ j (hj : j < L.length), ∃ g off, a = some ⟨g, off, none⟩ ∧ w'.cell? ⟨g, off + j, none⟩ = some (.int .i64 L[j])) := fun w' hb j hj => by
    obtain ⟨g, off, e1, e2, e3⟩ := hc (by omega)
    have p1 : (L.map (Value.int .i64))[j]? = some (.int .i64 L[j]) := by simp [hj]
    exact ⟨g, off, e1, (hb.cell (p := ⟨g, off + j, none⟩) e2).trans (e3 _ _ p1)⟩
  have HC' : Hid (∀ w', Below w.heap.size w w' → ∀ j (hj : j < L.length), ∃ g off, a' = some ⟨g, off, none⟩ ∧ w'.cell? ⟨g, off + j, none⟩ = some (.int .i64 L[j])) := fun w' hb j hj => by
    obtain ⟨g, off, e1, e2, e3⟩ := hc' (by omega)
    have p1 : (L.map (Value.int .i64))[j]? = some (.int .i64 L[j]) := by simp [hj]
    exact ⟨g, off, e1, (hb.cell (p := ⟨g, off + j, none⟩) e2).trans (e3 _ _ p1)⟩
  clear hc hc'
  go_enter Tryz.func64, Tryz.ntmps64
  go_wp2_with fail
  go_loopw [13] (fun iv wr => ∃ k : Nat, iv = .int .i64 (k : Int) ∧ k ≤ L.length ∧ Hid (Below w.heap.size w wr)) (fun iv _ => L.length - (intOf iv).toNat)
  case atStart => exact ⟨0, rfl, Nat.zero_le _, Below.refl _ _⟩
  case round =>
    obtain ⟨k, rfl, hk, HBr⟩ := hrel
    by_cases hkn : k < L.length
    · have hkI : (k : Int) < (L.length : Int) := by omega
      obtain ⟨g, off, rfl, x0⟩ := HC.out wr HBr.out k hkn
      obtain ⟨g', off', rfl, y0⟩ := HC'.out wr HBr.out k hkn
      obtain ⟨z, hz⟩ : ∃ z, L[k] = z := ⟨_, rfl⟩
      rw [hz] at x0 y0
      clear hz
      go_wp2_with fail
      go_region
      have HBd : Hid (Below w.heap.size w wr.drew) := HBr.out.drew
      go_wp2_with fail
      go_roundw
      case rel => exact ⟨k + 1, by go_num, hkn, HBd⟩
      case measure => simp [intOf]; omega
    · have hkI : ¬ (k : Int) < (L.length : Int) := by omega
      go_wp2_with fail
      go_ret
      exact ⟨rfl, HBr.out⟩

set_option maxRecDepth 10000 in
set_option maxHeartbeats 1000000 in
theorem eq65 (L : List (List UInt8)) (v v' : Value) (w : World) (h : RdAt w v L.length (L.map fun x => .string (txtOf x))) (h' : RdAt w v' L.length (L.map fun x => .string (txtOf x))) : Calls Tryz.prog 65 #[v, v'] w fun e w' => e = .returned (.bool true) ∧ Below w.heap.size w w' := by
  obtain ⟨a, cap, rfl, hn, hc⟩ := h
  obtain ⟨a', cap', rfl, _, hc'⟩ := h'
  have HC : Hid (∀ w', Below w.heap.size w w' → ∀ j (hj : j < L.length), ∃ g off, a = some ⟨g, off, none⟩ ∧ w'.cell? ⟨g, off + j, none⟩ = some (.string (txtOf L[j]))) := fun w' hb j hj => by
    obtain ⟨g, off, e1, e2, e3⟩ := hc (by omega)
    have p1 : (L.map fun x => Value.string (txtOf x))[j]? = some (.string (txtOf L[j])) := by simp [hj]
    exact ⟨g, off, e1, (hb.cell (p := ⟨g, off + j, none⟩) e2).trans (e3 _ _ p1)⟩
  have HC' : Hid (∀ w', Below w.heap.size w w' → ∀ j (hj : j < L.length), ∃ g off, a' = some ⟨g, off, none⟩ ∧ w'.cell? ⟨g, off + j, none⟩ = some (.string (txtOf L[j]))) := fun w' hb j hj => by
    obtain ⟨g, off, e1, e2, e3⟩ := hc' (by omega)
    have p1 : (L.map fun x => Value.string (txtOf x))[j]? = some (.string (txtOf L[j])) := by simp [hj]
    exact ⟨g, off, e1, (hb.cell (p := ⟨g, off + j, none⟩) e2).trans (e3 _ _ p1)⟩
  clear hc hc'
  go_enter Tryz.func65, Tryz.ntmps65
  go_wp2_with fail
  go_loopw [13] (fun iv wr => ∃ k : Nat, iv = .int .i64 (k : Int) ∧ k ≤ L.length ∧ Hid (Below w.heap.size w wr)) (fun iv _ => L.length - (intOf iv).toNat)
  case atStart => exact ⟨0, rfl, Nat.zero_le _, Below.refl _ _⟩
  case round =>
    obtain ⟨k, rfl, hk, HBr⟩ := hrel
    by_cases hkn : k < L.length
    · have hkI : (k : Int) < (L.length : Int) := by omega
      obtain ⟨g, off, rfl, x0⟩ := HC.out wr HBr.out k hkn
      obtain ⟨g', off', rfl, y0⟩ := HC'.out wr HBr.out k hkn
      have hq := txt_beq L[k] L[k]
      rw [decide_eq_true rfl] at hq
      obtain ⟨T, hT⟩ : ∃ T, txtOf L[k] = T := ⟨_, rfl⟩
      rw [hT] at x0 y0 hq
      clear hT
      go_wp2_with fail
      go_region
      have HBd : Hid (Below w.heap.size w wr.drew) := HBr.out.drew
      go_wp2_with fail
      go_roundw
      case rel => exact ⟨k + 1, by go_num, hkn, HBd⟩
      case measure => simp [intOf]; omega
    · have hkI : ¬ (k : Int) < (L.length : Int) := by omega
      go_wp2_with fail
      go_ret
      exact ⟨rfl, HBr.out⟩

end Go.Proofs.YtibbnijicdijnaaGreatDoor
