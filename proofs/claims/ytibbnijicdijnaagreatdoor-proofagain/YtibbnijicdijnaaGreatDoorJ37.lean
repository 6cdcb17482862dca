/-
  Put together: PfEqs, PfWr3, PfWr6.
-/
import Derived.Test.YtibbnijicdijnaaGreatDoorJ36
import Derived.Test.YtibbnijicdijnaaGreatDoorPfPRow
namespace Go.Proofs.YtibbnijicdijnaaGreatDoor
open Go.RowKit

set_option maxRecDepth 10000 in
set_option maxHeartbeats 1000000 in
theorem eq62 (L : List PcL) (v v' : Value) (w : World) (h : RdAt w v L.length (pcsC L)) (h' : RdAt w v' L.length (pcsC L)) : Calls Tryz.prog 62 #[v, v'] w fun e w' => e = .returned (.bool true) ∧ Below w.heap.size w w' := by
  obtain ⟨a, cap, rfl, hn, hc⟩ := h
  obtain ⟨a', cap', rfl, _, hc'⟩ := h'
  have HC : Hid (∀ w', Below w.heap.size w w' → ∀ j (hj : j < L.length), ∃ g off, a = some ⟨g, off, none⟩ ∧ w'.cell? ⟨g, off + j * 2, none⟩ = some (.string (txtOf L[j].1)) ∧ w'.cell? ⟨g, off + j * 2 + 1, none⟩ = some (.int .i64 L[j].2)) := fun w' hb j hj => by
    obtain ⟨g, off, e1, e2, e3⟩ := hc (by omega)
    obtain ⟨p1, p2⟩ := pcs_get L j hj
    exact ⟨g, off, e1, (hb.cell (p := ⟨g, off + j * 2, none⟩) e2).trans (e3 _ _ p1), (hb.cell (p := ⟨g, off + j * 2 + 1, none⟩) e2).trans (e3 _ _ p2)⟩
  have HC' : Hid (∀ w', Below w.heap.size w w' → ∀ j (hj : j < L.length), ∃ g off, a' = some ⟨g, off, none⟩ ∧ w'.cell? ⟨g, off + j * 2, none⟩ = some (.string (txtOf L[j].1)) ∧ w'.cell? ⟨g, off + j * 2 + 1, none⟩ = some (.int .i64 L[j].2)) := fun w' hb j hj => by
    obtain ⟨g, off, e1, e2, e3⟩ := hc' (by omega)
    obtain ⟨p1, p2⟩ := pcs_get L j hj
    exact ⟨g, off, e1, (hb.cell (p := ⟨g, off + j * 2, none⟩) e2).trans (e3 _ _ p1), (hb.cell (p := ⟨g, off + j * 2 + 1, none⟩) e2).trans (e3 _ _ p2)⟩
  clear hc hc'
  go_enter Tryz.func62, Tryz.ntmps62
  go_wp2_with fail
  go_loopw [13] (fun iv wr => ∃ k : Nat, iv = .int .i64 (k : Int) ∧ k ≤ L.length ∧ Hid (Below w.heap.size w wr)) (fun iv _ => L.length - (intOf iv).toNat)
  case atStart => exact ⟨0, rfl, Nat.zero_le _, Below.refl _ _⟩
  case round =>
    obtain ⟨k, rfl, hk, HBr⟩ := hrel
    by_cases hkn : k < L.length
    · have hkI : (k : Int) < (L.length : Int) := by omega
      obtain ⟨g, off, rfl, x0, x1⟩ := HC.out wr HBr.out k hkn
      obtain ⟨g', off', rfl, y0, y1⟩ := HC'.out wr HBr.out k hkn
      obtain ⟨T, hT⟩ : ∃ T, txtOf L[k].1 = T := ⟨_, rfl⟩
      obtain ⟨n, hn2⟩ : ∃ n, L[k].2 = n := ⟨_, rfl⟩
      rw [hT] at x0 y0
      rw [hn2] at x1 y1
      have hne : ∀ W, (binOp .neq 82 (.agg #[.string T, .int .i64 n]) (.agg #[.string T, .int .i64 n])).run Tryz.prog W = .ok (.bool false) W := fun W => by rw [pc_neq]; simp
      clear hT hn2
      go_wp2_with fail
      go_region
      have HBd : Hid (Below w.heap.size w wr.drew) := HBr.out.drew
      go_wp2_with fail
      go_roundw
      case rel => exact ⟨k + 1, by go_num, hkn, HBd⟩
      case measure => simp [intOf]; omega
    · have hkI : ¬ (k : Int) < (L.length : Int) := by omega
      go_wp2_with fail
      go_ret
      exact ⟨rfl, HBr.out⟩

set_option maxRecDepth 10000 in
set_option maxHeartbeats 1000000 in
theorem eq63 (L : List OpL) (v v' : Value) (w : World) (h : RdAt w v L.length (opsC L)) (h' : RdAt w v' L.length (opsC L)) : Calls Tryz.prog 63 #[v, v'] w fun e w' => e = .returned (.bool true) ∧ Below w.heap.size w w' := by
  obtain ⟨a, cap, rfl, hn, hc⟩ := h
  obtain ⟨a', cap', rfl, _, hc'⟩ := h'
  have HC : Hid (∀ w', Below w.heap.size w w' → ∀ j (hj : j < L.length), ∃ g off, a = some ⟨g, off, none⟩ ∧ w'.cell? ⟨g, off + j * 3, none⟩ = some (.int .i64 L[j].1) ∧ w'.cell? ⟨g, off + j * 3 + 1, none⟩ = some (.string (txtOf L[j].2.1)) ∧ w'.cell? ⟨g, off + j * 3 + 2, none⟩ = some (.int .i64 L[j].2.2)) := fun w' hb j hj => by
    obtain ⟨g, off, e1, e2, e3⟩ := hc (by omega)
    obtain ⟨p1, p2, p3⟩ := ops_get L j hj
    exact ⟨g, off, e1, (hb.cell (p := ⟨g, off + j * 3, none⟩) e2).trans (e3 _ _ p1), (hb.cell (p := ⟨g, off + j * 3 + 1, none⟩) e2).trans (e3 _ _ p2), (hb.cell (p := ⟨g, off + j * 3 + 2, none⟩) e2).trans (e3 _ _ p3)⟩
  have HC' : Hid (∀ w', Below w.heap.size w w' → ∀ j (hj : j < L.length), ∃ g off, a' = some ⟨g, off, none⟩ ∧ w'.cell? ⟨g, off + j * 3, none⟩ = some (.int .i64 L[j].1) ∧ w'.cell? ⟨g, off + j * 3 + 1, none⟩ = some (.string (txtOf L[j].2.1)) ∧ w'.cell? ⟨g, off + j * 3 + 2, none⟩ = some (.int .i64 L[j].2.2)) := fun w' hb j hj => by
    obtain ⟨g, off, e1, e2, e3⟩ := hc' (by omega)
    obtain ⟨p1, p2, p3⟩ := ops_get L j hj
    exact ⟨g, off, e1, (hb.cell (p := ⟨g, off + j * 3, none⟩) e2).trans (e3 _ _ p1), (hb.cell (p := ⟨g, off + j * 3 + 1, none⟩) e2).trans (e3 _ _ p2), (hb.cell (p := ⟨g, off + j * 3 + 2, none⟩) e2).trans (e3 _ _ p3)⟩
  clear hc hc'
  go_enter Tryz.func63, Tryz.ntmps63
  go_wp2_with fail
  go_loopw [13] (fun iv wr => ∃ k : Nat, iv = .int .i64 (k : Int) ∧ k ≤ L.length ∧ Hid (Below w.heap.size w wr)) (fun iv _ => L.length - (intOf iv).toNat)
  case atStart => exact ⟨0, rfl, Nat.zero_le _, Below.refl _ _⟩
  case round =>
    obtain ⟨k, rfl, hk, HBr⟩ := hrel
    by_cases hkn : k < L.length
    · have hkI : (k : Int) < (L.length : Int) := by omega
      obtain ⟨g, off, rfl, x0, x1, x2⟩ := HC.out wr HBr.out k hkn
      obtain ⟨g', off', rfl, y0, y1, y2⟩ := HC'.out wr HBr.out k hkn
      obtain ⟨T, hT⟩ : ∃ T, txtOf L[k].2.1 = T := ⟨_, rfl⟩
      obtain ⟨k1, hk1⟩ : ∃ n, L[k].1 = n := ⟨_, rfl⟩
      obtain ⟨k3, hk3⟩ : ∃ n, L[k].2.2 = n := ⟨_, rfl⟩
      rw [hT] at x1 y1
      rw [hk1] at x0 y0
      rw [hk3] at x2 y2
      have hne : ∀ W, (binOp .neq 84 (.agg #[.int .i64 k1, .string T, .int .i64 k3]) (.agg #[.int .i64 k1, .string T, .int .i64 k3])).run Tryz.prog W = .ok (.bool false) W := fun W => by rw [op_neq]; simp
      clear hT hk1 hk3
      go_wp2_with fail
      go_region
      have HBd : Hid (Below w.heap.size w wr.drew) := HBr.out.drew
      go_wp2_with fail
      go_roundw
      case rel => exact ⟨k + 1, by go_num, hkn, HBd⟩
      case measure => simp [intOf]; omega
    · have hkI : ¬ (k : Int) < (L.length : Int) := by omega
      go_wp2_with fail
      go_ret
      exact ⟨rfl, HBr.out⟩

set_option maxRecDepth 10000 in
set_option maxHeartbeats 1000000 in
theorem eq64 (L : List Int) (v v' : Value) (w : World) (h : RdAt w v L.length (L.map (.int .i64))) (h' : RdAt w v' L.length (L.map (.int .i64))) : Calls Tryz.prog 64 #[v, v'] w fun e w' => e = .returned (.bool true) ∧ Below w.heap.size w w' := by
  obtain ⟨a, cap, rfl, hn, hc⟩ := h
  obtain ⟨a', cap', rfl, _, hc'⟩ := h'
  have HC : Hid (∀ w', Below w.heap.size w w' → ∀ j (hj : j < L.length), ∃ g off, a = some ⟨g, off, none⟩ ∧ w'.cell? ⟨g, off + j, none⟩ = some (.int .i64 L[j])) := fun w' hb j hj => by
    obtain ⟨g, off, e1, e2, e3⟩ := hc (by omega)
    have p1 : (L.map (Value.int .i64))[j]? = some (.int .i64 L[j]) := by simp [hj]
    exact ⟨g, off, e1, (hb.cell (p := ⟨g, off + j, none⟩) e2).trans (e3 _ _ p1)⟩
  have HC' : Hid (∀ w', Below w.heap.size w w' → ∀ j (hj : j < L.length), ∃ g off, a' = some ⟨g, off, none⟩ ∧ w'.cell? ⟨g, off + j, none⟩ = some (.int .i64 L[j])) := fun w' hb j hj => by
    obtain ⟨g, off, e1, e2, e3⟩ := hc' (by omega)
    have p1 : (L.map (Value.int .i64))[j]? = some (.int .i64 L[j]) := by simp [hj]
    exact ⟨g, off, e1, (hb.cell (p := ⟨g, off + j, none⟩) e2).trans (e3 _ _ p1)⟩
  clear hc hc'
  go_enter Tryz.func64, Tryz.ntmps64
  go_wp2_with fail
  go_loopw [13] (fun iv wr => ∃ k : Nat, iv = .int .i64 (k : Int) ∧ k ≤ L.length ∧ Hid (Below w.heap.size w wr)) (fun iv _ => L.length - (intOf iv).toNat)
  case atStart => exact ⟨0, rfl, Nat.zero_le _, Below.refl _ _⟩
  case round =>
    obtain ⟨k, rfl, hk, HBr⟩ := hrel
    by_cases hkn : k < L.length
    · have hkI : (k : Int) < (L.length : Int) := by omega
      obtain ⟨g, off, rfl, x0⟩ := HC.out wr HBr.out k hkn
      obtain ⟨g', off', rfl, y0⟩ := HC'.out wr HBr.out k hkn
      obtain ⟨z, hz⟩ : ∃ z, L[k] = z := ⟨_, rfl⟩
      rw [hz] at x0 y0
      clear hz
      go_wp2_with fail
      go_region
      have HBd : Hid (Below w.heap.size w wr.drew) := HBr.out.drew
      go_wp2_with fail
      go_roundw
      case rel => exact ⟨k + 1, by go_num, hkn, HBd⟩
      case measure => simp [intOf]; omega
    · have hkI : ¬ (k : Int) < (L.length : Int) := by omega
      go_wp2_with fail
      go_ret
      exact ⟨rfl, HBr.out⟩

set_option maxRecDepth 10000 in
set_option maxHeartbeats 1000000 in
theorem eq65 (L : List (List UInt8)) (v v' : Value) (w : World) (h : RdAt w v L.length (L.map fun x => .string (txtOf x))) (h' : RdAt w v' L.length (L.map fun x => .string (txtOf x))) : Calls Tryz.prog 65 #[v, v'] w fun e w' => e = .returned (.bool true) ∧ Below w.heap.size w w' := by
  obtain ⟨a, cap, rfl, hn, hc⟩ := h
  obtain ⟨a', cap', rfl, _, hc'⟩ := h'
  have HC : Hid (∀ w', Below w.heap.size w w' → ∀ j (hj : j < L.length), ∃ g off, a = some ⟨g, off, none⟩ ∧ w'.cell? ⟨g, off + j, none⟩ = some (.string (txtOf L[j]))) := fun w' hb j hj => by
    obtain ⟨g, off, e1, e2, e3⟩ := hc (by omega)
    have p1 : (L.map fun x => Value.string (txtOf x))[j]? = some (.string (txtOf L[j])) := by simp [hj]
    exact ⟨g, off, e1, (hb.cell (p := ⟨g, off + j, none⟩) e2).trans (e3 _ _ p1)⟩
  have HC' : Hid (∀ w', Below w.heap.size w w' → ∀ j (hj : j < L.length), ∃ g off, a' = some ⟨g, off, none⟩ ∧ w'.cell? ⟨g, off + j, none⟩ = some (.string (txtOf L[j]))) := fun w' hb j hj => by
    obtain ⟨g, off, e1, e2, e3⟩ := hc' (by omega)
    have p1 : (L.map fun x => Value.string (txtOf x))[j]? = some (.string (txtOf L[j])) := by simp [hj]
    exact ⟨g, off, e1, (hb.cell (p := ⟨g, off + j, none⟩) e2).trans (e3 _ _ p1)⟩
  clear hc hc'
  go_enter Tryz.func65, Tryz.ntmps65
  go_wp2_with fail
  go_loopw [13] (fun iv wr => ∃ k : Nat, iv = .int .i64 (k : Int) ∧ k ≤ L.length ∧ Hid (Below w.heap.size w wr)) (fun iv _ => L.length - (intOf iv).toNat)
  case atStart => exact ⟨0, rfl, Nat.zero_le _, Below.refl _ _⟩
  case round =>
    obtain ⟨k, rfl, hk, HBr⟩ := hrel
    by_cases hkn : k < L.length
    · have hkI : (k : Int) < (L.length : Int) := by omega
      obtain ⟨g, off, rfl, x0⟩ := HC.out wr HBr.out k hkn
      obtain ⟨g', off', rfl, y0⟩ := HC'.out wr HBr.out k hkn
      have hq := txt_beq L[k] L[k]
      rw [decide_eq_true rfl] at hq
      obtain ⟨T, hT⟩ : ∃ T, txtOf L[k] = T := ⟨_, rfl⟩
      rw [hT] at x0 y0 hq
      clear hT
      go_wp2_with fail
      go_region
      have HBd : Hid (Below w.heap.size w wr.drew) := HBr.out.drew
      go_wp2_with fail
      go_roundw
      case rel => exact ⟨k + 1, by go_num, hkn, HBd⟩
      case measure => simp [intOf]; omega
    · have hkI : ¬ (k : Int) < (L.length : Int) := by omega
      go_wp2_with fail
      go_ret
      exact ⟨rfl, HBr.out⟩

end Go.Proofs.YtibbnijicdijnaaGreatDoor

namespace Go.Proofs.YtibbnijicdijnaaGreatDoor
open Go.RowKit

set_option maxRecDepth 10000 in
set_option maxHeartbeats 2000000 in
theorem wrt_equal : Wrt 90 fun d => d.ids ++ rowT d.pcs d.deg := by
  intro B b l d vo vp vl vi w h hs hi hl hBw hg hB
  have hl1 : l.length + tot d.ids + tot (rowT d.pcs d.deg) ≤ 900000000 := by rw [tot_app] at hl; omega
  obtain ⟨W, hW⟩ : ∃ W, w.alloc (.cells (slC d vo vp vl vi) 45) = W := ⟨_, rfl⟩
  have hbW : Below w.heap.size w W := by rw [← hW]; exact (Below.refl _ _).alloc (Nat.le_refl _) _
  have kW : Kq B w W.drew := Kq.of_below hbW.drew hBw
  have hBW : B ≤ W.drew.heap.size := Nat.le_trans hBw hbW.drew.size
  have HK : Hid (∀ w', Kq B W.drew w' → w'.cell? ⟨w.heap.size, 3, none⟩ = some vp ∧ w'.cell? ⟨w.heap.size, 4, none⟩ = some (.string (txtOf d.deg)) ∧ w'.cell? ⟨w.heap.size, 6, none⟩ = some vi) := fun w' k => by
    have := k.other _ _ _ _ (show W.drew.heap[w.heap.size]? = some (.cells (slC d vo vp vl vi) 45 (0, 0)) by show W.heap[w.heap.size]? = _; rw [← hW]; exact heap_alloc_new w _) (by decide) (by decide)
    exact ⟨cell_of this 3, cell_of this 4, cell_of this 6⟩
  have HR : Hid (Calls Tryz.prog 80 #[.pointer (some ⟨b, 0, none⟩), vi] W.drew fun e w' => e = .returned (.pointer (some ⟨b, 0, none⟩)) ∧ PageAt B b (wordsP d.ids l) w' ∧ Kq B W.drew w') := words_any d.ids vi W.drew (page_below h hbW.drew) (hs.i.next kW) (by omega) hBW
  have HI : Hid (∀ w', Kq B W.drew w' → PageAt B b (wordsP d.ids l) w' → Calls Tryz.prog 125 #[.pointer (some ⟨b, 0, none⟩), .agg #[vp, .string (txtOf d.deg)]] w' fun e w2 => e = .returned (.pointer (some ⟨b, 0, none⟩)) ∧ PageAt B b (wordsP (d.ids ++ rowT d.pcs d.deg) l) w2 ∧ Kq B w' w2) := fun w' k hp => by
    refine (prow_any d.pcs d.deg vp w' hp (hs.p.next (kW.trans k)) ?_ hi.p (Nat.le_trans hBW k.low.size) (hg.kq (kW.trans k) hB) hB).mono fun e w2 hq => ⟨hq.1, ?_, hq.2.2⟩
    · have := words_len d.ids l
      omega
    · rw [words_app]; exact hq.2.1
  have HKW : Hid (Kq B w W.drew) := kW
  unfold WrO
  obtain ⟨Z, hZ⟩ : ∃ Z, wordsP (d.ids ++ rowT d.pcs d.deg) l = Z := ⟨_, rfl⟩
  rw [hZ] at HI
  show Calls _ _ _ _ fun e w' => e = _ ∧ PageAt B b (wordsP (d.ids ++ rowT d.pcs d.deg) l) w' ∧ Kq B w w'
  rw [hZ]
  have HC := hs.o
  unfold slC at hW
  unfold slC
  obtain ⟨ao, co, rfl, _, _⟩ := hs.o
  obtain ⟨ap, cp, rfl, _, _⟩ := hs.p
  obtain ⟨al, cl, rfl, _, _⟩ := hs.l
  obtain ⟨ai, ci, rfl, _, _⟩ := hs.i
  obtain ⟨dk, dn, do_, dp, dg, dl, di, de, dw, dh⟩ := d
  dsimp only at hW HK HR HI hZ ⊢
  clear h hs hi hl hg hl1 hbW kW HC hZ
  go_enter Tryz.func90, Tryz.ntmps90
  go_wp2_with fail
  refine wp_region_T (fun w' => w'.cell? ⟨w.heap.size, 3, none⟩ = some (.slice ap dp.length cp) ∧ w'.cell? ⟨w.heap.size, 4, none⟩ = some (.string (txtOf dg)) ∧ w'.cell? ⟨w.heap.size, 6, none⟩ = some (.slice ai di.length ci)) (fun _ => True) [] (by kernel_rfl) ⟨HK.out _ (Kq.refl _ _), trivial⟩ (fun hHeld => ?_)
  clear hW
  generalize W.drew = U at hHeld HK HR HI HKW hBW ⊢
  refine wpAnyT_takeB (i := 0) (oi := ⟨some 4, .move (.tmp 0), _, _, _, _⟩) (v := ?v0) rfl (by kernel_rfl) (by kernel_rfl) (by kernel_rfl) (by kernel_rfl) (fun _ _ _ h => h) (Or.inl ⟨by rfl, ?hy0⟩) (by assumption) ?rest0
  case hy0 => (intro w hSw; (try dsimp only at hSw); obtain ⟨s0, s1, s2⟩ := hSw; go_simp; try (with_reducible rfl))
  try simp only [Act.put, List.setIfInBounds_toArray, List.set_cons_zero, List.set_cons_succ]
  refine wpAnyT_takeB (i := 1) (oi := ⟨some 5, .fieldAddr 45 (.tmp 3) 5, _, _, _, _⟩) (v := ?v1) rfl (by kernel_rfl) (by kernel_rfl) (by kernel_rfl) (by kernel_rfl) (fun _ _ _ h => h) (Or.inl ⟨by rfl, ?hy1⟩) (by assumption) ?rest1
  case hy1 => (intro w hSw; (try dsimp only at hSw); obtain ⟨s0, s1, s2⟩ := hSw; go_simp; try (with_reducible rfl))
  try simp only [Act.put, List.setIfInBounds_toArray, List.set_cons_zero, List.set_cons_succ]
  refine wpAnyT_takeB (i := 2) (oi := ⟨some 6, .load 43 (.tmp 5), _, _, _, _⟩) (v := ?v2) rfl (by kernel_rfl) (by kernel_rfl) (by kernel_rfl) (by kernel_rfl) (fun _ _ _ h => h) (Or.inl ⟨by rfl, ?hy2⟩) (by assumption) ?rest2
  case hy2 => (intro w hSw; (try dsimp only at hSw); obtain ⟨s0, s1, s2⟩ := hSw; go_simp; try (with_reducible rfl))
  try simp only [Act.put, List.setIfInBounds_toArray, List.set_cons_zero, List.set_cons_succ]
  refine wpAnyT_takeB (i := 4) (oi := ⟨some 8, .fieldAddr 45 (.tmp 3) 3, _, _, _, _⟩) (v := ?v4) rfl (by kernel_rfl) (by kernel_rfl) (by kernel_rfl) (by kernel_rfl) (fun _ _ _ h => h) (Or.inl ⟨by rfl, ?hy4⟩) (by assumption) ?rest4
  case hy4 => (intro w hSw; (try dsimp only at hSw); obtain ⟨s0, s1, s2⟩ := hSw; go_simp; try (with_reducible rfl))
  try simp only [Act.put, List.setIfInBounds_toArray, List.set_cons_zero, List.set_cons_succ]
  refine wpAnyT_takeB (i := 5) (oi := ⟨some 9, .load 41 (.tmp 8), _, _, _, _⟩) (v := ?v5) rfl (by kernel_rfl) (by kernel_rfl) (by kernel_rfl) (by kernel_rfl) (fun _ _ _ h => h) (Or.inl ⟨by rfl, ?hy5⟩) (by assumption) ?rest5
  case hy5 => (intro w hSw; (try dsimp only at hSw); obtain ⟨s0, s1, s2⟩ := hSw; go_simp; try (with_reducible rfl))
  try simp only [Act.put, List.setIfInBounds_toArray, List.set_cons_zero, List.set_cons_succ]
  clear hHeld
  refine wpAnyT_one (i := 3) (o := ⟨some 7, .call { callee := .value (.func 80), args := #[(.tmp 4), (.tmp 6)], argTypes := #[123, 43] }, _, _, _, _⟩) (by kernel_rfl) rfl (fun K hK => ?_)
  go_simp
  refine calls_at HR.out (by with_reducible rfl) (by with_reducible rfl) ?_
  rintro e w1 ⟨rfl, hp1, hk1⟩
  have H1 : Hid (PageAt B b (wordsP di l) w1 ∧ Kq B U w1) := ⟨hp1, hk1⟩
  clear hp1 hk1
  go_wp2_with fail
  refine hK.out _ _ ⟨HK.out _ H1.out.2, fun _ => trivial⟩ ?_
  clear hK K
  try simp only [Act.put, List.setIfInBounds_toArray, List.set_cons_zero, List.set_cons_succ]
  refine wpAnyT_one (i := 6) (o := ⟨some 10, .call { callee := .value (.func 125), args := #[(.tmp 7), (.tmp 9)], argTypes := #[123, 41] }, _, _, _, _⟩) (by kernel_rfl) rfl (fun K hK => ?_)
  go_simp
  refine calls_at (HI.out w1 H1.out.2 H1.out.1) (by with_reducible rfl) (by with_reducible rfl) ?_
  rintro e w2 ⟨rfl, hp2, hk2⟩
  have H2 : Hid (PageAt B b Z w2 ∧ Kq B U w2) := ⟨hp2, H1.out.2.trans hk2⟩
  clear hp2 hk2
  go_wp2_with fail
  refine hK.out _ _ ⟨HK.out _ H2.out.2, fun _ => trivial⟩ ?_
  clear hK K
  try simp only [Act.put, List.setIfInBounds_toArray, List.set_cons_zero, List.set_cons_succ]
  refine wpAnyT_done (by kernel_rfl) ?_ _
  go_wp2_with fail
  go_end0
  exact ⟨rfl, H2.out.1, HKW.out.trans H2.out.2⟩
/-- An id that is leant on. -/
def leanT (ids : List (List UInt8)) : List (List UInt8) := if ids = [] then [] else [58] :: ids
set_option maxRecDepth 10000 in
set_option maxHeartbeats 2000000 in
theorem leaning_any {B b : Nat} {l : List UInt8} (L : List (List UInt8)) (v : Value) (w : World) (h : PageAt B b l w) (hR : RdE B w v L.length (L.map fun x => .string (txtOf x))) (hl : l.length + tot (leanT L) ≤ 900000000) (hBw : B ≤ w.heap.size) : Calls Tryz.prog 176 #[.pointer (some ⟨b, 0, none⟩), v] w fun e w' => e = .returned (.pointer (some ⟨b, 0, none⟩)) ∧ PageAt B b (wordsP (leanT L) l) w' ∧ Kq B w w' := by
  by_cases hL : L = []
  · subst hL
    have HE : Hid (PageAt B b l w ∧ Kq B w w) := ⟨h, Kq.refl _ _⟩
    obtain ⟨a, cap, rfl, _, _⟩ := hR
    clear h hl
    go_enter Tryz.func176, Tryz.ntmps176
    go_wp2_with fail
    go_ret
    exact ⟨rfl, HE.out⟩
  · have hn : 0 < L.length := List.length_pos_iff.2 hL
    have hnI : (0 : Int) < (L.length : Int) := by omega
    have hlt : leanT L = [58] :: L := if_neg hL
    rw [hlt, show tot ([58] :: L) = 2 + tot L by simp [tot]] at hl
    have HA : Hid (Calls Tryz.prog 80 #[.pointer (some ⟨b, 0, none⟩), .slice (some ⟨w.heap.size, 0, none⟩) 1 1] (w.alloc (.cells #[.string ⟨#[58]⟩] 9)) fun e w' => e = .returned (.pointer (some ⟨b, 0, none⟩)) ∧ PageAt B b (wordP l [58]) w' ∧ Kq B w w') := words_one [58] w h (by simp; omega) hBw
    have HB : Hid (∀ w', Kq B w w' → PageAt B b (wordP l [58]) w' → Calls Tryz.prog 80 #[.pointer (some ⟨b, 0, none⟩), v] w' fun e w2 => e = .returned (.pointer (some ⟨b, 0, none⟩)) ∧ PageAt B b (wordsP (leanT L) l) w2 ∧ Kq B w' w2) := fun w' k hp => by
      refine (words_any L v w' hp (hR.next k) ?_ (Nat.le_trans hBw k.low.size)).mono fun e w2 hq => ⟨hq.1, ?_, hq.2.2⟩
      · have := word_len l [58]
        simp at this
        omega
      · rw [hlt]; exact hq.2.1
    obtain ⟨a, cap, rfl, _, _⟩ := hR
    clear h hl hlt
    go_enter Tryz.func176, Tryz.ntmps176
    go_wp2_with fail
    refine calls_at HA.out (by with_reducible rfl) (by with_reducible rfl) ?_
    rintro e w1 ⟨rfl, hp1, hk1⟩
    have H1 : Hid (PageAt B b (wordP l [58]) w1 ∧ Kq B w w1) := ⟨hp1, hk1⟩
    clear hp1 hk1
    go_wp2_with fail
    refine calls_at (HB.out w1 H1.out.2 H1.out.1) (by with_reducible rfl) (by with_reducible rfl) ?_
    rintro e w2 ⟨rfl, hp2, hk2⟩
    have H2 : Hid (PageAt B b (wordsP (leanT L) l) w2 ∧ Kq B w w2) := ⟨hp2, H1.out.2.trans hk2⟩
    clear hp2 hk2
    go_wp2_with fail
    go_ret
    exact ⟨rfl, H2.out⟩
set_option maxRecDepth 10000 in
set_option maxHeartbeats 2000000 in
theorem wrt_unsat : Wrt 154 fun d => leanT d.ids := by
  intro B b l d vo vp vl vi w h hs hi hl hBw hg hB
  obtain ⟨W, hW⟩ : ∃ W, w.alloc (.cells (slC d vo vp vl vi) 45) = W := ⟨_, rfl⟩
  have hbW : Below w.heap.size w W := by rw [← hW]; exact (Below.refl _ _).alloc (Nat.le_refl _) _
  have kW : Kq B w W := Kq.of_below hbW hBw
  have hBW : B ≤ W.heap.size := Nat.le_trans hBw hbW.size
  have gW : W.heap[w.heap.size]? = some (.cells (slC d vo vp vl vi) 45 (0, 0)) := by rw [← hW]; exact heap_alloc_new w _
  have HKW : Hid (Kq B w W) := kW
  have c0 := cell_of gW 6
  have HC : Hid (Calls Tryz.prog 176 #[.pointer (some ⟨b, 0, none⟩), vi] W fun e w' => e = .returned (.pointer (some ⟨b, 0, none⟩)) ∧ PageAt B b (wordsP (leanT d.ids) l) w' ∧ Kq B W w') := leaning_any d.ids vi W (page_below h hbW) (hs.i.next kW) hl hBW
  obtain ⟨ao, co, rfl, _, _⟩ := hs.o
  obtain ⟨ap, cp, rfl, _, _⟩ := hs.p
  obtain ⟨al, cl, rfl, _, _⟩ := hs.l
  obtain ⟨ai, ci, rfl, _, _⟩ := hs.i
  unfold slC at hW
  unfold WrO slC
  simp only [slC] at c0
  dsimp at c0
  clear h hs hi hl hg hbW kW gW
  go_enter Tryz.func154, Tryz.ntmps154
  go_wp2_with fail
  refine calls_at HC.out (by with_reducible rfl) (by with_reducible rfl) ?_
  rintro e w2 ⟨rfl, hp2, hk2⟩
  have H2 : Hid (PageAt B b (wordsP (leanT d.ids) l) w2 ∧ Kq B w w2) := ⟨hp2, HKW.out.trans hk2⟩
  clear hp2 hk2
  go_wp2_with fail
  go_end0
  exact ⟨rfl, H2.out⟩
end Go.Proofs.YtibbnijicdijnaaGreatDoor

namespace Go.Proofs.YtibbnijicdijnaaGreatDoor
open Go.RowKit

/-- An operation's words. -/
def opT (o : OpL) : List (List UInt8) := if o.1 = 1 then [o.2.1] else if o.1 = 2 then [litT o.2.2] else if o.1 = 3 then [[43]] else if o.1 = 4 then [o.2.1, [42]] else if o.1 = 5 then [o.2.1, [100]] else if o.1 = 6 then [[115]] else if o.1 = 7 then [litT o.2.2, [119]] else []
theorem two_texts {B : Nat} (w : World) (x y : List UInt8) : RdE B (w.alloc (.cells #[.string (txtOf x), .string (txtOf y)] 9)) (.slice (some ⟨w.heap.size, 0, none⟩) 2 2) 2 ([x, y].map fun x => .string (txtOf x)) := by
  have hg := heap_alloc_new w (.cells #[.string (txtOf x), .string (txtOf y)] 9)
  refine ⟨_, _, rfl, by omega, fun _ => ⟨w.heap.size, 0, rfl, .inr ⟨_, _, _, hg, by decide, by decide⟩, (Array.getElem?_eq_some_iff.1 hg).1, fun j u hu => ?_⟩⟩
  rw [Nat.zero_add, cell_of hg]
  simpa using hu
theorem words_two {B b : Nat} {l : List UInt8} (x y : List UInt8) (w : World) (h : PageAt B b l w) (hl : l.length + tot [x, y] ≤ 900000000) (hBw : B ≤ w.heap.size) : Calls Tryz.prog 80 #[.pointer (some ⟨b, 0, none⟩), .slice (some ⟨w.heap.size, 0, none⟩) 2 2] (w.alloc (.cells #[.string (txtOf x), .string (txtOf y)] 9)) fun e w' => e = .returned (.pointer (some ⟨b, 0, none⟩)) ∧ PageAt B b (wordsP [x, y] l) w' ∧ Kq B w w' := by
  have hb : Below w.heap.size w (w.alloc (.cells #[.string (txtOf x), .string (txtOf y)] 9)) := (Below.refl _ _).alloc (Nat.le_refl _) _
  refine (words_any [x, y] _ _ (page_below h hb) (two_texts w x y) hl (Nat.le_trans hBw hb.size)).mono fun e w' hq => ?_
  exact ⟨hq.1, hq.2.1, (Kq.of_below hb hBw).trans hq.2.2⟩

set_option maxRecDepth 10000 in
set_option maxHeartbeats 4000000 in
theorem op_wr {B b : Nat} {l : List UInt8} (k : Int) (n : List UInt8) (z : Int) (w : World) (h : PageAt B b l w) (hl : l.length + tot (opT (k, n, z)) ≤ 900000000) (hr : -9223372036854775808 ≤ z ∧ z ≤ 9223372036854775807) (hBw : B ≤ w.heap.size) (hg : Gl w) (hB : 12 ≤ B) : Calls Tryz.prog 121 #[.pointer (some ⟨b, 0, none⟩), .agg #[.int .i64 k, .string (txtOf n), .int .i64 z]] w (WrO B b (wordsP (opT (k, n, z)) l) w) := by
  obtain ⟨W, hW⟩ : ∃ W, w.alloc (.cells #[.int .i64 k, .string (txtOf n), .int .i64 z] 84) = W := ⟨_, rfl⟩
  have hbW : Below w.heap.size w W := by rw [← hW]; exact (Below.refl _ _).alloc (Nat.le_refl _) _
  have kW : Kq B w W := Kq.of_below hbW hBw
  have hBW : B ≤ W.heap.size := Nat.le_trans hBw hbW.size
  have gW : W.heap[w.heap.size]? = some (.cells #[.int .i64 k, .string (txtOf n), .int .i64 z] 84 (0, 0)) := by rw [← hW]; exact heap_alloc_new w _
  have HKW : Hid (Kq B w W) := kW
  have HP : Hid (PageAt B b l W) := page_below h hbW
  have HG : Hid (Gl W) := hg.kq kW hB
  have c0 := cell_of gW 0
  have c1 := cell_of gW 1
  have c2 := cell_of gW 2
  dsimp at c0 c1 c2
  have HgW : Hid (W.heap[w.heap.size]? = some (.cells #[.int .i64 k, .string (txtOf n), .int .i64 z] 84 (0, 0))) := gW
  clear h hg hbW kW gW
  unfold WrO
  by_cases h1 : k = 1
  · subst h1
    have hT : opT (1, n, z) = [n] := rfl
    rw [hT] at hl
    rw [hT]
    have HC : Hid (Calls Tryz.prog 80 #[.pointer (some ⟨b, 0, none⟩), .slice (some ⟨W.heap.size, 0, none⟩) 1 1] (W.alloc (.cells #[.string (txtOf n)] 9)) fun e w' => e = .returned (.pointer (some ⟨b, 0, none⟩)) ∧ PageAt B b (wordsP [n] l) w' ∧ Kq B W w') := words_one n W HP.out (by simpa [tot] using hl) hBW
    clear hl hT
    go_enter Tryz.func121, Tryz.ntmps121
    go_wp2_with fail
    refine calls_at HC.out (by with_reducible rfl) (by with_reducible rfl) ?_
    rintro e w2 ⟨rfl, hp2, hk2⟩
    have H2 : Hid (PageAt B b (wordsP [n] l) w2 ∧ Kq B w w2) := ⟨hp2, HKW.out.trans hk2⟩
    clear hp2 hk2
    go_wp2_with fail
    go_end0
    exact ⟨rfl, H2.out⟩
  by_cases h2 : k = 2
  · subst h2
    have hT : opT (2, n, z) = [litT z] := rfl
    rw [hT] at hl
    rw [hT]
    have HC : Hid (Calls Tryz.prog 128 #[.pointer (some ⟨b, 0, none⟩), .slice (some ⟨W.heap.size, 0, none⟩) 1 1] (W.alloc (.cells #[.int .i64 z] 3)) fun e w' => e = .returned (.pointer (some ⟨b, 0, none⟩)) ∧ PageAt B b (wordsP [litT z] l) w' ∧ Kq B W w') := lits_one z W HP.out (by simpa [tot] using hl) hr hBW HG.out hB
    clear hl hT
    go_enter Tryz.func121, Tryz.ntmps121
    go_wp2_with fail
    refine calls_at HC.out (by with_reducible rfl) (by with_reducible rfl) ?_
    rintro e w2 ⟨rfl, hp2, hk2⟩
    have H2 : Hid (PageAt B b (wordsP [litT z] l) w2 ∧ Kq B w w2) := ⟨hp2, HKW.out.trans hk2⟩
    clear hp2 hk2
    go_wp2_with fail
    go_end0
    exact ⟨rfl, H2.out⟩
  by_cases h3 : k = 3
  · subst h3
    have hT : opT (3, n, z) = [[43]] := rfl
    rw [hT] at hl
    rw [hT]
    have HC : Hid (Calls Tryz.prog 80 #[.pointer (some ⟨b, 0, none⟩), .slice (some ⟨W.heap.size, 0, none⟩) 1 1] (W.alloc (.cells #[.string ⟨#[43]⟩] 9)) fun e w' => e = .returned (.pointer (some ⟨b, 0, none⟩)) ∧ PageAt B b (wordsP [[43]] l) w' ∧ Kq B W w') := words_one [43] W HP.out (by simpa [tot] using hl) hBW
    clear hl hT
    go_enter Tryz.func121, Tryz.ntmps121
    go_wp2_with fail
    refine calls_at HC.out (by with_reducible rfl) (by with_reducible rfl) ?_
    rintro e w2 ⟨rfl, hp2, hk2⟩
    have H2 : Hid (PageAt B b (wordsP [[43]] l) w2 ∧ Kq B w w2) := ⟨hp2, HKW.out.trans hk2⟩
    clear hp2 hk2
    go_wp2_with fail
    go_end0
    exact ⟨rfl, H2.out⟩
  by_cases h4 : k = 4
  · subst h4
    have hT : opT (4, n, z) = [n, [42]] := rfl
    rw [hT] at hl
    rw [hT]
    have HC : Hid (Calls Tryz.prog 80 #[.pointer (some ⟨b, 0, none⟩), .slice (some ⟨W.heap.size, 0, none⟩) 2 2] (W.alloc (.cells #[.string (txtOf n), .string ⟨#[42]⟩] 9)) fun e w' => e = .returned (.pointer (some ⟨b, 0, none⟩)) ∧ PageAt B b (wordsP [n, [42]] l) w' ∧ Kq B W w') := words_two n [42] W HP.out hl hBW
    clear hl hT
    go_enter Tryz.func121, Tryz.ntmps121
    go_wp2_with fail
    refine calls_at HC.out (by with_reducible rfl) (by with_reducible rfl) ?_
    rintro e w2 ⟨rfl, hp2, hk2⟩
    have H2 : Hid (PageAt B b (wordsP [n, [42]] l) w2 ∧ Kq B w w2) := ⟨hp2, HKW.out.trans hk2⟩
    clear hp2 hk2
    go_wp2_with fail
    go_end0
    exact ⟨rfl, H2.out⟩
  by_cases h5 : k = 5
  · subst h5
    have hT : opT (5, n, z) = [n, [100]] := rfl
    rw [hT] at hl
    rw [hT]
    have HC : Hid (Calls Tryz.prog 80 #[.pointer (some ⟨b, 0, none⟩), .slice (some ⟨W.heap.size, 0, none⟩) 2 2] (W.alloc (.cells #[.string (txtOf n), .string ⟨#[100]⟩] 9)) fun e w' => e = .returned (.pointer (some ⟨b, 0, none⟩)) ∧ PageAt B b (wordsP [n, [100]] l) w' ∧ Kq B W w') := words_two n [100] W HP.out hl hBW
    clear hl hT
    go_enter Tryz.func121, Tryz.ntmps121
    go_wp2_with fail
    refine calls_at HC.out (by with_reducible rfl) (by with_reducible rfl) ?_
    rintro e w2 ⟨rfl, hp2, hk2⟩
    have H2 : Hid (PageAt B b (wordsP [n, [100]] l) w2 ∧ Kq B w w2) := ⟨hp2, HKW.out.trans hk2⟩
    clear hp2 hk2
    go_wp2_with fail
    go_end0
    exact ⟨rfl, H2.out⟩
  by_cases h6 : k = 6
  · subst h6
    have hT : opT (6, n, z) = [[115]] := rfl
    rw [hT] at hl
    rw [hT]
    have HC : Hid (Calls Tryz.prog 80 #[.pointer (some ⟨b, 0, none⟩), .slice (some ⟨W.heap.size, 0, none⟩) 1 1] (W.alloc (.cells #[.string ⟨#[115]⟩] 9)) fun e w' => e = .returned (.pointer (some ⟨b, 0, none⟩)) ∧ PageAt B b (wordsP [[115]] l) w' ∧ Kq B W w') := words_one [115] W HP.out (by simpa [tot] using hl) hBW
    clear hl hT
    go_enter Tryz.func121, Tryz.ntmps121
    go_wp2_with fail
    refine calls_at HC.out (by with_reducible rfl) (by with_reducible rfl) ?_
    rintro e w2 ⟨rfl, hp2, hk2⟩
    have H2 : Hid (PageAt B b (wordsP [[115]] l) w2 ∧ Kq B w w2) := ⟨hp2, HKW.out.trans hk2⟩
    clear hp2 hk2
    go_wp2_with fail
    go_end0
    exact ⟨rfl, H2.out⟩
  by_cases h7 : k = 7
  · subst h7
    have hT : opT (7, n, z) = [litT z, [119]] := rfl
    rw [hT] at hl
    rw [hT]
    have hl2 : l.length + ((litT z).length + 1) + 2 ≤ 900000000 := by simp [tot] at hl; omega
    have HC : Hid (Calls Tryz.prog 128 #[.pointer (some ⟨b, 0, none⟩), .slice (some ⟨W.heap.size, 0, none⟩) 1 1] (W.alloc (.cells #[.int .i64 z] 3)) fun e w' => e = .returned (.pointer (some ⟨b, 0, none⟩)) ∧ PageAt B b (wordP l (litT z)) w' ∧ Kq B W w') := lits_one z W HP.out (by omega) hr hBW HG.out hB
    have HD : Hid (∀ w', Kq B W w' → PageAt B b (wordP l (litT z)) w' → Calls Tryz.prog 80 #[.pointer (some ⟨b, 0, none⟩), .slice (some ⟨w'.heap.size, 0, none⟩) 1 1] (w'.alloc (.cells #[.string ⟨#[119]⟩] 9)) fun e w2 => e = .returned (.pointer (some ⟨b, 0, none⟩)) ∧ PageAt B b (wordsP [litT z, [119]] l) w2 ∧ Kq B w' w2) := fun w' k hp => words_one [119] w' hp (by have := word_len l (litT z); simp; omega) (Nat.le_trans hBW k.low.size)
    clear hl hl2 hT
    go_enter Tryz.func121, Tryz.ntmps121
    go_wp2_with fail
    refine calls_at HC.out (by with_reducible rfl) (by with_reducible rfl) ?_
    rintro e w2 ⟨rfl, hp2, hk2⟩
    have H2 : Hid (PageAt B b (wordP l (litT z)) w2 ∧ Kq B W w2) := ⟨hp2, hk2⟩
    clear hp2 hk2
    go_wp2_with fail
    refine calls_at (HD.out w2 H2.out.2 H2.out.1) (by with_reducible rfl) (by with_reducible rfl) ?_
    rintro e w3 ⟨rfl, hp3, hk3⟩
    have H3 : Hid (PageAt B b (wordsP [litT z, [119]] l) w3 ∧ Kq B w w3) := ⟨hp3, HKW.out.trans (H2.out.2.trans hk3)⟩
    clear hp3 hk3
    go_wp2_with fail
    go_end0
    exact ⟨rfl, H3.out⟩
  have hT : opT (k, n, z) = [] := by simp [opT, h1, h2, h3, h4, h5, h6, h7]
  rw [hT]
  have HE : Hid (PageAt B b l W ∧ Kq B w W) := ⟨HP.out, HKW.out⟩
  clear hl hT
  go_enter Tryz.func121, Tryz.ntmps121
  go_wp2_with fail
  go_end0
  exact ⟨rfl, HE.out⟩
/-- All operations' words. -/
def opsT (L : List OpL) : List (List UInt8) := L.flatMap opT
end Go.Proofs.YtibbnijicdijnaaGreatDoor
