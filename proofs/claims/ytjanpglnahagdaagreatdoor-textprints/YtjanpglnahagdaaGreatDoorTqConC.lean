/-
  The document's line of a constraint.
-/
import Derived.Test.YtjanpglnahagdaaGreatDoorJ43
namespace Go.Proofs.YtjanpglnahagdaaGreatDoor
open Go Go.RowKit
open Go.Lib (itoa)


set_option maxHeartbeats 4000000 in
set_option maxRecDepth 100000 in
theorem doc_9a (vars : List Md.Vr) (vv vc vg : Value) (hb : Bool) (vt : Value) (k v x y : Int) (vx vb vr : Value) (w : World) (hV : VarsAt w vv vars) (hn : ∀ v ∈ vars, v.name.data.toList.length ≤ 16) (hx : 0 ≤ x ∧ x < (vars.length : Int)) (hy : 0 ≤ y ∧ y < (vars.length : Int)) (hk : -1000000000 ≤ k ∧ k ≤ 1000000000) (hv : -1000000000 ≤ v ∧ v ≤ 1000000000) {xs : List Int} (hxs : IntsAt w vx xs) (hxn : ∀ x ∈ xs, 0 ≤ x ∧ x < (vars.length : Int)) (hxl : xs.length ≤ 64) :
    Calls Tryz.prog 20 #[.agg #[vv, vc, .bool hb, vg], .agg #[.int .i64 9, .int .i64 1, vt, .int .i64 k, .int .i64 v, .int .i64 x, .int .i64 y, vx, vb, vr]] w fun e w' => e = .returned (.string ⟨((⟨#[99, 111, 117, 110, 116, 32]⟩ : ByteArray).data.toList ++ (⟨#[60, 61]⟩ : ByteArray).data.toList ++ (32 :: itoa k) ++ (32 :: itoa v) ++ Md.namesT vars xs).toArray⟩) ∧ Below w.heap.size w w' := by
  have _ := hv
  obtain ⟨ya, ycap, rfl, hym⟩ := hV.form
  obtain ⟨xa, xc, rfl, _⟩ := hxs.form
  unfold maxLen at hym
  obtain ⟨W, hW⟩ : ∃ W, (w.alloc (.cells #[.slice ya vars.length ycap, vc, .bool hb, vg] 26)).alloc (.cells #[.int .i64 9, .int .i64 1, vt, .int .i64 k, .int .i64 v, .int .i64 x, .int .i64 y, .slice xa xs.length xc, vb, vr] 64) = W := ⟨_, rfl⟩
  have HB0 : Hid (Below w.heap.size w W) := (two_boxes hW).1
  have HOm : Hid (W.heap[w.heap.size]? = some (.cells #[.slice ya vars.length ycap, vc, .bool hb, vg] 26 (0, 0))) := (two_boxes hW).2.1
  have HOc : Hid (W.heap[w.heap.size + 1]? = some (.cells #[.int .i64 9, .int .i64 1, vt, .int .i64 k, .int .i64 v, .int .i64 x, .int .i64 y, .slice xa xs.length xc, vb, vr] 64 (0, 0))) := (two_boxes hW).2.2
  obtain ⟨jx, hjx, rfl, hnx⟩ := nm_get hx.1 hx.2
  obtain ⟨jy, hjy, rfl, hny⟩ := nm_get hy.1 hy.2
  obtain ⟨_, _, hvv, _, _, hyc⟩ := id hV
  injection hvv with e1 _ e3
  subst e3
  subst e1
  obtain ⟨gv, ov, rfl, hgv, hvc⟩ := hyc (by omega)
  obtain ⟨NX, hNX⟩ : ∃ NX, NX = vars[jx].name := ⟨_, rfl⟩
  obtain ⟨NY, hNY⟩ : ∃ NY, NY = vars[jy].name := ⟨_, rfl⟩
  have HSc : Hid (∀ w', Below W.heap.size W w' → w'.cell? ⟨w.heap.size, 0, none⟩ = some (.slice (some ⟨gv, ov, none⟩) vars.length ycap) ∧ w'.cell? ⟨w.heap.size, 1, none⟩ = some vc ∧ w'.cell? ⟨w.heap.size, 2, none⟩ = some (.bool hb) ∧ w'.cell? ⟨w.heap.size, 3, none⟩ = some vg ∧ w'.cell? ⟨w.heap.size + 1, 0, none⟩ = some (.int .i64 9) ∧ w'.cell? ⟨w.heap.size + 1, 1, none⟩ = some (.int .i64 1) ∧ w'.cell? ⟨w.heap.size + 1, 2, none⟩ = some (vt) ∧ w'.cell? ⟨w.heap.size + 1, 3, none⟩ = some (.int .i64 k) ∧ w'.cell? ⟨w.heap.size + 1, 4, none⟩ = some (.int .i64 v) ∧ w'.cell? ⟨w.heap.size + 1, 5, none⟩ = some (.int .i64 (jx : Int)) ∧ w'.cell? ⟨w.heap.size + 1, 6, none⟩ = some (.int .i64 (jy : Int)) ∧ w'.cell? ⟨w.heap.size + 1, 7, none⟩ = some (.slice xa xs.length xc) ∧ w'.cell? ⟨w.heap.size + 1, 8, none⟩ = some (vb) ∧ w'.cell? ⟨w.heap.size + 1, 9, none⟩ = some (vr) ∧ w'.cell? ⟨gv, ov + jx * 3, none⟩ = some (.string NX) ∧ w'.cell? ⟨gv, ov + jy * 3, none⟩ = some (.string NY) ∧ Below W.heap.size W w') := fun w' hbw => by
    have hw : Below w.heap.size w w' := HB0.out.trans (hbw.mono HB0.out.size)
    have h1 : w'.heap[w.heap.size]? = some (.cells #[.slice (some ⟨gv, ov, none⟩) vars.length ycap, vc, .bool hb, vg] 26) := (hbw.block w.heap.size (Array.getElem?_eq_some_iff.1 HOm.out).1).trans HOm.out
    have h2 : w'.heap[w.heap.size + 1]? = some (.cells #[.int .i64 9, .int .i64 1, vt, .int .i64 k, .int .i64 v, .int .i64 (jx : Int), .int .i64 (jy : Int), .slice xa xs.length xc, vb, vr] 64) := (hbw.block _ (Array.getElem?_eq_some_iff.1 HOc.out).1).trans HOc.out
    refine ⟨?_, ?_, ?_, ?_, ?_, ?_, ?_, ?_, ?_, ?_, ?_, ?_, ?_, ?_, ?_, ?_, hbw⟩
    · rw [Lib.cell_of_heap h1]; rfl
    · rw [Lib.cell_of_heap h1]; rfl
    · rw [Lib.cell_of_heap h1]; rfl
    · rw [Lib.cell_of_heap h1]; rfl
    · rw [Lib.cell_of_heap h2]; rfl
    · rw [Lib.cell_of_heap h2]; rfl
    · rw [Lib.cell_of_heap h2]; rfl
    · rw [Lib.cell_of_heap h2]; rfl
    · rw [Lib.cell_of_heap h2]; rfl
    · rw [Lib.cell_of_heap h2]; rfl
    · rw [Lib.cell_of_heap h2]; rfl
    · rw [Lib.cell_of_heap h2]; rfl
    · rw [Lib.cell_of_heap h2]; rfl
    · rw [Lib.cell_of_heap h2]; rfl
    · rw [hNX]; exact (hw.cell (p := ⟨gv, ov + jx * 3, none⟩) hgv).trans (hvc jx hjx).1
    · rw [hNY]; exact (hw.cell (p := ⟨gv, ov + jy * 3, none⟩) hgv).trans (hvc jy hjy).1
  have zx : NX.size ≤ 16 := by rw [hNX, size_toList]; exact hn _ (List.getElem_mem hjx)
  have zy : NY.size ≤ 16 := by rw [hNY, size_toList]; exact hn _ (List.getElem_mem hjy)
  have HNX : Hid (NX.data.toList = Md.nm vars (jx : Int)) := by rw [hNX]; exact hnx.symm
  have HNY : Hid (NY.data.toList = Md.nm vars (jy : Int)) := by rw [hNY]; exact hny.symm
  have hjxI : (jx : Int) < (vars.length : Int) := by omega
  have hjyI : (jy : Int) < (vars.length : Int) := by omega
  obtain ⟨DK, hDK⟩ : ∃ DK : ByteArray, DK = ⟨(itoa k).toArray⟩ := ⟨_, rfl⟩
  have zk : DK.size ≤ 21 := by rw [hDK, size_mk]; exact Md.itoa_len hk
  have HDK : Hid (DK.data.toList = itoa k) := by rw [hDK]; show _ = _; simp
  have HCk : Hid (∀ w', Calls Tryz.prog 19 #[.int .i64 k] w' fun e w'' => e = .returned (.string DK) ∧ Below w'.heap.size w' w'') := fun w' => by rw [hDK]; exact digits_any k w' hk
  obtain ⟨DV, hDV⟩ : ∃ DV : ByteArray, DV = ⟨(itoa v).toArray⟩ := ⟨_, rfl⟩
  have zv : DV.size ≤ 21 := by rw [hDV, size_mk]; exact Md.itoa_len hv
  have HDV : Hid (DV.data.toList = itoa v) := by rw [hDV]; show _ = _; simp
  have HCv : Hid (∀ w', Calls Tryz.prog 19 #[.int .i64 v] w' fun e w'' => e = .returned (.string DV) ∧ Below w'.heap.size w' w'') := fun w' => by rw [hDV]; exact digits_any v w' hv
  obtain ⟨NS, hNS⟩ : ∃ NS : ByteArray, NS = ⟨(Md.namesT vars xs).toArray⟩ := ⟨_, rfl⟩
  have zn : NS.size ≤ 1408 := by rw [hNS, size_mk]; have := namesT_len hn hxn; omega
  have HNS : Hid (NS.data.toList = Md.namesT vars xs) := by rw [hNS]; show _ = _; simp
  have HCn : Hid (∀ w', Below W.heap.size W w' → Calls Tryz.prog 50 #[.agg #[.slice (some ⟨gv, ov, none⟩) vars.length ycap, vc, .bool hb, vg], .slice xa xs.length xc] w' fun e w'' => e = .returned (.string NS) ∧ Below w'.heap.size w' w'') := fun w' hbw => by rw [hNS]; exact tqNames_any vars _ vc vg hb _ xs w' (hV.below (HB0.out.trans (hbw.mono HB0.out.size))) hn (hxs.below (HB0.out.trans (hbw.mono HB0.out.size))) hxn hxl
  obtain ⟨sx, hsx⟩ : ∃ s : ByteArray, s = (⟨#[32]⟩ : ByteArray) ++ NX := ⟨_, rfl⟩
  have zsx : sx.size ≤ 24 := by rw [hsx, ByteArray.size_append]; have q0 : (⟨#[32]⟩ : ByteArray).size ≤ 8 := (by decide); omega
  have asx := add_str hsx (by have q0 : (⟨#[32]⟩ : ByteArray).size ≤ 8 := (by decide); omega)
  obtain ⟨sy, hsy⟩ : ∃ s : ByteArray, s = (⟨#[32]⟩ : ByteArray) ++ NY := ⟨_, rfl⟩
  have zsy : sy.size ≤ 24 := by rw [hsy, ByteArray.size_append]; have q0 : (⟨#[32]⟩ : ByteArray).size ≤ 8 := (by decide); omega
  have asy := add_str hsy (by have q0 : (⟨#[32]⟩ : ByteArray).size ≤ 8 := (by decide); omega)
  obtain ⟨sk, hsk⟩ : ∃ s : ByteArray, s = (⟨#[32]⟩ : ByteArray) ++ DK := ⟨_, rfl⟩
  have zsk : sk.size ≤ 29 := by rw [hsk, ByteArray.size_append]; have q0 : (⟨#[32]⟩ : ByteArray).size ≤ 8 := (by decide); omega
  have ask := add_str hsk (by have q0 : (⟨#[32]⟩ : ByteArray).size ≤ 8 := (by decide); omega)
  obtain ⟨p1, hp1⟩ : ∃ s : ByteArray, s = (⟨#[99, 111, 117, 110, 116, 32]⟩ : ByteArray) ++ (⟨#[60, 61]⟩ : ByteArray) := ⟨_, rfl⟩
  have zp1 : p1.size ≤ 16 := by rw [hp1, ByteArray.size_append]; have q0 : (⟨#[99, 111, 117, 110, 116, 32]⟩ : ByteArray).size ≤ 8 := (by decide); have q1 : (⟨#[60, 61]⟩ : ByteArray).size ≤ 8 := (by decide); omega
  have ap1 := add_str hp1 (by have q0 : (⟨#[99, 111, 117, 110, 116, 32]⟩ : ByteArray).size ≤ 8 := (by decide); have q1 : (⟨#[60, 61]⟩ : ByteArray).size ≤ 8 := (by decide); omega)
  obtain ⟨p2, hp2⟩ : ∃ s : ByteArray, s = p1 ++ sk := ⟨_, rfl⟩
  have zp2 : p2.size ≤ 45 := by rw [hp2, ByteArray.size_append]; omega
  have ap2 := add_str hp2 (by omega)
  obtain ⟨p3, hp3⟩ : ∃ s : ByteArray, s = p2 ++ (⟨#[32]⟩ : ByteArray) := ⟨_, rfl⟩
  have zp3 : p3.size ≤ 53 := by rw [hp3, ByteArray.size_append]; have q0 : (⟨#[32]⟩ : ByteArray).size ≤ 8 := (by decide); omega
  have ap3 := add_str hp3 (by have q0 : (⟨#[32]⟩ : ByteArray).size ≤ 8 := (by decide); omega)
  obtain ⟨p4, hp4⟩ : ∃ s : ByteArray, s = p3 ++ DV := ⟨_, rfl⟩
  have zp4 : p4.size ≤ 74 := by rw [hp4, ByteArray.size_append]; omega
  have ap4 := add_str hp4 (by omega)
  obtain ⟨R, hR⟩ : ∃ s : ByteArray, s = p4 ++ NS := ⟨_, rfl⟩
  have zR : R.size ≤ 1482 := by rw [hR, ByteArray.size_append]; omega
  have aR := add_str hR (by omega)
  have HE : Hid (R.data.toList = (⟨#[99, 111, 117, 110, 116, 32]⟩ : ByteArray).data.toList ++ (⟨#[60, 61]⟩ : ByteArray).data.toList ++ (32 :: itoa k) ++ (32 :: itoa v) ++ Md.namesT vars xs) := by
    show _ = _
    rw [hR, hp4, hp3, hp2, hp1, hsk]
    simp [HDK.out, HDV.out, HNS.out]
  have HF : Hid (R = ⟨((⟨#[99, 111, 117, 110, 116, 32]⟩ : ByteArray).data.toList ++ (⟨#[60, 61]⟩ : ByteArray).data.toList ++ (32 :: itoa k) ++ (32 :: itoa v) ++ Md.namesT vars xs).toArray⟩) := mk_toList R HE.out
  clear hx hy hk hv hn hV hvc hnx hny hNX hNY hDK hDV hNS hxs hxn hxl hsx hsy hsk hp1 hp2 hp3 hp4 hR  HOm HOc
  go_enter Tryz.func20, Tryz.ntmps20
  go_wp2_with fail
  try rw [hW]
  clear hW
  go_cut [5, 6, 7] from 10 to 29 (fun xv yv kv wx => xv = .string sx ∧ yv = .string sy ∧ kv = .string sk ∧ Hid (Below W.heap.size W wx))
  case first =>
    go_region_held3 (fun w' => w'.cell? ⟨w.heap.size, 0, none⟩ = some (.slice (some ⟨gv, ov, none⟩) vars.length ycap) ∧ w'.cell? ⟨w.heap.size, 1, none⟩ = some vc ∧ w'.cell? ⟨w.heap.size, 2, none⟩ = some (.bool hb) ∧ w'.cell? ⟨w.heap.size, 3, none⟩ = some vg ∧ w'.cell? ⟨w.heap.size + 1, 0, none⟩ = some (.int .i64 9) ∧ w'.cell? ⟨w.heap.size + 1, 1, none⟩ = some (.int .i64 1) ∧ w'.cell? ⟨w.heap.size + 1, 2, none⟩ = some (vt) ∧ w'.cell? ⟨w.heap.size + 1, 3, none⟩ = some (.int .i64 k) ∧ w'.cell? ⟨w.heap.size + 1, 4, none⟩ = some (.int .i64 v) ∧ w'.cell? ⟨w.heap.size + 1, 5, none⟩ = some (.int .i64 (jx : Int)) ∧ w'.cell? ⟨w.heap.size + 1, 6, none⟩ = some (.int .i64 (jy : Int)) ∧ w'.cell? ⟨w.heap.size + 1, 7, none⟩ = some (.slice xa xs.length xc) ∧ w'.cell? ⟨w.heap.size + 1, 8, none⟩ = some (vb) ∧ w'.cell? ⟨w.heap.size + 1, 9, none⟩ = some (vr) ∧ w'.cell? ⟨gv, ov + jx * 3, none⟩ = some (.string NX) ∧ w'.cell? ⟨gv, ov + jy * 3, none⟩ = some (.string NY) ∧ Below W.heap.size W w')
      (first | exact HSc.out _ (Below.refl _ _).drew | exact HSc.out _ ((Below.refl _ _).drew.trans hb2) | assumption)
      (first | (go_at_call 19; refine calls_at (HCk.out _) (by with_reducible rfl) (by with_reducible rfl) ?_; rintro e w2 ⟨rfl, hb2⟩))
    all_goals
      have HB2 : Hid (Below W.heap.size W w2) := And.right (And.right (And.right (And.right (And.right (And.right (And.right (And.right (And.right (And.right (And.right (And.right (And.right (And.right (And.right (And.right (by assumption))))))))))))))))
      go_wp2_with fail
      go_meet
      case rel => exact ⟨rfl, rfl, rfl, HB2⟩
  case rest =>
    obtain ⟨rfl, rfl, rfl, hBc⟩ := hcut
    rename World => wq
    obtain ⟨m0, m1, m2, m3, c0, c1, c2, c3, c4, c5, c6, c7, c8, c9, nx, ny, _⟩ := HSc.out wq hBc.out
    clear m0 m1 m2 m3 c1 c2 c3 c4 c5 c6 c7 c8 c9 nx ny
    go_wp2_with fail
    refine wp_region_held_drew (S := fun w' => w'.cell? ⟨w.heap.size, 0, none⟩ = some (.slice (some ⟨gv, ov, none⟩) vars.length ycap) ∧ w'.cell? ⟨w.heap.size, 1, none⟩ = some vc ∧ w'.cell? ⟨w.heap.size, 2, none⟩ = some (.bool hb) ∧ w'.cell? ⟨w.heap.size, 3, none⟩ = some vg ∧ w'.cell? ⟨w.heap.size + 1, 0, none⟩ = some (.int .i64 9) ∧ w'.cell? ⟨w.heap.size + 1, 1, none⟩ = some (.int .i64 1) ∧ w'.cell? ⟨w.heap.size + 1, 2, none⟩ = some (vt) ∧ w'.cell? ⟨w.heap.size + 1, 3, none⟩ = some (.int .i64 k) ∧ w'.cell? ⟨w.heap.size + 1, 4, none⟩ = some (.int .i64 v) ∧ w'.cell? ⟨w.heap.size + 1, 5, none⟩ = some (.int .i64 (jx : Int)) ∧ w'.cell? ⟨w.heap.size + 1, 6, none⟩ = some (.int .i64 (jy : Int)) ∧ w'.cell? ⟨w.heap.size + 1, 7, none⟩ = some (.slice xa xs.length xc) ∧ w'.cell? ⟨w.heap.size + 1, 8, none⟩ = some (vb) ∧ w'.cell? ⟨w.heap.size + 1, 9, none⟩ = some (vr) ∧ w'.cell? ⟨gv, ov + jx * 3, none⟩ = some (.string NX) ∧ w'.cell? ⟨gv, ov + jy * 3, none⟩ = some (.string NY) ∧ Below W.heap.size W w') (by kernel_rfl) (HSc.out _ hBc.out.drew) (fun hHeld => ?_)
    refine wpAnyH_take (i := 1) (oi := ⟨some 117, .fieldAddr 64 (.tmp 3) 1, _, _, _, _⟩) (v := ?vH1) rfl (by kernel_rfl) (by kernel_rfl) (by kernel_rfl) (fun _ _ _ h => h) (Or.inl ⟨by rfl, ?hyH1⟩) (by assumption) ?restH1
    case hyH1 => (intro w hSw; (try dsimp only at hSw); go_simp; try (with_reducible rfl))
    try simp only [Act.put, List.setIfInBounds_toArray, List.set_cons_zero, List.set_cons_succ]
    refine wpAnyH_take (i := 2) (oi := ⟨some 118, .load 3 (.tmp 117), _, _, _, _⟩) (v := ?vH2) rfl (by kernel_rfl) (by kernel_rfl) (by kernel_rfl) (fun _ _ _ h => h) (Or.inl ⟨by rfl, ?hyH2⟩) (by assumption) ?restH2
    case hyH2 => (intro w hSw; (try dsimp only at hSw); go_simp; try (with_reducible rfl))
    try simp only [Act.put, List.setIfInBounds_toArray, List.set_cons_zero, List.set_cons_succ]
    refine wpAnyH_take (i := 6) (oi := ⟨some 122, .move (.tmp 7), _, _, _, _⟩) (v := ?vH3) rfl (by kernel_rfl) (by kernel_rfl) (by kernel_rfl) (fun _ _ _ h => h) (Or.inl ⟨by rfl, ?hyH3⟩) (by assumption) ?restH3
    case hyH3 => (intro w hSw; (try dsimp only at hSw); go_simp; try (with_reducible rfl))
    try simp only [Act.put, List.setIfInBounds_toArray, List.set_cons_zero, List.set_cons_succ]
    refine wpAnyH_take (i := 9) (oi := ⟨some 125, .fieldAddr 64 (.tmp 3) 4, _, _, _, _⟩) (v := ?vH4) rfl (by kernel_rfl) (by kernel_rfl) (by kernel_rfl) (fun _ _ _ h => h) (Or.inl ⟨by rfl, ?hyH4⟩) (by assumption) ?restH4
    case hyH4 => (intro w hSw; (try dsimp only at hSw); go_simp; try (with_reducible rfl))
    try simp only [Act.put, List.setIfInBounds_toArray, List.set_cons_zero, List.set_cons_succ]
    refine wpAnyH_take (i := 10) (oi := ⟨some 126, .load 3 (.tmp 125), _, _, _, _⟩) (v := ?vH5) rfl (by kernel_rfl) (by kernel_rfl) (by kernel_rfl) (fun _ _ _ h => h) (Or.inl ⟨by rfl, ?hyH5⟩) (by assumption) ?restH5
    case hyH5 => (intro w hSw; (try dsimp only at hSw); go_simp; try (with_reducible rfl))
    try simp only [Act.put, List.setIfInBounds_toArray, List.set_cons_zero, List.set_cons_succ]
    refine wpAnyH_take (i := 13) (oi := ⟨some 129, .load 26 (.tmp 2), _, _, _, _⟩) (v := ?vH6) rfl (by kernel_rfl) (by kernel_rfl) (by kernel_rfl) (fun _ _ _ h => h) (Or.inl ⟨by rfl, ?hyH6⟩) (by assumption) ?restH6
    case hyH6 => (intro w hSw; (try dsimp only at hSw); go_simp; try (with_reducible rfl))
    try simp only [Act.put, List.setIfInBounds_toArray, List.set_cons_zero, List.set_cons_succ]
    refine wpAnyH_take (i := 14) (oi := ⟨some 130, .fieldAddr 64 (.tmp 3) 7, _, _, _, _⟩) (v := ?vH7) rfl (by kernel_rfl) (by kernel_rfl) (by kernel_rfl) (fun _ _ _ h => h) (Or.inl ⟨by rfl, ?hyH7⟩) (by assumption) ?restH7
    case hyH7 => (intro w hSw; (try dsimp only at hSw); go_simp; try (with_reducible rfl))
    try simp only [Act.put, List.setIfInBounds_toArray, List.set_cons_zero, List.set_cons_succ]
    refine wpAnyH_take (i := 15) (oi := ⟨some 131, .load 33 (.tmp 130), _, _, _, _⟩) (v := ?vH8) rfl (by kernel_rfl) (by kernel_rfl) (by kernel_rfl) (fun _ _ _ h => h) (Or.inl ⟨by rfl, ?hyH8⟩) (by assumption) ?restH8
    case hyH8 => (intro w hSw; (try dsimp only at hSw); go_simp; try (with_reducible rfl))
    try simp only [Act.put, List.setIfInBounds_toArray, List.set_cons_zero, List.set_cons_succ]
    refine wpAnyH_ready (rs := [0, 11]) (by kernel_rfl) (by simp) ?_
    refine AllReadyH.cons (o := ⟨some 116, .buildSlice 97 4 #[(0, (.const (.string ⟨#[]⟩))), (1, (.const (.string ⟨#[60, 61]⟩))), (2, (.const (.string ⟨#[61]⟩))), (3, (.const (.string ⟨#[62, 61]⟩)))], _, _, _, _⟩) rfl (fun K hK => ?_) ?_
    · go_simp
      refine hK.out _ _ (HSc.out _ ((And.right (And.right (And.right (And.right (And.right (And.right (And.right (And.right (And.right (And.right (And.right (And.right (And.right (And.right (And.right (And.right hHeld)))))))))))))))).alloc (And.right (And.right (And.right (And.right (And.right (And.right (And.right (And.right (And.right (And.right (And.right (And.right (And.right (And.right (And.right (And.right hHeld)))))))))))))))).size _)) (fun hHeld => ?_)
      clear hK K
      try simp only [Act.put, List.setIfInBounds_toArray, List.set_cons_zero, List.set_cons_succ]
      refine wpAnyH_take (i := 3) (oi := ⟨some 119, .indexAddr 97 (.tmp 116) (.tmp 118), _, _, _, _⟩) (v := ?vH9) rfl (by kernel_rfl) (by kernel_rfl) (by kernel_rfl) (fun _ _ _ h => h) (Or.inl ⟨by rfl, ?hyH9⟩) (by assumption) ?restH9
      case hyH9 => (intro w hSw; (try dsimp only at hSw); go_simp; try (with_reducible rfl))
      try simp only [Act.put, List.setIfInBounds_toArray, List.set_cons_zero, List.set_cons_succ]
      refine wpAnyH_ready (rs := [4, 11]) (by kernel_rfl) (by simp) ?_
      refine AllReadyH.cons (o := ⟨some 120, .load 9 (.tmp 119), _, _, _, _⟩) rfl (fun K hK => ?_) ?_
      · go_simp
        refine hK.out _ _ hHeld (fun hHeld => ?_)
        clear hK K
        try simp only [Act.put, List.setIfInBounds_toArray, List.set_cons_zero, List.set_cons_succ]
        refine wpAnyH_take (i := 5) (oi := ⟨some 121, .binOp .add 9 ((.const (.string ⟨#[99, 111, 117, 110, 116, 32]⟩))) (.tmp 120) 9, _, _, _, _⟩) (v := ?vH10) rfl (by kernel_rfl) (by kernel_rfl) (by kernel_rfl) (fun _ _ _ h => h) (Or.inl ⟨by rfl, ?hyH10⟩) (by assumption) ?restH10
        case hyH10 => (intro w hSw; (try dsimp only at hSw); go_simp; try (with_reducible rfl))
        try simp only [Act.put, List.setIfInBounds_toArray, List.set_cons_zero, List.set_cons_succ]
        refine wpAnyH_take (i := 7) (oi := ⟨some 123, .binOp .add 9 (.tmp 121) (.tmp 122) 9, _, _, _, _⟩) (v := ?vH11) rfl (by kernel_rfl) (by kernel_rfl) (by kernel_rfl) (fun _ _ _ h => h) (Or.inl ⟨by rfl, ?hyH11⟩) (by assumption) ?restH11
        case hyH11 => (intro w hSw; (try dsimp only at hSw); go_simp; try (with_reducible rfl))
        try simp only [Act.put, List.setIfInBounds_toArray, List.set_cons_zero, List.set_cons_succ]
        refine wpAnyH_take (i := 8) (oi := ⟨some 124, .binOp .add 9 (.tmp 123) ((.const (.string ⟨#[32]⟩))) 9, _, _, _, _⟩) (v := ?vH12) rfl (by kernel_rfl) (by kernel_rfl) (by kernel_rfl) (fun _ _ _ h => h) (Or.inl ⟨by rfl, ?hyH12⟩) (by assumption) ?restH12
        case hyH12 => (intro w hSw; (try dsimp only at hSw); go_simp; try (with_reducible rfl))
        try simp only [Act.put, List.setIfInBounds_toArray, List.set_cons_zero, List.set_cons_succ]
        refine wpAnyH_ready (rs := [11]) (by kernel_rfl) (by simp) ?_
        refine AllReadyH.cons (o := ⟨some 127, .call { callee := .value (.func 19), args := #[(.tmp 126)], argTypes := #[3] }, _, _, _, _⟩) rfl (fun K hK => ?_) ?_
        · go_simp
          refine calls_at (HCv.out _) (by with_reducible rfl) (by with_reducible rfl) ?_
          rintro e w51 ⟨rfl, hb11⟩
          go_wp2_with fail
          refine hK.out _ _ (HSc.out _ ((And.right (And.right (And.right (And.right (And.right (And.right (And.right (And.right (And.right (And.right (And.right (And.right (And.right (And.right (And.right (And.right hHeld)))))))))))))))).trans (hb11.mono (And.right (And.right (And.right (And.right (And.right (And.right (And.right (And.right (And.right (And.right (And.right (And.right (And.right (And.right (And.right (And.right hHeld)))))))))))))))).size))) (fun hHeld => ?_)
          clear hK K
          try simp only [Act.put, List.setIfInBounds_toArray, List.set_cons_zero, List.set_cons_succ]
          refine wpAnyH_take (i := 12) (oi := ⟨some 128, .binOp .add 9 (.tmp 124) (.tmp 127) 9, _, _, _, _⟩) (v := ?vH13) rfl (by kernel_rfl) (by kernel_rfl) (by kernel_rfl) (fun _ _ _ h => h) (Or.inl ⟨by rfl, ?hyH13⟩) (by assumption) ?restH13
          case hyH13 => (intro w hSw; (try dsimp only at hSw); go_simp; try (with_reducible rfl))
          try simp only [Act.put, List.setIfInBounds_toArray, List.set_cons_zero, List.set_cons_succ]
          refine wpAnyH_ready (rs := [16]) (by kernel_rfl) (by simp) ?_
          refine AllReadyH.cons (o := ⟨some 132, .call { callee := .value (.func 50), args := #[(.tmp 129), (.tmp 131)], argTypes := #[26, 33] }, _, _, _, _⟩) rfl (fun K hK => ?_) ?_
          · go_simp
            refine calls_at (HCn.out _ (And.right (And.right (And.right (And.right (And.right (And.right (And.right (And.right (And.right (And.right (And.right (And.right (And.right (And.right (And.right (And.right hHeld))))))))))))))))) (by with_reducible rfl) (by with_reducible rfl) ?_
            rintro e w56 ⟨rfl, hb16⟩
            go_wp2_with fail
            refine hK.out _ _ (HSc.out _ ((And.right (And.right (And.right (And.right (And.right (And.right (And.right (And.right (And.right (And.right (And.right (And.right (And.right (And.right (And.right (And.right hHeld)))))))))))))))).trans (hb16.mono (And.right (And.right (And.right (And.right (And.right (And.right (And.right (And.right (And.right (And.right (And.right (And.right (And.right (And.right (And.right (And.right hHeld)))))))))))))))).size))) (fun hHeld => ?_)
            clear hK K
            try simp only [Act.put, List.setIfInBounds_toArray, List.set_cons_zero, List.set_cons_succ]
            refine wpAnyH_take (i := 17) (oi := ⟨some 133, .binOp .add 9 (.tmp 128) (.tmp 132) 9, _, _, _, _⟩) (v := ?vH14) rfl (by kernel_rfl) (by kernel_rfl) (by kernel_rfl) (fun _ _ _ h => h) (Or.inl ⟨by rfl, ?hyH14⟩) (by assumption) ?restH14
            case hyH14 => (intro w hSw; (try dsimp only at hSw); go_simp; try (with_reducible rfl))
            try simp only [Act.put, List.setIfInBounds_toArray, List.set_cons_zero, List.set_cons_succ]
            refine wpAnyH_take (i := 18) (oi := ⟨some 4, .assign (.tmp 133), _, _, _, _⟩) (v := ?vH15) rfl (by kernel_rfl) (by kernel_rfl) (by kernel_rfl) (fun _ _ _ h => h) (Or.inl ⟨by rfl, ?hyH15⟩) (by assumption) ?restH15
            case hyH15 => (intro w hSw; (try dsimp only at hSw); go_simp; try (with_reducible rfl))
            try simp only [Act.put, List.setIfInBounds_toArray, List.set_cons_zero, List.set_cons_succ]
            refine wpAnyH_done (by kernel_rfl) ?_ _
            go_wp2_with fail
            go_ret
            exact ⟨congrArg (fun x => Ending.returned (.string x)) HF.out, HB0.out.trans ((And.right (And.right (And.right (And.right (And.right (And.right (And.right (And.right (And.right (And.right (And.right (And.right (And.right (And.right (And.right (And.right hHeld)))))))))))))))).mono HB0.out.size)⟩
          exact AllReadyH.nil
        exact AllReadyH.nil
      refine AllReadyH.cons (o := ⟨some 127, .call { callee := .value (.func 19), args := #[(.tmp 126)], argTypes := #[3] }, _, _, _, _⟩) rfl (fun K hK => ?_) ?_
      · go_simp
        refine calls_at (HCv.out _) (by with_reducible rfl) (by with_reducible rfl) ?_
        rintro e w51 ⟨rfl, hb11⟩
        have oc := (opw_kept' hb11).1
        go_wp2_with fail
        refine hK.out _ _ (HSc.out _ ((And.right (And.right (And.right (And.right (And.right (And.right (And.right (And.right (And.right (And.right (And.right (And.right (And.right (And.right (And.right (And.right hHeld)))))))))))))))).trans (hb11.mono (And.right (And.right (And.right (And.right (And.right (And.right (And.right (And.right (And.right (And.right (And.right (And.right (And.right (And.right (And.right (And.right hHeld)))))))))))))))).size))) (fun hHeld => ?_)
        clear hK K
        try simp only [Act.put, List.setIfInBounds_toArray, List.set_cons_zero, List.set_cons_succ]
        refine wpAnyH_ready (rs := [4, 16]) (by kernel_rfl) (by simp) ?_
        refine AllReadyH.cons (o := ⟨some 120, .load 9 (.tmp 119), _, _, _, _⟩) rfl (fun K hK => ?_) ?_
        · go_simp
          refine hK.out _ _ hHeld (fun hHeld => ?_)
          clear hK K
          try simp only [Act.put, List.setIfInBounds_toArray, List.set_cons_zero, List.set_cons_succ]
          refine wpAnyH_take (i := 5) (oi := ⟨some 121, .binOp .add 9 ((.const (.string ⟨#[99, 111, 117, 110, 116, 32]⟩))) (.tmp 120) 9, _, _, _, _⟩) (v := ?vH16) rfl (by kernel_rfl) (by kernel_rfl) (by kernel_rfl) (fun _ _ _ h => h) (Or.inl ⟨by rfl, ?hyH16⟩) (by assumption) ?restH16
          case hyH16 => (intro w hSw; (try dsimp only at hSw); go_simp; try (with_reducible rfl))
          try simp only [Act.put, List.setIfInBounds_toArray, List.set_cons_zero, List.set_cons_succ]
          refine wpAnyH_take (i := 7) (oi := ⟨some 123, .binOp .add 9 (.tmp 121) (.tmp 122) 9, _, _, _, _⟩) (v := ?vH17) rfl (by kernel_rfl) (by kernel_rfl) (by kernel_rfl) (fun _ _ _ h => h) (Or.inl ⟨by rfl, ?hyH17⟩) (by assumption) ?restH17
          case hyH17 => (intro w hSw; (try dsimp only at hSw); go_simp; try (with_reducible rfl))
          try simp only [Act.put, List.setIfInBounds_toArray, List.set_cons_zero, List.set_cons_succ]
          refine wpAnyH_take (i := 8) (oi := ⟨some 124, .binOp .add 9 (.tmp 123) ((.const (.string ⟨#[32]⟩))) 9, _, _, _, _⟩) (v := ?vH18) rfl (by kernel_rfl) (by kernel_rfl) (by kernel_rfl) (fun _ _ _ h => h) (Or.inl ⟨by rfl, ?hyH18⟩) (by assumption) ?restH18
          case hyH18 => (intro w hSw; (try dsimp only at hSw); go_simp; try (with_reducible rfl))
          try simp only [Act.put, List.setIfInBounds_toArray, List.set_cons_zero, List.set_cons_succ]
          refine wpAnyH_take (i := 12) (oi := ⟨some 128, .binOp .add 9 (.tmp 124) (.tmp 127) 9, _, _, _, _⟩) (v := ?vH19) rfl (by kernel_rfl) (by kernel_rfl) (by kernel_rfl) (fun _ _ _ h => h) (Or.inl ⟨by rfl, ?hyH19⟩) (by assumption) ?restH19
          case hyH19 => (intro w hSw; (try dsimp only at hSw); go_simp; try (with_reducible rfl))
          try simp only [Act.put, List.setIfInBounds_toArray, List.set_cons_zero, List.set_cons_succ]
          refine wpAnyH_ready (rs := [16]) (by kernel_rfl) (by simp) ?_
          refine AllReadyH.cons (o := ⟨some 132, .call { callee := .value (.func 50), args := #[(.tmp 129), (.tmp 131)], argTypes := #[26, 33] }, _, _, _, _⟩) rfl (fun K hK => ?_) ?_
          · go_simp
            refine calls_at (HCn.out _ (And.right (And.right (And.right (And.right (And.right (And.right (And.right (And.right (And.right (And.right (And.right (And.right (And.right (And.right (And.right (And.right hHeld))))))))))))))))) (by with_reducible rfl) (by with_reducible rfl) ?_
            rintro e w56 ⟨rfl, hb16⟩
            go_wp2_with fail
            refine hK.out _ _ (HSc.out _ ((And.right (And.right (And.right (And.right (And.right (And.right (And.right (And.right (And.right (And.right (And.right (And.right (And.right (And.right (And.right (And.right hHeld)))))))))))))))).trans (hb16.mono (And.right (And.right (And.right (And.right (And.right (And.right (And.right (And.right (And.right (And.right (And.right (And.right (And.right (And.right (And.right (And.right hHeld)))))))))))))))).size))) (fun hHeld => ?_)
            clear hK K
            try simp only [Act.put, List.setIfInBounds_toArray, List.set_cons_zero, List.set_cons_succ]
            refine wpAnyH_take (i := 17) (oi := ⟨some 133, .binOp .add 9 (.tmp 128) (.tmp 132) 9, _, _, _, _⟩) (v := ?vH20) rfl (by kernel_rfl) (by kernel_rfl) (by kernel_rfl) (fun _ _ _ h => h) (Or.inl ⟨by rfl, ?hyH20⟩) (by assumption) ?restH20
            case hyH20 => (intro w hSw; (try dsimp only at hSw); go_simp; try (with_reducible rfl))
            try simp only [Act.put, List.setIfInBounds_toArray, List.set_cons_zero, List.set_cons_succ]
            refine wpAnyH_take (i := 18) (oi := ⟨some 4, .assign (.tmp 133), _, _, _, _⟩) (v := ?vH21) rfl (by kernel_rfl) (by kernel_rfl) (by kernel_rfl) (fun _ _ _ h => h) (Or.inl ⟨by rfl, ?hyH21⟩) (by assumption) ?restH21
            case hyH21 => (intro w hSw; (try dsimp only at hSw); go_simp; try (with_reducible rfl))
            try simp only [Act.put, List.setIfInBounds_toArray, List.set_cons_zero, List.set_cons_succ]
            refine wpAnyH_done (by kernel_rfl) ?_ _
            go_wp2_with fail
            go_ret
            exact ⟨congrArg (fun x => Ending.returned (.string x)) HF.out, HB0.out.trans ((And.right (And.right (And.right (And.right (And.right (And.right (And.right (And.right (And.right (And.right (And.right (And.right (And.right (And.right (And.right (And.right hHeld)))))))))))))))).mono HB0.out.size)⟩
          exact AllReadyH.nil
        refine AllReadyH.cons (o := ⟨some 132, .call { callee := .value (.func 50), args := #[(.tmp 129), (.tmp 131)], argTypes := #[26, 33] }, _, _, _, _⟩) rfl (fun K hK => ?_) ?_
        · go_simp
          refine calls_at (HCn.out _ (And.right (And.right (And.right (And.right (And.right (And.right (And.right (And.right (And.right (And.right (And.right (And.right (And.right (And.right (And.right (And.right hHeld))))))))))))))))) (by with_reducible rfl) (by with_reducible rfl) ?_
          rintro e w56 ⟨rfl, hb16⟩
          have oc := one_next hb16 oc
          go_wp2_with fail
          refine hK.out _ _ (HSc.out _ ((And.right (And.right (And.right (And.right (And.right (And.right (And.right (And.right (And.right (And.right (And.right (And.right (And.right (And.right (And.right (And.right hHeld)))))))))))))))).trans (hb16.mono (And.right (And.right (And.right (And.right (And.right (And.right (And.right (And.right (And.right (And.right (And.right (And.right (And.right (And.right (And.right (And.right hHeld)))))))))))))))).size))) (fun hHeld => ?_)
          clear hK K
          try simp only [Act.put, List.setIfInBounds_toArray, List.set_cons_zero, List.set_cons_succ]
          refine wpAnyH_ready (rs := [4]) (by kernel_rfl) (by simp) ?_
          refine AllReadyH.cons (o := ⟨some 120, .load 9 (.tmp 119), _, _, _, _⟩) rfl (fun K hK => ?_) ?_
          · go_simp
            refine hK.out _ _ hHeld (fun hHeld => ?_)
            clear hK K
            try simp only [Act.put, List.setIfInBounds_toArray, List.set_cons_zero, List.set_cons_succ]
            refine wpAnyH_take (i := 5) (oi := ⟨some 121, .binOp .add 9 ((.const (.string ⟨#[99, 111, 117, 110, 116, 32]⟩))) (.tmp 120) 9, _, _, _, _⟩) (v := ?vH22) rfl (by kernel_rfl) (by kernel_rfl) (by kernel_rfl) (fun _ _ _ h => h) (Or.inl ⟨by rfl, ?hyH22⟩) (by assumption) ?restH22
            case hyH22 => (intro w hSw; (try dsimp only at hSw); go_simp; try (with_reducible rfl))
            try simp only [Act.put, List.setIfInBounds_toArray, List.set_cons_zero, List.set_cons_succ]
            refine wpAnyH_take (i := 7) (oi := ⟨some 123, .binOp .add 9 (.tmp 121) (.tmp 122) 9, _, _, _, _⟩) (v := ?vH23) rfl (by kernel_rfl) (by kernel_rfl) (by kernel_rfl) (fun _ _ _ h => h) (Or.inl ⟨by rfl, ?hyH23⟩) (by assumption) ?restH23
            case hyH23 => (intro w hSw; (try dsimp only at hSw); go_simp; try (with_reducible rfl))
            try simp only [Act.put, List.setIfInBounds_toArray, List.set_cons_zero, List.set_cons_succ]
            refine wpAnyH_take (i := 8) (oi := ⟨some 124, .binOp .add 9 (.tmp 123) ((.const (.string ⟨#[32]⟩))) 9, _, _, _, _⟩) (v := ?vH24) rfl (by kernel_rfl) (by kernel_rfl) (by kernel_rfl) (fun _ _ _ h => h) (Or.inl ⟨by rfl, ?hyH24⟩) (by assumption) ?restH24
            case hyH24 => (intro w hSw; (try dsimp only at hSw); go_simp; try (with_reducible rfl))
            try simp only [Act.put, List.setIfInBounds_toArray, List.set_cons_zero, List.set_cons_succ]
            refine wpAnyH_take (i := 12) (oi := ⟨some 128, .binOp .add 9 (.tmp 124) (.tmp 127) 9, _, _, _, _⟩) (v := ?vH25) rfl (by kernel_rfl) (by kernel_rfl) (by kernel_rfl) (fun _ _ _ h => h) (Or.inl ⟨by rfl, ?hyH25⟩) (by assumption) ?restH25
            case hyH25 => (intro w hSw; (try dsimp only at hSw); go_simp; try (with_reducible rfl))
            try simp only [Act.put, List.setIfInBounds_toArray, List.set_cons_zero, List.set_cons_succ]
            refine wpAnyH_take (i := 17) (oi := ⟨some 133, .binOp .add 9 (.tmp 128) (.tmp 132) 9, _, _, _, _⟩) (v := ?vH26) rfl (by kernel_rfl) (by kernel_rfl) (by kernel_rfl) (fun _ _ _ h => h) (Or.inl ⟨by rfl, ?hyH26⟩) (by assumption) ?restH26
            case hyH26 => (intro w hSw; (try dsimp only at hSw); go_simp; try (with_reducible rfl))
            try simp only [Act.put, List.setIfInBounds_toArray, List.set_cons_zero, List.set_cons_succ]
            refine wpAnyH_take (i := 18) (oi := ⟨some 4, .assign (.tmp 133), _, _, _, _⟩) (v := ?vH27) rfl (by kernel_rfl) (by kernel_rfl) (by kernel_rfl) (fun _ _ _ h => h) (Or.inl ⟨by rfl, ?hyH27⟩) (by assumption) ?restH27
            case hyH27 => (intro w hSw; (try dsimp only at hSw); go_simp; try (with_reducible rfl))
            try simp only [Act.put, List.setIfInBounds_toArray, List.set_cons_zero, List.set_cons_succ]
            refine wpAnyH_done (by kernel_rfl) ?_ _
            go_wp2_with fail
            go_ret
            exact ⟨congrArg (fun x => Ending.returned (.string x)) HF.out, HB0.out.trans ((And.right (And.right (And.right (And.right (And.right (And.right (And.right (And.right (And.right (And.right (And.right (And.right (And.right (And.right (And.right (And.right hHeld)))))))))))))))).mono HB0.out.size)⟩
          exact AllReadyH.nil
        exact AllReadyH.nil
      exact AllReadyH.nil
    refine AllReadyH.cons (o := ⟨some 127, .call { callee := .value (.func 19), args := #[(.tmp 126)], argTypes := #[3] }, _, _, _, _⟩) rfl (fun K hK => ?_) ?_
    · go_simp
      refine calls_at (HCv.out _) (by with_reducible rfl) (by with_reducible rfl) ?_
      rintro e w51 ⟨rfl, hb11⟩
      go_wp2_with fail
      refine hK.out _ _ (HSc.out _ ((And.right (And.right (And.right (And.right (And.right (And.right (And.right (And.right (And.right (And.right (And.right (And.right (And.right (And.right (And.right (And.right hHeld)))))))))))))))).trans (hb11.mono (And.right (And.right (And.right (And.right (And.right (And.right (And.right (And.right (And.right (And.right (And.right (And.right (And.right (And.right (And.right (And.right hHeld)))))))))))))))).size))) (fun hHeld => ?_)
      clear hK K
      try simp only [Act.put, List.setIfInBounds_toArray, List.set_cons_zero, List.set_cons_succ]
      refine wpAnyH_ready (rs := [0, 16]) (by kernel_rfl) (by simp) ?_
      refine AllReadyH.cons (o := ⟨some 116, .buildSlice 97 4 #[(0, (.const (.string ⟨#[]⟩))), (1, (.const (.string ⟨#[60, 61]⟩))), (2, (.const (.string ⟨#[61]⟩))), (3, (.const (.string ⟨#[62, 61]⟩)))], _, _, _, _⟩) rfl (fun K hK => ?_) ?_
      · go_simp
        refine hK.out _ _ (HSc.out _ ((And.right (And.right (And.right (And.right (And.right (And.right (And.right (And.right (And.right (And.right (And.right (And.right (And.right (And.right (And.right (And.right hHeld)))))))))))))))).alloc (And.right (And.right (And.right (And.right (And.right (And.right (And.right (And.right (And.right (And.right (And.right (And.right (And.right (And.right (And.right (And.right hHeld)))))))))))))))).size _)) (fun hHeld => ?_)
        clear hK K
        try simp only [Act.put, List.setIfInBounds_toArray, List.set_cons_zero, List.set_cons_succ]
        refine wpAnyH_take (i := 3) (oi := ⟨some 119, .indexAddr 97 (.tmp 116) (.tmp 118), _, _, _, _⟩) (v := ?vH28) rfl (by kernel_rfl) (by kernel_rfl) (by kernel_rfl) (fun _ _ _ h => h) (Or.inl ⟨by rfl, ?hyH28⟩) (by assumption) ?restH28
        case hyH28 => (intro w hSw; (try dsimp only at hSw); go_simp; try (with_reducible rfl))
        try simp only [Act.put, List.setIfInBounds_toArray, List.set_cons_zero, List.set_cons_succ]
        refine wpAnyH_ready (rs := [4, 16]) (by kernel_rfl) (by simp) ?_
        refine AllReadyH.cons (o := ⟨some 120, .load 9 (.tmp 119), _, _, _, _⟩) rfl (fun K hK => ?_) ?_
        · go_simp
          refine hK.out _ _ hHeld (fun hHeld => ?_)
          clear hK K
          try simp only [Act.put, List.setIfInBounds_toArray, List.set_cons_zero, List.set_cons_succ]
          refine wpAnyH_take (i := 5) (oi := ⟨some 121, .binOp .add 9 ((.const (.string ⟨#[99, 111, 117, 110, 116, 32]⟩))) (.tmp 120) 9, _, _, _, _⟩) (v := ?vH29) rfl (by kernel_rfl) (by kernel_rfl) (by kernel_rfl) (fun _ _ _ h => h) (Or.inl ⟨by rfl, ?hyH29⟩) (by assumption) ?restH29
          case hyH29 => (intro w hSw; (try dsimp only at hSw); go_simp; try (with_reducible rfl))
          try simp only [Act.put, List.setIfInBounds_toArray, List.set_cons_zero, List.set_cons_succ]
          refine wpAnyH_take (i := 7) (oi := ⟨some 123, .binOp .add 9 (.tmp 121) (.tmp 122) 9, _, _, _, _⟩) (v := ?vH30) rfl (by kernel_rfl) (by kernel_rfl) (by kernel_rfl) (fun _ _ _ h => h) (Or.inl ⟨by rfl, ?hyH30⟩) (by assumption) ?restH30
          case hyH30 => (intro w hSw; (try dsimp only at hSw); go_simp; try (with_reducible rfl))
          try simp only [Act.put, List.setIfInBounds_toArray, List.set_cons_zero, List.set_cons_succ]
          refine wpAnyH_take (i := 8) (oi := ⟨some 124, .binOp .add 9 (.tmp 123) ((.const (.string ⟨#[32]⟩))) 9, _, _, _, _⟩) (v := ?vH31) rfl (by kernel_rfl) (by kernel_rfl) (by kernel_rfl) (fun _ _ _ h => h) (Or.inl ⟨by rfl, ?hyH31⟩) (by assumption) ?restH31
          case hyH31 => (intro w hSw; (try dsimp only at hSw); go_simp; try (with_reducible rfl))
          try simp only [Act.put, List.setIfInBounds_toArray, List.set_cons_zero, List.set_cons_succ]
          refine wpAnyH_take (i := 12) (oi := ⟨some 128, .binOp .add 9 (.tmp 124) (.tmp 127) 9, _, _, _, _⟩) (v := ?vH32) rfl (by kernel_rfl) (by kernel_rfl) (by kernel_rfl) (fun _ _ _ h => h) (Or.inl ⟨by rfl, ?hyH32⟩) (by assumption) ?restH32
          case hyH32 => (intro w hSw; (try dsimp only at hSw); go_simp; try (with_reducible rfl))
          try simp only [Act.put, List.setIfInBounds_toArray, List.set_cons_zero, List.set_cons_succ]
          refine wpAnyH_ready (rs := [16]) (by kernel_rfl) (by simp) ?_
          refine AllReadyH.cons (o := ⟨some 132, .call { callee := .value (.func 50), args := #[(.tmp 129), (.tmp 131)], argTypes := #[26, 33] }, _, _, _, _⟩) rfl (fun K hK => ?_) ?_
          · go_simp
            refine calls_at (HCn.out _ (And.right (And.right (And.right (And.right (And.right (And.right (And.right (And.right (And.right (And.right (And.right (And.right (And.right (And.right (And.right (And.right hHeld))))))))))))))))) (by with_reducible rfl) (by with_reducible rfl) ?_
            rintro e w56 ⟨rfl, hb16⟩
            go_wp2_with fail
            refine hK.out _ _ (HSc.out _ ((And.right (And.right (And.right (And.right (And.right (And.right (And.right (And.right (And.right (And.right (And.right (And.right (And.right (And.right (And.right (And.right hHeld)))))))))))))))).trans (hb16.mono (And.right (And.right (And.right (And.right (And.right (And.right (And.right (And.right (And.right (And.right (And.right (And.right (And.right (And.right (And.right (And.right hHeld)))))))))))))))).size))) (fun hHeld => ?_)
            clear hK K
            try simp only [Act.put, List.setIfInBounds_toArray, List.set_cons_zero, List.set_cons_succ]
            refine wpAnyH_take (i := 17) (oi := ⟨some 133, .binOp .add 9 (.tmp 128) (.tmp 132) 9, _, _, _, _⟩) (v := ?vH33) rfl (by kernel_rfl) (by kernel_rfl) (by kernel_rfl) (fun _ _ _ h => h) (Or.inl ⟨by rfl, ?hyH33⟩) (by assumption) ?restH33
            case hyH33 => (intro w hSw; (try dsimp only at hSw); go_simp; try (with_reducible rfl))
            try simp only [Act.put, List.setIfInBounds_toArray, List.set_cons_zero, List.set_cons_succ]
            refine wpAnyH_take (i := 18) (oi := ⟨some 4, .assign (.tmp 133), _, _, _, _⟩) (v := ?vH34) rfl (by kernel_rfl) (by kernel_rfl) (by kernel_rfl) (fun _ _ _ h => h) (Or.inl ⟨by rfl, ?hyH34⟩) (by assumption) ?restH34
            case hyH34 => (intro w hSw; (try dsimp only at hSw); go_simp; try (with_reducible rfl))
            try simp only [Act.put, List.setIfInBounds_toArray, List.set_cons_zero, List.set_cons_succ]
            refine wpAnyH_done (by kernel_rfl) ?_ _
            go_wp2_with fail
            go_ret
            exact ⟨congrArg (fun x => Ending.returned (.string x)) HF.out, HB0.out.trans ((And.right (And.right (And.right (And.right (And.right (And.right (And.right (And.right (And.right (And.right (And.right (And.right (And.right (And.right (And.right (And.right hHeld)))))))))))))))).mono HB0.out.size)⟩
          exact AllReadyH.nil
        refine AllReadyH.cons (o := ⟨some 132, .call { callee := .value (.func 50), args := #[(.tmp 129), (.tmp 131)], argTypes := #[26, 33] }, _, _, _, _⟩) rfl (fun K hK => ?_) ?_
        · go_simp
          refine calls_at (HCn.out _ (And.right (And.right (And.right (And.right (And.right (And.right (And.right (And.right (And.right (And.right (And.right (And.right (And.right (And.right (And.right (And.right hHeld))))))))))))))))) (by with_reducible rfl) (by with_reducible rfl) ?_
          rintro e w56 ⟨rfl, hb16⟩
          have oc := (opw_kept hb16).1
          go_wp2_with fail
          refine hK.out _ _ (HSc.out _ ((And.right (And.right (And.right (And.right (And.right (And.right (And.right (And.right (And.right (And.right (And.right (And.right (And.right (And.right (And.right (And.right hHeld)))))))))))))))).trans (hb16.mono (And.right (And.right (And.right (And.right (And.right (And.right (And.right (And.right (And.right (And.right (And.right (And.right (And.right (And.right (And.right (And.right hHeld)))))))))))))))).size))) (fun hHeld => ?_)
          clear hK K
          try simp only [Act.put, List.setIfInBounds_toArray, List.set_cons_zero, List.set_cons_succ]
          refine wpAnyH_ready (rs := [4]) (by kernel_rfl) (by simp) ?_
          refine AllReadyH.cons (o := ⟨some 120, .load 9 (.tmp 119), _, _, _, _⟩) rfl (fun K hK => ?_) ?_
          · go_simp
            refine hK.out _ _ hHeld (fun hHeld => ?_)
            clear hK K
            try simp only [Act.put, List.setIfInBounds_toArray, List.set_cons_zero, List.set_cons_succ]
            refine wpAnyH_take (i := 5) (oi := ⟨some 121, .binOp .add 9 ((.const (.string ⟨#[99, 111, 117, 110, 116, 32]⟩))) (.tmp 120) 9, _, _, _, _⟩) (v := ?vH35) rfl (by kernel_rfl) (by kernel_rfl) (by kernel_rfl) (fun _ _ _ h => h) (Or.inl ⟨by rfl, ?hyH35⟩) (by assumption) ?restH35
            case hyH35 => (intro w hSw; (try dsimp only at hSw); go_simp; try (with_reducible rfl))
            try simp only [Act.put, List.setIfInBounds_toArray, List.set_cons_zero, List.set_cons_succ]
            refine wpAnyH_take (i := 7) (oi := ⟨some 123, .binOp .add 9 (.tmp 121) (.tmp 122) 9, _, _, _, _⟩) (v := ?vH36) rfl (by kernel_rfl) (by kernel_rfl) (by kernel_rfl) (fun _ _ _ h => h) (Or.inl ⟨by rfl, ?hyH36⟩) (by assumption) ?restH36
            case hyH36 => (intro w hSw; (try dsimp only at hSw); go_simp; try (with_reducible rfl))
            try simp only [Act.put, List.setIfInBounds_toArray, List.set_cons_zero, List.set_cons_succ]
            refine wpAnyH_take (i := 8) (oi := ⟨some 124, .binOp .add 9 (.tmp 123) ((.const (.string ⟨#[32]⟩))) 9, _, _, _, _⟩) (v := ?vH37) rfl (by kernel_rfl) (by kernel_rfl) (by kernel_rfl) (fun _ _ _ h => h) (Or.inl ⟨by rfl, ?hyH37⟩) (by assumption) ?restH37
            case hyH37 => (intro w hSw; (try dsimp only at hSw); go_simp; try (with_reducible rfl))
            try simp only [Act.put, List.setIfInBounds_toArray, List.set_cons_zero, List.set_cons_succ]
            refine wpAnyH_take (i := 12) (oi := ⟨some 128, .binOp .add 9 (.tmp 124) (.tmp 127) 9, _, _, _, _⟩) (v := ?vH38) rfl (by kernel_rfl) (by kernel_rfl) (by kernel_rfl) (fun _ _ _ h => h) (Or.inl ⟨by rfl, ?hyH38⟩) (by assumption) ?restH38
            case hyH38 => (intro w hSw; (try dsimp only at hSw); go_simp; try (with_reducible rfl))
            try simp only [Act.put, List.setIfInBounds_toArray, List.set_cons_zero, List.set_cons_succ]
            refine wpAnyH_take (i := 17) (oi := ⟨some 133, .binOp .add 9 (.tmp 128) (.tmp 132) 9, _, _, _, _⟩) (v := ?vH39) rfl (by kernel_rfl) (by kernel_rfl) (by kernel_rfl) (fun _ _ _ h => h) (Or.inl ⟨by rfl, ?hyH39⟩) (by assumption) ?restH39
            case hyH39 => (intro w hSw; (try dsimp only at hSw); go_simp; try (with_reducible rfl))
            try simp only [Act.put, List.setIfInBounds_toArray, List.set_cons_zero, List.set_cons_succ]
            refine wpAnyH_take (i := 18) (oi := ⟨some 4, .assign (.tmp 133), _, _, _, _⟩) (v := ?vH40) rfl (by kernel_rfl) (by kernel_rfl) (by kernel_rfl) (fun _ _ _ h => h) (Or.inl ⟨by rfl, ?hyH40⟩) (by assumption) ?restH40
            case hyH40 => (intro w hSw; (try dsimp only at hSw); go_simp; try (with_reducible rfl))
            try simp only [Act.put, List.setIfInBounds_toArray, List.set_cons_zero, List.set_cons_succ]
            refine wpAnyH_done (by kernel_rfl) ?_ _
            go_wp2_with fail
            go_ret
            exact ⟨congrArg (fun x => Ending.returned (.string x)) HF.out, HB0.out.trans ((And.right (And.right (And.right (And.right (And.right (And.right (And.right (And.right (And.right (And.right (And.right (And.right (And.right (And.right (And.right (And.right hHeld)))))))))))))))).mono HB0.out.size)⟩
          exact AllReadyH.nil
        exact AllReadyH.nil
      refine AllReadyH.cons (o := ⟨some 132, .call { callee := .value (.func 50), args := #[(.tmp 129), (.tmp 131)], argTypes := #[26, 33] }, _, _, _, _⟩) rfl (fun K hK => ?_) ?_
      · go_simp
        refine calls_at (HCn.out _ (And.right (And.right (And.right (And.right (And.right (And.right (And.right (And.right (And.right (And.right (And.right (And.right (And.right (And.right (And.right (And.right hHeld))))))))))))))))) (by with_reducible rfl) (by with_reducible rfl) ?_
        rintro e w56 ⟨rfl, hb16⟩
        go_wp2_with fail
        refine hK.out _ _ (HSc.out _ ((And.right (And.right (And.right (And.right (And.right (And.right (And.right (And.right (And.right (And.right (And.right (And.right (And.right (And.right (And.right (And.right hHeld)))))))))))))))).trans (hb16.mono (And.right (And.right (And.right (And.right (And.right (And.right (And.right (And.right (And.right (And.right (And.right (And.right (And.right (And.right (And.right (And.right hHeld)))))))))))))))).size))) (fun hHeld => ?_)
        clear hK K
        try simp only [Act.put, List.setIfInBounds_toArray, List.set_cons_zero, List.set_cons_succ]
        refine wpAnyH_ready (rs := [0]) (by kernel_rfl) (by simp) ?_
        refine AllReadyH.cons (o := ⟨some 116, .buildSlice 97 4 #[(0, (.const (.string ⟨#[]⟩))), (1, (.const (.string ⟨#[60, 61]⟩))), (2, (.const (.string ⟨#[61]⟩))), (3, (.const (.string ⟨#[62, 61]⟩)))], _, _, _, _⟩) rfl (fun K hK => ?_) ?_
        · go_simp
          refine hK.out _ _ (HSc.out _ ((And.right (And.right (And.right (And.right (And.right (And.right (And.right (And.right (And.right (And.right (And.right (And.right (And.right (And.right (And.right (And.right hHeld)))))))))))))))).alloc (And.right (And.right (And.right (And.right (And.right (And.right (And.right (And.right (And.right (And.right (And.right (And.right (And.right (And.right (And.right (And.right hHeld)))))))))))))))).size _)) (fun hHeld => ?_)
          clear hK K
          try simp only [Act.put, List.setIfInBounds_toArray, List.set_cons_zero, List.set_cons_succ]
          refine wpAnyH_take (i := 3) (oi := ⟨some 119, .indexAddr 97 (.tmp 116) (.tmp 118), _, _, _, _⟩) (v := ?vH41) rfl (by kernel_rfl) (by kernel_rfl) (by kernel_rfl) (fun _ _ _ h => h) (Or.inl ⟨by rfl, ?hyH41⟩) (by assumption) ?restH41
          case hyH41 => (intro w hSw; (try dsimp only at hSw); go_simp; try (with_reducible rfl))
          try simp only [Act.put, List.setIfInBounds_toArray, List.set_cons_zero, List.set_cons_succ]
          refine wpAnyH_ready (rs := [4]) (by kernel_rfl) (by simp) ?_
          refine AllReadyH.cons (o := ⟨some 120, .load 9 (.tmp 119), _, _, _, _⟩) rfl (fun K hK => ?_) ?_
          · go_simp
            refine hK.out _ _ hHeld (fun hHeld => ?_)
            clear hK K
            try simp only [Act.put, List.setIfInBounds_toArray, List.set_cons_zero, List.set_cons_succ]
            refine wpAnyH_take (i := 5) (oi := ⟨some 121, .binOp .add 9 ((.const (.string ⟨#[99, 111, 117, 110, 116, 32]⟩))) (.tmp 120) 9, _, _, _, _⟩) (v := ?vH42) rfl (by kernel_rfl) (by kernel_rfl) (by kernel_rfl) (fun _ _ _ h => h) (Or.inl ⟨by rfl, ?hyH42⟩) (by assumption) ?restH42
            case hyH42 => (intro w hSw; (try dsimp only at hSw); go_simp; try (with_reducible rfl))
            try simp only [Act.put, List.setIfInBounds_toArray, List.set_cons_zero, List.set_cons_succ]
            refine wpAnyH_take (i := 7) (oi := ⟨some 123, .binOp .add 9 (.tmp 121) (.tmp 122) 9, _, _, _, _⟩) (v := ?vH43) rfl (by kernel_rfl) (by kernel_rfl) (by kernel_rfl) (fun _ _ _ h => h) (Or.inl ⟨by rfl, ?hyH43⟩) (by assumption) ?restH43
            case hyH43 => (intro w hSw; (try dsimp only at hSw); go_simp; try (with_reducible rfl))
            try simp only [Act.put, List.setIfInBounds_toArray, List.set_cons_zero, List.set_cons_succ]
            refine wpAnyH_take (i := 8) (oi := ⟨some 124, .binOp .add 9 (.tmp 123) ((.const (.string ⟨#[32]⟩))) 9, _, _, _, _⟩) (v := ?vH44) rfl (by kernel_rfl) (by kernel_rfl) (by kernel_rfl) (fun _ _ _ h => h) (Or.inl ⟨by rfl, ?hyH44⟩) (by assumption) ?restH44
            case hyH44 => (intro w hSw; (try dsimp only at hSw); go_simp; try (with_reducible rfl))
            try simp only [Act.put, List.setIfInBounds_toArray, List.set_cons_zero, List.set_cons_succ]
            refine wpAnyH_take (i := 12) (oi := ⟨some 128, .binOp .add 9 (.tmp 124) (.tmp 127) 9, _, _, _, _⟩) (v := ?vH45) rfl (by kernel_rfl) (by kernel_rfl) (by kernel_rfl) (fun _ _ _ h => h) (Or.inl ⟨by rfl, ?hyH45⟩) (by assumption) ?restH45
            case hyH45 => (intro w hSw; (try dsimp only at hSw); go_simp; try (with_reducible rfl))
            try simp only [Act.put, List.setIfInBounds_toArray, List.set_cons_zero, List.set_cons_succ]
            refine wpAnyH_take (i := 17) (oi := ⟨some 133, .binOp .add 9 (.tmp 128) (.tmp 132) 9, _, _, _, _⟩) (v := ?vH46) rfl (by kernel_rfl) (by kernel_rfl) (by kernel_rfl) (fun _ _ _ h => h) (Or.inl ⟨by rfl, ?hyH46⟩) (by assumption) ?restH46
            case hyH46 => (intro w hSw; (try dsimp only at hSw); go_simp; try (with_reducible rfl))
            try simp only [Act.put, List.setIfInBounds_toArray, List.set_cons_zero, List.set_cons_succ]
            refine wpAnyH_take (i := 18) (oi := ⟨some 4, .assign (.tmp 133), _, _, _, _⟩) (v := ?vH47) rfl (by kernel_rfl) (by kernel_rfl) (by kernel_rfl) (fun _ _ _ h => h) (Or.inl ⟨by rfl, ?hyH47⟩) (by assumption) ?restH47
            case hyH47 => (intro w hSw; (try dsimp only at hSw); go_simp; try (with_reducible rfl))
            try simp only [Act.put, List.setIfInBounds_toArray, List.set_cons_zero, List.set_cons_succ]
            refine wpAnyH_done (by kernel_rfl) ?_ _
            go_wp2_with fail
            go_ret
            exact ⟨congrArg (fun x => Ending.returned (.string x)) HF.out, HB0.out.trans ((And.right (And.right (And.right (And.right (And.right (And.right (And.right (And.right (And.right (And.right (And.right (And.right (And.right (And.right (And.right (And.right hHeld)))))))))))))))).mono HB0.out.size)⟩
          exact AllReadyH.nil
        exact AllReadyH.nil
      exact AllReadyH.nil
    exact AllReadyH.nil

set_option maxHeartbeats 4000000 in
set_option maxRecDepth 100000 in
theorem doc_9b (vars : List Md.Vr) (vv vc vg : Value) (hb : Bool) (vt : Value) (k v x y : Int) (vx vb vr : Value) (w : World) (hV : VarsAt w vv vars) (hn : ∀ v ∈ vars, v.name.data.toList.length ≤ 16) (hx : 0 ≤ x ∧ x < (vars.length : Int)) (hy : 0 ≤ y ∧ y < (vars.length : Int)) (hk : -1000000000 ≤ k ∧ k ≤ 1000000000) (hv : -1000000000 ≤ v ∧ v ≤ 1000000000) {xs : List Int} (hxs : IntsAt w vx xs) (hxn : ∀ x ∈ xs, 0 ≤ x ∧ x < (vars.length : Int)) (hxl : xs.length ≤ 64) :
    Calls Tryz.prog 20 #[.agg #[vv, vc, .bool hb, vg], .agg #[.int .i64 9, .int .i64 2, vt, .int .i64 k, .int .i64 v, .int .i64 x, .int .i64 y, vx, vb, vr]] w fun e w' => e = .returned (.string ⟨((⟨#[99, 111, 117, 110, 116, 32]⟩ : ByteArray).data.toList ++ (⟨#[61]⟩ : ByteArray).data.toList ++ (32 :: itoa k) ++ (32 :: itoa v) ++ Md.namesT vars xs).toArray⟩) ∧ Below w.heap.size w w' := by
  have _ := hv
  obtain ⟨ya, ycap, rfl, hym⟩ := hV.form
  obtain ⟨xa, xc, rfl, _⟩ := hxs.form
  unfold maxLen at hym
  obtain ⟨W, hW⟩ : ∃ W, (w.alloc (.cells #[.slice ya vars.length ycap, vc, .bool hb, vg] 26)).alloc (.cells #[.int .i64 9, .int .i64 2, vt, .int .i64 k, .int .i64 v, .int .i64 x, .int .i64 y, .slice xa xs.length xc, vb, vr] 64) = W := ⟨_, rfl⟩
  have HB0 : Hid (Below w.heap.size w W) := (two_boxes hW).1
  have HOm : Hid (W.heap[w.heap.size]? = some (.cells #[.slice ya vars.length ycap, vc, .bool hb, vg] 26 (0, 0))) := (two_boxes hW).2.1
  have HOc : Hid (W.heap[w.heap.size + 1]? = some (.cells #[.int .i64 9, .int .i64 2, vt, .int .i64 k, .int .i64 v, .int .i64 x, .int .i64 y, .slice xa xs.length xc, vb, vr] 64 (0, 0))) := (two_boxes hW).2.2
  obtain ⟨jx, hjx, rfl, hnx⟩ := nm_get hx.1 hx.2
  obtain ⟨jy, hjy, rfl, hny⟩ := nm_get hy.1 hy.2
  obtain ⟨_, _, hvv, _, _, hyc⟩ := id hV
  injection hvv with e1 _ e3
  subst e3
  subst e1
  obtain ⟨gv, ov, rfl, hgv, hvc⟩ := hyc (by omega)
  obtain ⟨NX, hNX⟩ : ∃ NX, NX = vars[jx].name := ⟨_, rfl⟩
  obtain ⟨NY, hNY⟩ : ∃ NY, NY = vars[jy].name := ⟨_, rfl⟩
  have HSc : Hid (∀ w', Below W.heap.size W w' → w'.cell? ⟨w.heap.size, 0, none⟩ = some (.slice (some ⟨gv, ov, none⟩) vars.length ycap) ∧ w'.cell? ⟨w.heap.size, 1, none⟩ = some vc ∧ w'.cell? ⟨w.heap.size, 2, none⟩ = some (.bool hb) ∧ w'.cell? ⟨w.heap.size, 3, none⟩ = some vg ∧ w'.cell? ⟨w.heap.size + 1, 0, none⟩ = some (.int .i64 9) ∧ w'.cell? ⟨w.heap.size + 1, 1, none⟩ = some (.int .i64 2) ∧ w'.cell? ⟨w.heap.size + 1, 2, none⟩ = some (vt) ∧ w'.cell? ⟨w.heap.size + 1, 3, none⟩ = some (.int .i64 k) ∧ w'.cell? ⟨w.heap.size + 1, 4, none⟩ = some (.int .i64 v) ∧ w'.cell? ⟨w.heap.size + 1, 5, none⟩ = some (.int .i64 (jx : Int)) ∧ w'.cell? ⟨w.heap.size + 1, 6, none⟩ = some (.int .i64 (jy : Int)) ∧ w'.cell? ⟨w.heap.size + 1, 7, none⟩ = some (.slice xa xs.length xc) ∧ w'.cell? ⟨w.heap.size + 1, 8, none⟩ = some (vb) ∧ w'.cell? ⟨w.heap.size + 1, 9, none⟩ = some (vr) ∧ w'.cell? ⟨gv, ov + jx * 3, none⟩ = some (.string NX) ∧ w'.cell? ⟨gv, ov + jy * 3, none⟩ = some (.string NY) ∧ Below W.heap.size W w') := fun w' hbw => by
    have hw : Below w.heap.size w w' := HB0.out.trans (hbw.mono HB0.out.size)
    have h1 : w'.heap[w.heap.size]? = some (.cells #[.slice (some ⟨gv, ov, none⟩) vars.length ycap, vc, .bool hb, vg] 26) := (hbw.block w.heap.size (Array.getElem?_eq_some_iff.1 HOm.out).1).trans HOm.out
    have h2 : w'.heap[w.heap.size + 1]? = some (.cells #[.int .i64 9, .int .i64 2, vt, .int .i64 k, .int .i64 v, .int .i64 (jx : Int), .int .i64 (jy : Int), .slice xa xs.length xc, vb, vr] 64) := (hbw.block _ (Array.getElem?_eq_some_iff.1 HOc.out).1).trans HOc.out
    refine ⟨?_, ?_, ?_, ?_, ?_, ?_, ?_, ?_, ?_, ?_, ?_, ?_, ?_, ?_, ?_, ?_, hbw⟩
    · rw [Lib.cell_of_heap h1]; rfl
    · rw [Lib.cell_of_heap h1]; rfl
    · rw [Lib.cell_of_heap h1]; rfl
    · rw [Lib.cell_of_heap h1]; rfl
    · rw [Lib.cell_of_heap h2]; rfl
    · rw [Lib.cell_of_heap h2]; rfl
    · rw [Lib.cell_of_heap h2]; rfl
    · rw [Lib.cell_of_heap h2]; rfl
    · rw [Lib.cell_of_heap h2]; rfl
    · rw [Lib.cell_of_heap h2]; rfl
    · rw [Lib.cell_of_heap h2]; rfl
    · rw [Lib.cell_of_heap h2]; rfl
    · rw [Lib.cell_of_heap h2]; rfl
    · rw [Lib.cell_of_heap h2]; rfl
    · rw [hNX]; exact (hw.cell (p := ⟨gv, ov + jx * 3, none⟩) hgv).trans (hvc jx hjx).1
    · rw [hNY]; exact (hw.cell (p := ⟨gv, ov + jy * 3, none⟩) hgv).trans (hvc jy hjy).1
  have zx : NX.size ≤ 16 := by rw [hNX, size_toList]; exact hn _ (List.getElem_mem hjx)
  have zy : NY.size ≤ 16 := by rw [hNY, size_toList]; exact hn _ (List.getElem_mem hjy)
  have HNX : Hid (NX.data.toList = Md.nm vars (jx : Int)) := by rw [hNX]; exact hnx.symm
  have HNY : Hid (NY.data.toList = Md.nm vars (jy : Int)) := by rw [hNY]; exact hny.symm
  have hjxI : (jx : Int) < (vars.length : Int) := by omega
  have hjyI : (jy : Int) < (vars.length : Int) := by omega
  obtain ⟨DK, hDK⟩ : ∃ DK : ByteArray, DK = ⟨(itoa k).toArray⟩ := ⟨_, rfl⟩
  have zk : DK.size ≤ 21 := by rw [hDK, size_mk]; exact Md.itoa_len hk
  have HDK : Hid (DK.data.toList = itoa k) := by rw [hDK]; show _ = _; simp
  have HCk : Hid (∀ w', Calls Tryz.prog 19 #[.int .i64 k] w' fun e w'' => e = .returned (.string DK) ∧ Below w'.heap.size w' w'') := fun w' => by rw [hDK]; exact digits_any k w' hk
  obtain ⟨DV, hDV⟩ : ∃ DV : ByteArray, DV = ⟨(itoa v).toArray⟩ := ⟨_, rfl⟩
  have zv : DV.size ≤ 21 := by rw [hDV, size_mk]; exact Md.itoa_len hv
  have HDV : Hid (DV.data.toList = itoa v) := by rw [hDV]; show _ = _; simp
  have HCv : Hid (∀ w', Calls Tryz.prog 19 #[.int .i64 v] w' fun e w'' => e = .returned (.string DV) ∧ Below w'.heap.size w' w'') := fun w' => by rw [hDV]; exact digits_any v w' hv
  obtain ⟨NS, hNS⟩ : ∃ NS : ByteArray, NS = ⟨(Md.namesT vars xs).toArray⟩ := ⟨_, rfl⟩
  have zn : NS.size ≤ 1408 := by rw [hNS, size_mk]; have := namesT_len hn hxn; omega
  have HNS : Hid (NS.data.toList = Md.namesT vars xs) := by rw [hNS]; show _ = _; simp
  have HCn : Hid (∀ w', Below W.heap.size W w' → Calls Tryz.prog 50 #[.agg #[.slice (some ⟨gv, ov, none⟩) vars.length ycap, vc, .bool hb, vg], .slice xa xs.length xc] w' fun e w'' => e = .returned (.string NS) ∧ Below w'.heap.size w' w'') := fun w' hbw => by rw [hNS]; exact tqNames_any vars _ vc vg hb _ xs w' (hV.below (HB0.out.trans (hbw.mono HB0.out.size))) hn (hxs.below (HB0.out.trans (hbw.mono HB0.out.size))) hxn hxl
  obtain ⟨sx, hsx⟩ : ∃ s : ByteArray, s = (⟨#[32]⟩ : ByteArray) ++ NX := ⟨_, rfl⟩
  have zsx : sx.size ≤ 24 := by rw [hsx, ByteArray.size_append]; have q0 : (⟨#[32]⟩ : ByteArray).size ≤ 8 := (by decide); omega
  have asx := add_str hsx (by have q0 : (⟨#[32]⟩ : ByteArray).size ≤ 8 := (by decide); omega)
  obtain ⟨sy, hsy⟩ : ∃ s : ByteArray, s = (⟨#[32]⟩ : ByteArray) ++ NY := ⟨_, rfl⟩
  have zsy : sy.size ≤ 24 := by rw [hsy, ByteArray.size_append]; have q0 : (⟨#[32]⟩ : ByteArray).size ≤ 8 := (by decide); omega
  have asy := add_str hsy (by have q0 : (⟨#[32]⟩ : ByteArray).size ≤ 8 := (by decide); omega)
  obtain ⟨sk, hsk⟩ : ∃ s : ByteArray, s = (⟨#[32]⟩ : ByteArray) ++ DK := ⟨_, rfl⟩
  have zsk : sk.size ≤ 29 := by rw [hsk, ByteArray.size_append]; have q0 : (⟨#[32]⟩ : ByteArray).size ≤ 8 := (by decide); omega
  have ask := add_str hsk (by have q0 : (⟨#[32]⟩ : ByteArray).size ≤ 8 := (by decide); omega)
  obtain ⟨p1, hp1⟩ : ∃ s : ByteArray, s = (⟨#[99, 111, 117, 110, 116, 32]⟩ : ByteArray) ++ (⟨#[61]⟩ : ByteArray) := ⟨_, rfl⟩
  have zp1 : p1.size ≤ 16 := by rw [hp1, ByteArray.size_append]; have q0 : (⟨#[99, 111, 117, 110, 116, 32]⟩ : ByteArray).size ≤ 8 := (by decide); have q1 : (⟨#[61]⟩ : ByteArray).size ≤ 8 := (by decide); omega
  have ap1 := add_str hp1 (by have q0 : (⟨#[99, 111, 117, 110, 116, 32]⟩ : ByteArray).size ≤ 8 := (by decide); have q1 : (⟨#[61]⟩ : ByteArray).size ≤ 8 := (by decide); omega)
  obtain ⟨p2, hp2⟩ : ∃ s : ByteArray, s = p1 ++ sk := ⟨_, rfl⟩
  have zp2 : p2.size ≤ 45 := by rw [hp2, ByteArray.size_append]; omega
  have ap2 := add_str hp2 (by omega)
  obtain ⟨p3, hp3⟩ : ∃ s : ByteArray, s = p2 ++ (⟨#[32]⟩ : ByteArray) := ⟨_, rfl⟩
  have zp3 : p3.size ≤ 53 := by rw [hp3, ByteArray.size_append]; have q0 : (⟨#[32]⟩ : ByteArray).size ≤ 8 := (by decide); omega
  have ap3 := add_str hp3 (by have q0 : (⟨#[32]⟩ : ByteArray).size ≤ 8 := (by decide); omega)
  obtain ⟨p4, hp4⟩ : ∃ s : ByteArray, s = p3 ++ DV := ⟨_, rfl⟩
  have zp4 : p4.size ≤ 74 := by rw [hp4, ByteArray.size_append]; omega
  have ap4 := add_str hp4 (by omega)
  obtain ⟨R, hR⟩ : ∃ s : ByteArray, s = p4 ++ NS := ⟨_, rfl⟩
  have zR : R.size ≤ 1482 := by rw [hR, ByteArray.size_append]; omega
  have aR := add_str hR (by omega)
  have HE : Hid (R.data.toList = (⟨#[99, 111, 117, 110, 116, 32]⟩ : ByteArray).data.toList ++ (⟨#[61]⟩ : ByteArray).data.toList ++ (32 :: itoa k) ++ (32 :: itoa v) ++ Md.namesT vars xs) := by
    show _ = _
    rw [hR, hp4, hp3, hp2, hp1, hsk]
    simp [HDK.out, HDV.out, HNS.out]
  have HF : Hid (R = ⟨((⟨#[99, 111, 117, 110, 116, 32]⟩ : ByteArray).data.toList ++ (⟨#[61]⟩ : ByteArray).data.toList ++ (32 :: itoa k) ++ (32 :: itoa v) ++ Md.namesT vars xs).toArray⟩) := mk_toList R HE.out
  clear hx hy hk hv hn hV hvc hnx hny hNX hNY hDK hDV hNS hxs hxn hxl hsx hsy hsk hp1 hp2 hp3 hp4 hR  HOm HOc
  go_enter Tryz.func20, Tryz.ntmps20
  go_wp2_with fail
  try rw [hW]
  clear hW
  go_cut [5, 6, 7] from 10 to 29 (fun xv yv kv wx => xv = .string sx ∧ yv = .string sy ∧ kv = .string sk ∧ Hid (Below W.heap.size W wx))
  case first =>
    go_region_held3 (fun w' => w'.cell? ⟨w.heap.size, 0, none⟩ = some (.slice (some ⟨gv, ov, none⟩) vars.length ycap) ∧ w'.cell? ⟨w.heap.size, 1, none⟩ = some vc ∧ w'.cell? ⟨w.heap.size, 2, none⟩ = some (.bool hb) ∧ w'.cell? ⟨w.heap.size, 3, none⟩ = some vg ∧ w'.cell? ⟨w.heap.size + 1, 0, none⟩ = some (.int .i64 9) ∧ w'.cell? ⟨w.heap.size + 1, 1, none⟩ = some (.int .i64 2) ∧ w'.cell? ⟨w.heap.size + 1, 2, none⟩ = some (vt) ∧ w'.cell? ⟨w.heap.size + 1, 3, none⟩ = some (.int .i64 k) ∧ w'.cell? ⟨w.heap.size + 1, 4, none⟩ = some (.int .i64 v) ∧ w'.cell? ⟨w.heap.size + 1, 5, none⟩ = some (.int .i64 (jx : Int)) ∧ w'.cell? ⟨w.heap.size + 1, 6, none⟩ = some (.int .i64 (jy : Int)) ∧ w'.cell? ⟨w.heap.size + 1, 7, none⟩ = some (.slice xa xs.length xc) ∧ w'.cell? ⟨w.heap.size + 1, 8, none⟩ = some (vb) ∧ w'.cell? ⟨w.heap.size + 1, 9, none⟩ = some (vr) ∧ w'.cell? ⟨gv, ov + jx * 3, none⟩ = some (.string NX) ∧ w'.cell? ⟨gv, ov + jy * 3, none⟩ = some (.string NY) ∧ Below W.heap.size W w')
      (first | exact HSc.out _ (Below.refl _ _).drew | exact HSc.out _ ((Below.refl _ _).drew.trans hb2) | assumption)
      (first | (go_at_call 19; refine calls_at (HCk.out _) (by with_reducible rfl) (by with_reducible rfl) ?_; rintro e w2 ⟨rfl, hb2⟩))
    all_goals
      have HB2 : Hid (Below W.heap.size W w2) := And.right (And.right (And.right (And.right (And.right (And.right (And.right (And.right (And.right (And.right (And.right (And.right (And.right (And.right (And.right (And.right (by assumption))))))))))))))))
      go_wp2_with fail
      go_meet
      case rel => exact ⟨rfl, rfl, rfl, HB2⟩
  case rest =>
    obtain ⟨rfl, rfl, rfl, hBc⟩ := hcut
    rename World => wq
    obtain ⟨m0, m1, m2, m3, c0, c1, c2, c3, c4, c5, c6, c7, c8, c9, nx, ny, _⟩ := HSc.out wq hBc.out
    clear m0 m1 m2 m3 c1 c2 c3 c4 c5 c6 c7 c8 c9 nx ny
    go_wp2_with fail
    refine wp_region_held_drew (S := fun w' => w'.cell? ⟨w.heap.size, 0, none⟩ = some (.slice (some ⟨gv, ov, none⟩) vars.length ycap) ∧ w'.cell? ⟨w.heap.size, 1, none⟩ = some vc ∧ w'.cell? ⟨w.heap.size, 2, none⟩ = some (.bool hb) ∧ w'.cell? ⟨w.heap.size, 3, none⟩ = some vg ∧ w'.cell? ⟨w.heap.size + 1, 0, none⟩ = some (.int .i64 9) ∧ w'.cell? ⟨w.heap.size + 1, 1, none⟩ = some (.int .i64 2) ∧ w'.cell? ⟨w.heap.size + 1, 2, none⟩ = some (vt) ∧ w'.cell? ⟨w.heap.size + 1, 3, none⟩ = some (.int .i64 k) ∧ w'.cell? ⟨w.heap.size + 1, 4, none⟩ = some (.int .i64 v) ∧ w'.cell? ⟨w.heap.size + 1, 5, none⟩ = some (.int .i64 (jx : Int)) ∧ w'.cell? ⟨w.heap.size + 1, 6, none⟩ = some (.int .i64 (jy : Int)) ∧ w'.cell? ⟨w.heap.size + 1, 7, none⟩ = some (.slice xa xs.length xc) ∧ w'.cell? ⟨w.heap.size + 1, 8, none⟩ = some (vb) ∧ w'.cell? ⟨w.heap.size + 1, 9, none⟩ = some (vr) ∧ w'.cell? ⟨gv, ov + jx * 3, none⟩ = some (.string NX) ∧ w'.cell? ⟨gv, ov + jy * 3, none⟩ = some (.string NY) ∧ Below W.heap.size W w') (by kernel_rfl) (HSc.out _ hBc.out.drew) (fun hHeld => ?_)
    refine wpAnyH_take (i := 1) (oi := ⟨some 117, .fieldAddr 64 (.tmp 3) 1, _, _, _, _⟩) (v := ?vH48) rfl (by kernel_rfl) (by kernel_rfl) (by kernel_rfl) (fun _ _ _ h => h) (Or.inl ⟨by rfl, ?hyH48⟩) (by assumption) ?restH48
    case hyH48 => (intro w hSw; (try dsimp only at hSw); go_simp; try (with_reducible rfl))
    try simp only [Act.put, List.setIfInBounds_toArray, List.set_cons_zero, List.set_cons_succ]
    refine wpAnyH_take (i := 2) (oi := ⟨some 118, .load 3 (.tmp 117), _, _, _, _⟩) (v := ?vH49) rfl (by kernel_rfl) (by kernel_rfl) (by kernel_rfl) (fun _ _ _ h => h) (Or.inl ⟨by rfl, ?hyH49⟩) (by assumption) ?restH49
    case hyH49 => (intro w hSw; (try dsimp only at hSw); go_simp; try (with_reducible rfl))
    try simp only [Act.put, List.setIfInBounds_toArray, List.set_cons_zero, List.set_cons_succ]
    refine wpAnyH_take (i := 6) (oi := ⟨some 122, .move (.tmp 7), _, _, _, _⟩) (v := ?vH50) rfl (by kernel_rfl) (by kernel_rfl) (by kernel_rfl) (fun _ _ _ h => h) (Or.inl ⟨by rfl, ?hyH50⟩) (by assumption) ?restH50
    case hyH50 => (intro w hSw; (try dsimp only at hSw); go_simp; try (with_reducible rfl))
    try simp only [Act.put, List.setIfInBounds_toArray, List.set_cons_zero, List.set_cons_succ]
    refine wpAnyH_take (i := 9) (oi := ⟨some 125, .fieldAddr 64 (.tmp 3) 4, _, _, _, _⟩) (v := ?vH51) rfl (by kernel_rfl) (by kernel_rfl) (by kernel_rfl) (fun _ _ _ h => h) (Or.inl ⟨by rfl, ?hyH51⟩) (by assumption) ?restH51
    case hyH51 => (intro w hSw; (try dsimp only at hSw); go_simp; try (with_reducible rfl))
    try simp only [Act.put, List.setIfInBounds_toArray, List.set_cons_zero, List.set_cons_succ]
    refine wpAnyH_take (i := 10) (oi := ⟨some 126, .load 3 (.tmp 125), _, _, _, _⟩) (v := ?vH52) rfl (by kernel_rfl) (by kernel_rfl) (by kernel_rfl) (fun _ _ _ h => h) (Or.inl ⟨by rfl, ?hyH52⟩) (by assumption) ?restH52
    case hyH52 => (intro w hSw; (try dsimp only at hSw); go_simp; try (with_reducible rfl))
    try simp only [Act.put, List.setIfInBounds_toArray, List.set_cons_zero, List.set_cons_succ]
    refine wpAnyH_take (i := 13) (oi := ⟨some 129, .load 26 (.tmp 2), _, _, _, _⟩) (v := ?vH53) rfl (by kernel_rfl) (by kernel_rfl) (by kernel_rfl) (fun _ _ _ h => h) (Or.inl ⟨by rfl, ?hyH53⟩) (by assumption) ?restH53
    case hyH53 => (intro w hSw; (try dsimp only at hSw); go_simp; try (with_reducible rfl))
    try simp only [Act.put, List.setIfInBounds_toArray, List.set_cons_zero, List.set_cons_succ]
    refine wpAnyH_take (i := 14) (oi := ⟨some 130, .fieldAddr 64 (.tmp 3) 7, _, _, _, _⟩) (v := ?vH54) rfl (by kernel_rfl) (by kernel_rfl) (by kernel_rfl) (fun _ _ _ h => h) (Or.inl ⟨by rfl, ?hyH54⟩) (by assumption) ?restH54
    case hyH54 => (intro w hSw; (try dsimp only at hSw); go_simp; try (with_reducible rfl))
    try simp only [Act.put, List.setIfInBounds_toArray, List.set_cons_zero, List.set_cons_succ]
    refine wpAnyH_take (i := 15) (oi := ⟨some 131, .load 33 (.tmp 130), _, _, _, _⟩) (v := ?vH55) rfl (by kernel_rfl) (by kernel_rfl) (by kernel_rfl) (fun _ _ _ h => h) (Or.inl ⟨by rfl, ?hyH55⟩) (by assumption) ?restH55
    case hyH55 => (intro w hSw; (try dsimp only at hSw); go_simp; try (with_reducible rfl))
    try simp only [Act.put, List.setIfInBounds_toArray, List.set_cons_zero, List.set_cons_succ]
    refine wpAnyH_ready (rs := [0, 11]) (by kernel_rfl) (by simp) ?_
    refine AllReadyH.cons (o := ⟨some 116, .buildSlice 97 4 #[(0, (.const (.string ⟨#[]⟩))), (1, (.const (.string ⟨#[60, 61]⟩))), (2, (.const (.string ⟨#[61]⟩))), (3, (.const (.string ⟨#[62, 61]⟩)))], _, _, _, _⟩) rfl (fun K hK => ?_) ?_
    · go_simp
      refine hK.out _ _ (HSc.out _ ((And.right (And.right (And.right (And.right (And.right (And.right (And.right (And.right (And.right (And.right (And.right (And.right (And.right (And.right (And.right (And.right hHeld)))))))))))))))).alloc (And.right (And.right (And.right (And.right (And.right (And.right (And.right (And.right (And.right (And.right (And.right (And.right (And.right (And.right (And.right (And.right hHeld)))))))))))))))).size _)) (fun hHeld => ?_)
      clear hK K
      try simp only [Act.put, List.setIfInBounds_toArray, List.set_cons_zero, List.set_cons_succ]
      refine wpAnyH_take (i := 3) (oi := ⟨some 119, .indexAddr 97 (.tmp 116) (.tmp 118), _, _, _, _⟩) (v := ?vH56) rfl (by kernel_rfl) (by kernel_rfl) (by kernel_rfl) (fun _ _ _ h => h) (Or.inl ⟨by rfl, ?hyH56⟩) (by assumption) ?restH56
      case hyH56 => (intro w hSw; (try dsimp only at hSw); go_simp; try (with_reducible rfl))
      try simp only [Act.put, List.setIfInBounds_toArray, List.set_cons_zero, List.set_cons_succ]
      refine wpAnyH_ready (rs := [4, 11]) (by kernel_rfl) (by simp) ?_
      refine AllReadyH.cons (o := ⟨some 120, .load 9 (.tmp 119), _, _, _, _⟩) rfl (fun K hK => ?_) ?_
      · go_simp
        refine hK.out _ _ hHeld (fun hHeld => ?_)
        clear hK K
        try simp only [Act.put, List.setIfInBounds_toArray, List.set_cons_zero, List.set_cons_succ]
        refine wpAnyH_take (i := 5) (oi := ⟨some 121, .binOp .add 9 ((.const (.string ⟨#[99, 111, 117, 110, 116, 32]⟩))) (.tmp 120) 9, _, _, _, _⟩) (v := ?vH57) rfl (by kernel_rfl) (by kernel_rfl) (by kernel_rfl) (fun _ _ _ h => h) (Or.inl ⟨by rfl, ?hyH57⟩) (by assumption) ?restH57
        case hyH57 => (intro w hSw; (try dsimp only at hSw); go_simp; try (with_reducible rfl))
        try simp only [Act.put, List.setIfInBounds_toArray, List.set_cons_zero, List.set_cons_succ]
        refine wpAnyH_take (i := 7) (oi := ⟨some 123, .binOp .add 9 (.tmp 121) (.tmp 122) 9, _, _, _, _⟩) (v := ?vH58) rfl (by kernel_rfl) (by kernel_rfl) (by kernel_rfl) (fun _ _ _ h => h) (Or.inl ⟨by rfl, ?hyH58⟩) (by assumption) ?restH58
        case hyH58 => (intro w hSw; (try dsimp only at hSw); go_simp; try (with_reducible rfl))
        try simp only [Act.put, List.setIfInBounds_toArray, List.set_cons_zero, List.set_cons_succ]
        refine wpAnyH_take (i := 8) (oi := ⟨some 124, .binOp .add 9 (.tmp 123) ((.const (.string ⟨#[32]⟩))) 9, _, _, _, _⟩) (v := ?vH59) rfl (by kernel_rfl) (by kernel_rfl) (by kernel_rfl) (fun _ _ _ h => h) (Or.inl ⟨by rfl, ?hyH59⟩) (by assumption) ?restH59
        case hyH59 => (intro w hSw; (try dsimp only at hSw); go_simp; try (with_reducible rfl))
        try simp only [Act.put, List.setIfInBounds_toArray, List.set_cons_zero, List.set_cons_succ]
        refine wpAnyH_ready (rs := [11]) (by kernel_rfl) (by simp) ?_
        refine AllReadyH.cons (o := ⟨some 127, .call { callee := .value (.func 19), args := #[(.tmp 126)], argTypes := #[3] }, _, _, _, _⟩) rfl (fun K hK => ?_) ?_
        · go_simp
          refine calls_at (HCv.out _) (by with_reducible rfl) (by with_reducible rfl) ?_
          rintro e w51 ⟨rfl, hb11⟩
          go_wp2_with fail
          refine hK.out _ _ (HSc.out _ ((And.right (And.right (And.right (And.right (And.right (And.right (And.right (And.right (And.right (And.right (And.right (And.right (And.right (And.right (And.right (And.right hHeld)))))))))))))))).trans (hb11.mono (And.right (And.right (And.right (And.right (And.right (And.right (And.right (And.right (And.right (And.right (And.right (And.right (And.right (And.right (And.right (And.right hHeld)))))))))))))))).size))) (fun hHeld => ?_)
          clear hK K
          try simp only [Act.put, List.setIfInBounds_toArray, List.set_cons_zero, List.set_cons_succ]
          refine wpAnyH_take (i := 12) (oi := ⟨some 128, .binOp .add 9 (.tmp 124) (.tmp 127) 9, _, _, _, _⟩) (v := ?vH60) rfl (by kernel_rfl) (by kernel_rfl) (by kernel_rfl) (fun _ _ _ h => h) (Or.inl ⟨by rfl, ?hyH60⟩) (by assumption) ?restH60
          case hyH60 => (intro w hSw; (try dsimp only at hSw); go_simp; try (with_reducible rfl))
          try simp only [Act.put, List.setIfInBounds_toArray, List.set_cons_zero, List.set_cons_succ]
          refine wpAnyH_ready (rs := [16]) (by kernel_rfl) (by simp) ?_
          refine AllReadyH.cons (o := ⟨some 132, .call { callee := .value (.func 50), args := #[(.tmp 129), (.tmp 131)], argTypes := #[26, 33] }, _, _, _, _⟩) rfl (fun K hK => ?_) ?_
          · go_simp
            refine calls_at (HCn.out _ (And.right (And.right (And.right (And.right (And.right (And.right (And.right (And.right (And.right (And.right (And.right (And.right (And.right (And.right (And.right (And.right hHeld))))))))))))))))) (by with_reducible rfl) (by with_reducible rfl) ?_
            rintro e w56 ⟨rfl, hb16⟩
            go_wp2_with fail
            refine hK.out _ _ (HSc.out _ ((And.right (And.right (And.right (And.right (And.right (And.right (And.right (And.right (And.right (And.right (And.right (And.right (And.right (And.right (And.right (And.right hHeld)))))))))))))))).trans (hb16.mono (And.right (And.right (And.right (And.right (And.right (And.right (And.right (And.right (And.right (And.right (And.right (And.right (And.right (And.right (And.right (And.right hHeld)))))))))))))))).size))) (fun hHeld => ?_)
            clear hK K
            try simp only [Act.put, List.setIfInBounds_toArray, List.set_cons_zero, List.set_cons_succ]
            refine wpAnyH_take (i := 17) (oi := ⟨some 133, .binOp .add 9 (.tmp 128) (.tmp 132) 9, _, _, _, _⟩) (v := ?vH61) rfl (by kernel_rfl) (by kernel_rfl) (by kernel_rfl) (fun _ _ _ h => h) (Or.inl ⟨by rfl, ?hyH61⟩) (by assumption) ?restH61
            case hyH61 => (intro w hSw; (try dsimp only at hSw); go_simp; try (with_reducible rfl))
            try simp only [Act.put, List.setIfInBounds_toArray, List.set_cons_zero, List.set_cons_succ]
            refine wpAnyH_take (i := 18) (oi := ⟨some 4, .assign (.tmp 133), _, _, _, _⟩) (v := ?vH62) rfl (by kernel_rfl) (by kernel_rfl) (by kernel_rfl) (fun _ _ _ h => h) (Or.inl ⟨by rfl, ?hyH62⟩) (by assumption) ?restH62
            case hyH62 => (intro w hSw; (try dsimp only at hSw); go_simp; try (with_reducible rfl))
            try simp only [Act.put, List.setIfInBounds_toArray, List.set_cons_zero, List.set_cons_succ]
            refine wpAnyH_done (by kernel_rfl) ?_ _
            go_wp2_with fail
            go_ret
            exact ⟨congrArg (fun x => Ending.returned (.string x)) HF.out, HB0.out.trans ((And.right (And.right (And.right (And.right (And.right (And.right (And.right (And.right (And.right (And.right (And.right (And.right (And.right (And.right (And.right (And.right hHeld)))))))))))))))).mono HB0.out.size)⟩
          exact AllReadyH.nil
        exact AllReadyH.nil
      refine AllReadyH.cons (o := ⟨some 127, .call { callee := .value (.func 19), args := #[(.tmp 126)], argTypes := #[3] }, _, _, _, _⟩) rfl (fun K hK => ?_) ?_
      · go_simp
        refine calls_at (HCv.out _) (by with_reducible rfl) (by with_reducible rfl) ?_
        rintro e w51 ⟨rfl, hb11⟩
        have oc := (opw_kept' hb11).2.1
        go_wp2_with fail
        refine hK.out _ _ (HSc.out _ ((And.right (And.right (And.right (And.right (And.right (And.right (And.right (And.right (And.right (And.right (And.right (And.right (And.right (And.right (And.right (And.right hHeld)))))))))))))))).trans (hb11.mono (And.right (And.right (And.right (And.right (And.right (And.right (And.right (And.right (And.right (And.right (And.right (And.right (And.right (And.right (And.right (And.right hHeld)))))))))))))))).size))) (fun hHeld => ?_)
        clear hK K
        try simp only [Act.put, List.setIfInBounds_toArray, List.set_cons_zero, List.set_cons_succ]
        refine wpAnyH_ready (rs := [4, 16]) (by kernel_rfl) (by simp) ?_
        refine AllReadyH.cons (o := ⟨some 120, .load 9 (.tmp 119), _, _, _, _⟩) rfl (fun K hK => ?_) ?_
        · go_simp
          refine hK.out _ _ hHeld (fun hHeld => ?_)
          clear hK K
          try simp only [Act.put, List.setIfInBounds_toArray, List.set_cons_zero, List.set_cons_succ]
          refine wpAnyH_take (i := 5) (oi := ⟨some 121, .binOp .add 9 ((.const (.string ⟨#[99, 111, 117, 110, 116, 32]⟩))) (.tmp 120) 9, _, _, _, _⟩) (v := ?vH63) rfl (by kernel_rfl) (by kernel_rfl) (by kernel_rfl) (fun _ _ _ h => h) (Or.inl ⟨by rfl, ?hyH63⟩) (by assumption) ?restH63
          case hyH63 => (intro w hSw; (try dsimp only at hSw); go_simp; try (with_reducible rfl))
          try simp only [Act.put, List.setIfInBounds_toArray, List.set_cons_zero, List.set_cons_succ]
          refine wpAnyH_take (i := 7) (oi := ⟨some 123, .binOp .add 9 (.tmp 121) (.tmp 122) 9, _, _, _, _⟩) (v := ?vH64) rfl (by kernel_rfl) (by kernel_rfl) (by kernel_rfl) (fun _ _ _ h => h) (Or.inl ⟨by rfl, ?hyH64⟩) (by assumption) ?restH64
          case hyH64 => (intro w hSw; (try dsimp only at hSw); go_simp; try (with_reducible rfl))
          try simp only [Act.put, List.setIfInBounds_toArray, List.set_cons_zero, List.set_cons_succ]
          refine wpAnyH_take (i := 8) (oi := ⟨some 124, .binOp .add 9 (.tmp 123) ((.const (.string ⟨#[32]⟩))) 9, _, _, _, _⟩) (v := ?vH65) rfl (by kernel_rfl) (by kernel_rfl) (by kernel_rfl) (fun _ _ _ h => h) (Or.inl ⟨by rfl, ?hyH65⟩) (by assumption) ?restH65
          case hyH65 => (intro w hSw; (try dsimp only at hSw); go_simp; try (with_reducible rfl))
          try simp only [Act.put, List.setIfInBounds_toArray, List.set_cons_zero, List.set_cons_succ]
          refine wpAnyH_take (i := 12) (oi := ⟨some 128, .binOp .add 9 (.tmp 124) (.tmp 127) 9, _, _, _, _⟩) (v := ?vH66) rfl (by kernel_rfl) (by kernel_rfl) (by kernel_rfl) (fun _ _ _ h => h) (Or.inl ⟨by rfl, ?hyH66⟩) (by assumption) ?restH66
          case hyH66 => (intro w hSw; (try dsimp only at hSw); go_simp; try (with_reducible rfl))
          try simp only [Act.put, List.setIfInBounds_toArray, List.set_cons_zero, List.set_cons_succ]
          refine wpAnyH_ready (rs := [16]) (by kernel_rfl) (by simp) ?_
          refine AllReadyH.cons (o := ⟨some 132, .call { callee := .value (.func 50), args := #[(.tmp 129), (.tmp 131)], argTypes := #[26, 33] }, _, _, _, _⟩) rfl (fun K hK => ?_) ?_
          · go_simp
            refine calls_at (HCn.out _ (And.right (And.right (And.right (And.right (And.right (And.right (And.right (And.right (And.right (And.right (And.right (And.right (And.right (And.right (And.right (And.right hHeld))))))))))))))))) (by with_reducible rfl) (by with_reducible rfl) ?_
            rintro e w56 ⟨rfl, hb16⟩
            go_wp2_with fail
            refine hK.out _ _ (HSc.out _ ((And.right (And.right (And.right (And.right (And.right (And.right (And.right (And.right (And.right (And.right (And.right (And.right (And.right (And.right (And.right (And.right hHeld)))))))))))))))).trans (hb16.mono (And.right (And.right (And.right (And.right (And.right (And.right (And.right (And.right (And.right (And.right (And.right (And.right (And.right (And.right (And.right (And.right hHeld)))))))))))))))).size))) (fun hHeld => ?_)
            clear hK K
            try simp only [Act.put, List.setIfInBounds_toArray, List.set_cons_zero, List.set_cons_succ]
            refine wpAnyH_take (i := 17) (oi := ⟨some 133, .binOp .add 9 (.tmp 128) (.tmp 132) 9, _, _, _, _⟩) (v := ?vH67) rfl (by kernel_rfl) (by kernel_rfl) (by kernel_rfl) (fun _ _ _ h => h) (Or.inl ⟨by rfl, ?hyH67⟩) (by assumption) ?restH67
            case hyH67 => (intro w hSw; (try dsimp only at hSw); go_simp; try (with_reducible rfl))
            try simp only [Act.put, List.setIfInBounds_toArray, List.set_cons_zero, List.set_cons_succ]
            refine wpAnyH_take (i := 18) (oi := ⟨some 4, .assign (.tmp 133), _, _, _, _⟩) (v := ?vH68) rfl (by kernel_rfl) (by kernel_rfl) (by kernel_rfl) (fun _ _ _ h => h) (Or.inl ⟨by rfl, ?hyH68⟩) (by assumption) ?restH68
            case hyH68 => (intro w hSw; (try dsimp only at hSw); go_simp; try (with_reducible rfl))
            try simp only [Act.put, List.setIfInBounds_toArray, List.set_cons_zero, List.set_cons_succ]
            refine wpAnyH_done (by kernel_rfl) ?_ _
            go_wp2_with fail
            go_ret
            exact ⟨congrArg (fun x => Ending.returned (.string x)) HF.out, HB0.out.trans ((And.right (And.right (And.right (And.right (And.right (And.right (And.right (And.right (And.right (And.right (And.right (And.right (And.right (And.right (And.right (And.right hHeld)))))))))))))))).mono HB0.out.size)⟩
          exact AllReadyH.nil
        refine AllReadyH.cons (o := ⟨some 132, .call { callee := .value (.func 50), args := #[(.tmp 129), (.tmp 131)], argTypes := #[26, 33] }, _, _, _, _⟩) rfl (fun K hK => ?_) ?_
        · go_simp
          refine calls_at (HCn.out _ (And.right (And.right (And.right (And.right (And.right (And.right (And.right (And.right (And.right (And.right (And.right (And.right (And.right (And.right (And.right (And.right hHeld))))))))))))))))) (by with_reducible rfl) (by with_reducible rfl) ?_
          rintro e w56 ⟨rfl, hb16⟩
          have oc := one_next hb16 oc
          go_wp2_with fail
          refine hK.out _ _ (HSc.out _ ((And.right (And.right (And.right (And.right (And.right (And.right (And.right (And.right (And.right (And.right (And.right (And.right (And.right (And.right (And.right (And.right hHeld)))))))))))))))).trans (hb16.mono (And.right (And.right (And.right (And.right (And.right (And.right (And.right (And.right (And.right (And.right (And.right (And.right (And.right (And.right (And.right (And.right hHeld)))))))))))))))).size))) (fun hHeld => ?_)
          clear hK K
          try simp only [Act.put, List.setIfInBounds_toArray, List.set_cons_zero, List.set_cons_succ]
          refine wpAnyH_ready (rs := [4]) (by kernel_rfl) (by simp) ?_
          refine AllReadyH.cons (o := ⟨some 120, .load 9 (.tmp 119), _, _, _, _⟩) rfl (fun K hK => ?_) ?_
          · go_simp
            refine hK.out _ _ hHeld (fun hHeld => ?_)
            clear hK K
            try simp only [Act.put, List.setIfInBounds_toArray, List.set_cons_zero, List.set_cons_succ]
            refine wpAnyH_take (i := 5) (oi := ⟨some 121, .binOp .add 9 ((.const (.string ⟨#[99, 111, 117, 110, 116, 32]⟩))) (.tmp 120) 9, _, _, _, _⟩) (v := ?vH69) rfl (by kernel_rfl) (by kernel_rfl) (by kernel_rfl) (fun _ _ _ h => h) (Or.inl ⟨by rfl, ?hyH69⟩) (by assumption) ?restH69
            case hyH69 => (intro w hSw; (try dsimp only at hSw); go_simp; try (with_reducible rfl))
            try simp only [Act.put, List.setIfInBounds_toArray, List.set_cons_zero, List.set_cons_succ]
            refine wpAnyH_take (i := 7) (oi := ⟨some 123, .binOp .add 9 (.tmp 121) (.tmp 122) 9, _, _, _, _⟩) (v := ?vH70) rfl (by kernel_rfl) (by kernel_rfl) (by kernel_rfl) (fun _ _ _ h => h) (Or.inl ⟨by rfl, ?hyH70⟩) (by assumption) ?restH70
            case hyH70 => (intro w hSw; (try dsimp only at hSw); go_simp; try (with_reducible rfl))
            try simp only [Act.put, List.setIfInBounds_toArray, List.set_cons_zero, List.set_cons_succ]
            refine wpAnyH_take (i := 8) (oi := ⟨some 124, .binOp .add 9 (.tmp 123) ((.const (.string ⟨#[32]⟩))) 9, _, _, _, _⟩) (v := ?vH71) rfl (by kernel_rfl) (by kernel_rfl) (by kernel_rfl) (fun _ _ _ h => h) (Or.inl ⟨by rfl, ?hyH71⟩) (by assumption) ?restH71
            case hyH71 => (intro w hSw; (try dsimp only at hSw); go_simp; try (with_reducible rfl))
            try simp only [Act.put, List.setIfInBounds_toArray, List.set_cons_zero, List.set_cons_succ]
            refine wpAnyH_take (i := 12) (oi := ⟨some 128, .binOp .add 9 (.tmp 124) (.tmp 127) 9, _, _, _, _⟩) (v := ?vH72) rfl (by kernel_rfl) (by kernel_rfl) (by kernel_rfl) (fun _ _ _ h => h) (Or.inl ⟨by rfl, ?hyH72⟩) (by assumption) ?restH72
            case hyH72 => (intro w hSw; (try dsimp only at hSw); go_simp; try (with_reducible rfl))
            try simp only [Act.put, List.setIfInBounds_toArray, List.set_cons_zero, List.set_cons_succ]
            refine wpAnyH_take (i := 17) (oi := ⟨some 133, .binOp .add 9 (.tmp 128) (.tmp 132) 9, _, _, _, _⟩) (v := ?vH73) rfl (by kernel_rfl) (by kernel_rfl) (by kernel_rfl) (fun _ _ _ h => h) (Or.inl ⟨by rfl, ?hyH73⟩) (by assumption) ?restH73
            case hyH73 => (intro w hSw; (try dsimp only at hSw); go_simp; try (with_reducible rfl))
            try simp only [Act.put, List.setIfInBounds_toArray, List.set_cons_zero, List.set_cons_succ]
            refine wpAnyH_take (i := 18) (oi := ⟨some 4, .assign (.tmp 133), _, _, _, _⟩) (v := ?vH74) rfl (by kernel_rfl) (by kernel_rfl) (by kernel_rfl) (fun _ _ _ h => h) (Or.inl ⟨by rfl, ?hyH74⟩) (by assumption) ?restH74
            case hyH74 => (intro w hSw; (try dsimp only at hSw); go_simp; try (with_reducible rfl))
            try simp only [Act.put, List.setIfInBounds_toArray, List.set_cons_zero, List.set_cons_succ]
            refine wpAnyH_done (by kernel_rfl) ?_ _
            go_wp2_with fail
            go_ret
            exact ⟨congrArg (fun x => Ending.returned (.string x)) HF.out, HB0.out.trans ((And.right (And.right (And.right (And.right (And.right (And.right (And.right (And.right (And.right (And.right (And.right (And.right (And.right (And.right (And.right (And.right hHeld)))))))))))))))).mono HB0.out.size)⟩
          exact AllReadyH.nil
        exact AllReadyH.nil
      exact AllReadyH.nil
    refine AllReadyH.cons (o := ⟨some 127, .call { callee := .value (.func 19), args := #[(.tmp 126)], argTypes := #[3] }, _, _, _, _⟩) rfl (fun K hK => ?_) ?_
    · go_simp
      refine calls_at (HCv.out _) (by with_reducible rfl) (by with_reducible rfl) ?_
      rintro e w51 ⟨rfl, hb11⟩
      go_wp2_with fail
      refine hK.out _ _ (HSc.out _ ((And.right (And.right (And.right (And.right (And.right (And.right (And.right (And.right (And.right (And.right (And.right (And.right (And.right (And.right (And.right (And.right hHeld)))))))))))))))).trans (hb11.mono (And.right (And.right (And.right (And.right (And.right (And.right (And.right (And.right (And.right (And.right (And.right (And.right (And.right (And.right (And.right (And.right hHeld)))))))))))))))).size))) (fun hHeld => ?_)
      clear hK K
      try simp only [Act.put, List.setIfInBounds_toArray, List.set_cons_zero, List.set_cons_succ]
      refine wpAnyH_ready (rs := [0, 16]) (by kernel_rfl) (by simp) ?_
      refine AllReadyH.cons (o := ⟨some 116, .buildSlice 97 4 #[(0, (.const (.string ⟨#[]⟩))), (1, (.const (.string ⟨#[60, 61]⟩))), (2, (.const (.string ⟨#[61]⟩))), (3, (.const (.string ⟨#[62, 61]⟩)))], _, _, _, _⟩) rfl (fun K hK => ?_) ?_
      · go_simp
        refine hK.out _ _ (HSc.out _ ((And.right (And.right (And.right (And.right (And.right (And.right (And.right (And.right (And.right (And.right (And.right (And.right (And.right (And.right (And.right (And.right hHeld)))))))))))))))).alloc (And.right (And.right (And.right (And.right (And.right (And.right (And.right (And.right (And.right (And.right (And.right (And.right (And.right (And.right (And.right (And.right hHeld)))))))))))))))).size _)) (fun hHeld => ?_)
        clear hK K
        try simp only [Act.put, List.setIfInBounds_toArray, List.set_cons_zero, List.set_cons_succ]
        refine wpAnyH_take (i := 3) (oi := ⟨some 119, .indexAddr 97 (.tmp 116) (.tmp 118), _, _, _, _⟩) (v := ?vH75) rfl (by kernel_rfl) (by kernel_rfl) (by kernel_rfl) (fun _ _ _ h => h) (Or.inl ⟨by rfl, ?hyH75⟩) (by assumption) ?restH75
        case hyH75 => (intro w hSw; (try dsimp only at hSw); go_simp; try (with_reducible rfl))
        try simp only [Act.put, List.setIfInBounds_toArray, List.set_cons_zero, List.set_cons_succ]
        refine wpAnyH_ready (rs := [4, 16]) (by kernel_rfl) (by simp) ?_
        refine AllReadyH.cons (o := ⟨some 120, .load 9 (.tmp 119), _, _, _, _⟩) rfl (fun K hK => ?_) ?_
        · go_simp
          refine hK.out _ _ hHeld (fun hHeld => ?_)
          clear hK K
          try simp only [Act.put, List.setIfInBounds_toArray, List.set_cons_zero, List.set_cons_succ]
          refine wpAnyH_take (i := 5) (oi := ⟨some 121, .binOp .add 9 ((.const (.string ⟨#[99, 111, 117, 110, 116, 32]⟩))) (.tmp 120) 9, _, _, _, _⟩) (v := ?vH76) rfl (by kernel_rfl) (by kernel_rfl) (by kernel_rfl) (fun _ _ _ h => h) (Or.inl ⟨by rfl, ?hyH76⟩) (by assumption) ?restH76
          case hyH76 => (intro w hSw; (try dsimp only at hSw); go_simp; try (with_reducible rfl))
          try simp only [Act.put, List.setIfInBounds_toArray, List.set_cons_zero, List.set_cons_succ]
          refine wpAnyH_take (i := 7) (oi := ⟨some 123, .binOp .add 9 (.tmp 121) (.tmp 122) 9, _, _, _, _⟩) (v := ?vH77) rfl (by kernel_rfl) (by kernel_rfl) (by kernel_rfl) (fun _ _ _ h => h) (Or.inl ⟨by rfl, ?hyH77⟩) (by assumption) ?restH77
          case hyH77 => (intro w hSw; (try dsimp only at hSw); go_simp; try (with_reducible rfl))
          try simp only [Act.put, List.setIfInBounds_toArray, List.set_cons_zero, List.set_cons_succ]
          refine wpAnyH_take (i := 8) (oi := ⟨some 124, .binOp .add 9 (.tmp 123) ((.const (.string ⟨#[32]⟩))) 9, _, _, _, _⟩) (v := ?vH78) rfl (by kernel_rfl) (by kernel_rfl) (by kernel_rfl) (fun _ _ _ h => h) (Or.inl ⟨by rfl, ?hyH78⟩) (by assumption) ?restH78
          case hyH78 => (intro w hSw; (try dsimp only at hSw); go_simp; try (with_reducible rfl))
          try simp only [Act.put, List.setIfInBounds_toArray, List.set_cons_zero, List.set_cons_succ]
          refine wpAnyH_take (i := 12) (oi := ⟨some 128, .binOp .add 9 (.tmp 124) (.tmp 127) 9, _, _, _, _⟩) (v := ?vH79) rfl (by kernel_rfl) (by kernel_rfl) (by kernel_rfl) (fun _ _ _ h => h) (Or.inl ⟨by rfl, ?hyH79⟩) (by assumption) ?restH79
          case hyH79 => (intro w hSw; (try dsimp only at hSw); go_simp; try (with_reducible rfl))
          try simp only [Act.put, List.setIfInBounds_toArray, List.set_cons_zero, List.set_cons_succ]
          refine wpAnyH_ready (rs := [16]) (by kernel_rfl) (by simp) ?_
          refine AllReadyH.cons (o := ⟨some 132, .call { callee := .value (.func 50), args := #[(.tmp 129), (.tmp 131)], argTypes := #[26, 33] }, _, _, _, _⟩) rfl (fun K hK => ?_) ?_
          · go_simp
            refine calls_at (HCn.out _ (And.right (And.right (And.right (And.right (And.right (And.right (And.right (And.right (And.right (And.right (And.right (And.right (And.right (And.right (And.right (And.right hHeld))))))))))))))))) (by with_reducible rfl) (by with_reducible rfl) ?_
            rintro e w56 ⟨rfl, hb16⟩
            go_wp2_with fail
            refine hK.out _ _ (HSc.out _ ((And.right (And.right (And.right (And.right (And.right (And.right (And.right (And.right (And.right (And.right (And.right (And.right (And.right (And.right (And.right (And.right hHeld)))))))))))))))).trans (hb16.mono (And.right (And.right (And.right (And.right (And.right (And.right (And.right (And.right (And.right (And.right (And.right (And.right (And.right (And.right (And.right (And.right hHeld)))))))))))))))).size))) (fun hHeld => ?_)
            clear hK K
            try simp only [Act.put, List.setIfInBounds_toArray, List.set_cons_zero, List.set_cons_succ]
            refine wpAnyH_take (i := 17) (oi := ⟨some 133, .binOp .add 9 (.tmp 128) (.tmp 132) 9, _, _, _, _⟩) (v := ?vH80) rfl (by kernel_rfl) (by kernel_rfl) (by kernel_rfl) (fun _ _ _ h => h) (Or.inl ⟨by rfl, ?hyH80⟩) (by assumption) ?restH80
            case hyH80 => (intro w hSw; (try dsimp only at hSw); go_simp; try (with_reducible rfl))
            try simp only [Act.put, List.setIfInBounds_toArray, List.set_cons_zero, List.set_cons_succ]
            refine wpAnyH_take (i := 18) (oi := ⟨some 4, .assign (.tmp 133), _, _, _, _⟩) (v := ?vH81) rfl (by kernel_rfl) (by kernel_rfl) (by kernel_rfl) (fun _ _ _ h => h) (Or.inl ⟨by rfl, ?hyH81⟩) (by assumption) ?restH81
            case hyH81 => (intro w hSw; (try dsimp only at hSw); go_simp; try (with_reducible rfl))
            try simp only [Act.put, List.setIfInBounds_toArray, List.set_cons_zero, List.set_cons_succ]
            refine wpAnyH_done (by kernel_rfl) ?_ _
            go_wp2_with fail
            go_ret
            exact ⟨congrArg (fun x => Ending.returned (.string x)) HF.out, HB0.out.trans ((And.right (And.right (And.right (And.right (And.right (And.right (And.right (And.right (And.right (And.right (And.right (And.right (And.right (And.right (And.right (And.right hHeld)))))))))))))))).mono HB0.out.size)⟩
          exact AllReadyH.nil
        refine AllReadyH.cons (o := ⟨some 132, .call { callee := .value (.func 50), args := #[(.tmp 129), (.tmp 131)], argTypes := #[26, 33] }, _, _, _, _⟩) rfl (fun K hK => ?_) ?_
        · go_simp
          refine calls_at (HCn.out _ (And.right (And.right (And.right (And.right (And.right (And.right (And.right (And.right (And.right (And.right (And.right (And.right (And.right (And.right (And.right (And.right hHeld))))))))))))))))) (by with_reducible rfl) (by with_reducible rfl) ?_
          rintro e w56 ⟨rfl, hb16⟩
          have oc := (opw_kept hb16).2.1
          go_wp2_with fail
          refine hK.out _ _ (HSc.out _ ((And.right (And.right (And.right (And.right (And.right (And.right (And.right (And.right (And.right (And.right (And.right (And.right (And.right (And.right (And.right (And.right hHeld)))))))))))))))).trans (hb16.mono (And.right (And.right (And.right (And.right (And.right (And.right (And.right (And.right (And.right (And.right (And.right (And.right (And.right (And.right (And.right (And.right hHeld)))))))))))))))).size))) (fun hHeld => ?_)
          clear hK K
          try simp only [Act.put, List.setIfInBounds_toArray, List.set_cons_zero, List.set_cons_succ]
          refine wpAnyH_ready (rs := [4]) (by kernel_rfl) (by simp) ?_
          refine AllReadyH.cons (o := ⟨some 120, .load 9 (.tmp 119), _, _, _, _⟩) rfl (fun K hK => ?_) ?_
          · go_simp
            refine hK.out _ _ hHeld (fun hHeld => ?_)
            clear hK K
            try simp only [Act.put, List.setIfInBounds_toArray, List.set_cons_zero, List.set_cons_succ]
            refine wpAnyH_take (i := 5) (oi := ⟨some 121, .binOp .add 9 ((.const (.string ⟨#[99, 111, 117, 110, 116, 32]⟩))) (.tmp 120) 9, _, _, _, _⟩) (v := ?vH82) rfl (by kernel_rfl) (by kernel_rfl) (by kernel_rfl) (fun _ _ _ h => h) (Or.inl ⟨by rfl, ?hyH82⟩) (by assumption) ?restH82
            case hyH82 => (intro w hSw; (try dsimp only at hSw); go_simp; try (with_reducible rfl))
            try simp only [Act.put, List.setIfInBounds_toArray, List.set_cons_zero, List.set_cons_succ]
            refine wpAnyH_take (i := 7) (oi := ⟨some 123, .binOp .add 9 (.tmp 121) (.tmp 122) 9, _, _, _, _⟩) (v := ?vH83) rfl (by kernel_rfl) (by kernel_rfl) (by kernel_rfl) (fun _ _ _ h => h) (Or.inl ⟨by rfl, ?hyH83⟩) (by assumption) ?restH83
            case hyH83 => (intro w hSw; (try dsimp only at hSw); go_simp; try (with_reducible rfl))
            try simp only [Act.put, List.setIfInBounds_toArray, List.set_cons_zero, List.set_cons_succ]
            refine wpAnyH_take (i := 8) (oi := ⟨some 124, .binOp .add 9 (.tmp 123) ((.const (.string ⟨#[32]⟩))) 9, _, _, _, _⟩) (v := ?vH84) rfl (by kernel_rfl) (by kernel_rfl) (by kernel_rfl) (fun _ _ _ h => h) (Or.inl ⟨by rfl, ?hyH84⟩) (by assumption) ?restH84
            case hyH84 => (intro w hSw; (try dsimp only at hSw); go_simp; try (with_reducible rfl))
            try simp only [Act.put, List.setIfInBounds_toArray, List.set_cons_zero, List.set_cons_succ]
            refine wpAnyH_take (i := 12) (oi := ⟨some 128, .binOp .add 9 (.tmp 124) (.tmp 127) 9, _, _, _, _⟩) (v := ?vH85) rfl (by kernel_rfl) (by kernel_rfl) (by kernel_rfl) (fun _ _ _ h => h) (Or.inl ⟨by rfl, ?hyH85⟩) (by assumption) ?restH85
            case hyH85 => (intro w hSw; (try dsimp only at hSw); go_simp; try (with_reducible rfl))
            try simp only [Act.put, List.setIfInBounds_toArray, List.set_cons_zero, List.set_cons_succ]
            refine wpAnyH_take (i := 17) (oi := ⟨some 133, .binOp .add 9 (.tmp 128) (.tmp 132) 9, _, _, _, _⟩) (v := ?vH86) rfl (by kernel_rfl) (by kernel_rfl) (by kernel_rfl) (fun _ _ _ h => h) (Or.inl ⟨by rfl, ?hyH86⟩) (by assumption) ?restH86
            case hyH86 => (intro w hSw; (try dsimp only at hSw); go_simp; try (with_reducible rfl))
            try simp only [Act.put, List.setIfInBounds_toArray, List.set_cons_zero, List.set_cons_succ]
            refine wpAnyH_take (i := 18) (oi := ⟨some 4, .assign (.tmp 133), _, _, _, _⟩) (v := ?vH87) rfl (by kernel_rfl) (by kernel_rfl) (by kernel_rfl) (fun _ _ _ h => h) (Or.inl ⟨by rfl, ?hyH87⟩) (by assumption) ?restH87
            case hyH87 => (intro w hSw; (try dsimp only at hSw); go_simp; try (with_reducible rfl))
            try simp only [Act.put, List.setIfInBounds_toArray, List.set_cons_zero, List.set_cons_succ]
            refine wpAnyH_done (by kernel_rfl) ?_ _
            go_wp2_with fail
            go_ret
            exact ⟨congrArg (fun x => Ending.returned (.string x)) HF.out, HB0.out.trans ((And.right (And.right (And.right (And.right (And.right (And.right (And.right (And.right (And.right (And.right (And.right (And.right (And.right (And.right (And.right (And.right hHeld)))))))))))))))).mono HB0.out.size)⟩
          exact AllReadyH.nil
        exact AllReadyH.nil
      refine AllReadyH.cons (o := ⟨some 132, .call { callee := .value (.func 50), args := #[(.tmp 129), (.tmp 131)], argTypes := #[26, 33] }, _, _, _, _⟩) rfl (fun K hK => ?_) ?_
      · go_simp
        refine calls_at (HCn.out _ (And.right (And.right (And.right (And.right (And.right (And.right (And.right (And.right (And.right (And.right (And.right (And.right (And.right (And.right (And.right (And.right hHeld))))))))))))))))) (by with_reducible rfl) (by with_reducible rfl) ?_
        rintro e w56 ⟨rfl, hb16⟩
        go_wp2_with fail
        refine hK.out _ _ (HSc.out _ ((And.right (And.right (And.right (And.right (And.right (And.right (And.right (And.right (And.right (And.right (And.right (And.right (And.right (And.right (And.right (And.right hHeld)))))))))))))))).trans (hb16.mono (And.right (And.right (And.right (And.right (And.right (And.right (And.right (And.right (And.right (And.right (And.right (And.right (And.right (And.right (And.right (And.right hHeld)))))))))))))))).size))) (fun hHeld => ?_)
        clear hK K
        try simp only [Act.put, List.setIfInBounds_toArray, List.set_cons_zero, List.set_cons_succ]
        refine wpAnyH_ready (rs := [0]) (by kernel_rfl) (by simp) ?_
        refine AllReadyH.cons (o := ⟨some 116, .buildSlice 97 4 #[(0, (.const (.string ⟨#[]⟩))), (1, (.const (.string ⟨#[60, 61]⟩))), (2, (.const (.string ⟨#[61]⟩))), (3, (.const (.string ⟨#[62, 61]⟩)))], _, _, _, _⟩) rfl (fun K hK => ?_) ?_
        · go_simp
          refine hK.out _ _ (HSc.out _ ((And.right (And.right (And.right (And.right (And.right (And.right (And.right (And.right (And.right (And.right (And.right (And.right (And.right (And.right (And.right (And.right hHeld)))))))))))))))).alloc (And.right (And.right (And.right (And.right (And.right (And.right (And.right (And.right (And.right (And.right (And.right (And.right (And.right (And.right (And.right (And.right hHeld)))))))))))))))).size _)) (fun hHeld => ?_)
          clear hK K
          try simp only [Act.put, List.setIfInBounds_toArray, List.set_cons_zero, List.set_cons_succ]
          refine wpAnyH_take (i := 3) (oi := ⟨some 119, .indexAddr 97 (.tmp 116) (.tmp 118), _, _, _, _⟩) (v := ?vH88) rfl (by kernel_rfl) (by kernel_rfl) (by kernel_rfl) (fun _ _ _ h => h) (Or.inl ⟨by rfl, ?hyH88⟩) (by assumption) ?restH88
          case hyH88 => (intro w hSw; (try dsimp only at hSw); go_simp; try (with_reducible rfl))
          try simp only [Act.put, List.setIfInBounds_toArray, List.set_cons_zero, List.set_cons_succ]
          refine wpAnyH_ready (rs := [4]) (by kernel_rfl) (by simp) ?_
          refine AllReadyH.cons (o := ⟨some 120, .load 9 (.tmp 119), _, _, _, _⟩) rfl (fun K hK => ?_) ?_
          · go_simp
            refine hK.out _ _ hHeld (fun hHeld => ?_)
            clear hK K
            try simp only [Act.put, List.setIfInBounds_toArray, List.set_cons_zero, List.set_cons_succ]
            refine wpAnyH_take (i := 5) (oi := ⟨some 121, .binOp .add 9 ((.const (.string ⟨#[99, 111, 117, 110, 116, 32]⟩))) (.tmp 120) 9, _, _, _, _⟩) (v := ?vH89) rfl (by kernel_rfl) (by kernel_rfl) (by kernel_rfl) (fun _ _ _ h => h) (Or.inl ⟨by rfl, ?hyH89⟩) (by assumption) ?restH89
            case hyH89 => (intro w hSw; (try dsimp only at hSw); go_simp; try (with_reducible rfl))
            try simp only [Act.put, List.setIfInBounds_toArray, List.set_cons_zero, List.set_cons_succ]
            refine wpAnyH_take (i := 7) (oi := ⟨some 123, .binOp .add 9 (.tmp 121) (.tmp 122) 9, _, _, _, _⟩) (v := ?vH90) rfl (by kernel_rfl) (by kernel_rfl) (by kernel_rfl) (fun _ _ _ h => h) (Or.inl ⟨by rfl, ?hyH90⟩) (by assumption) ?restH90
            case hyH90 => (intro w hSw; (try dsimp only at hSw); go_simp; try (with_reducible rfl))
            try simp only [Act.put, List.setIfInBounds_toArray, List.set_cons_zero, List.set_cons_succ]
            refine wpAnyH_take (i := 8) (oi := ⟨some 124, .binOp .add 9 (.tmp 123) ((.const (.string ⟨#[32]⟩))) 9, _, _, _, _⟩) (v := ?vH91) rfl (by kernel_rfl) (by kernel_rfl) (by kernel_rfl) (fun _ _ _ h => h) (Or.inl ⟨by rfl, ?hyH91⟩) (by assumption) ?restH91
            case hyH91 => (intro w hSw; (try dsimp only at hSw); go_simp; try (with_reducible rfl))
            try simp only [Act.put, List.setIfInBounds_toArray, List.set_cons_zero, List.set_cons_succ]
            refine wpAnyH_take (i := 12) (oi := ⟨some 128, .binOp .add 9 (.tmp 124) (.tmp 127) 9, _, _, _, _⟩) (v := ?vH92) rfl (by kernel_rfl) (by kernel_rfl) (by kernel_rfl) (fun _ _ _ h => h) (Or.inl ⟨by rfl, ?hyH92⟩) (by assumption) ?restH92
            case hyH92 => (intro w hSw; (try dsimp only at hSw); go_simp; try (with_reducible rfl))
            try simp only [Act.put, List.setIfInBounds_toArray, List.set_cons_zero, List.set_cons_succ]
            refine wpAnyH_take (i := 17) (oi := ⟨some 133, .binOp .add 9 (.tmp 128) (.tmp 132) 9, _, _, _, _⟩) (v := ?vH93) rfl (by kernel_rfl) (by kernel_rfl) (by kernel_rfl) (fun _ _ _ h => h) (Or.inl ⟨by rfl, ?hyH93⟩) (by assumption) ?restH93
            case hyH93 => (intro w hSw; (try dsimp only at hSw); go_simp; try (with_reducible rfl))
            try simp only [Act.put, List.setIfInBounds_toArray, List.set_cons_zero, List.set_cons_succ]
            refine wpAnyH_take (i := 18) (oi := ⟨some 4, .assign (.tmp 133), _, _, _, _⟩) (v := ?vH94) rfl (by kernel_rfl) (by kernel_rfl) (by kernel_rfl) (fun _ _ _ h => h) (Or.inl ⟨by rfl, ?hyH94⟩) (by assumption) ?restH94
            case hyH94 => (intro w hSw; (try dsimp only at hSw); go_simp; try (with_reducible rfl))
            try simp only [Act.put, List.setIfInBounds_toArray, List.set_cons_zero, List.set_cons_succ]
            refine wpAnyH_done (by kernel_rfl) ?_ _
            go_wp2_with fail
            go_ret
            exact ⟨congrArg (fun x => Ending.returned (.string x)) HF.out, HB0.out.trans ((And.right (And.right (And.right (And.right (And.right (And.right (And.right (And.right (And.right (And.right (And.right (And.right (And.right (And.right (And.right (And.right hHeld)))))))))))))))).mono HB0.out.size)⟩
          exact AllReadyH.nil
        exact AllReadyH.nil
      exact AllReadyH.nil
    exact AllReadyH.nil
end Go.Proofs.YtjanpglnahagdaaGreatDoor