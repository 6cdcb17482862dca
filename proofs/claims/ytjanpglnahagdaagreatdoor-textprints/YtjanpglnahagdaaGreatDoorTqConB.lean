/-
  The document's line of a constraint.
-/
import Derived.Test.YtjanpglnahagdaaGreatDoorJ43
namespace Go.Proofs.YtjanpglnahagdaaGreatDoor
open Go Go.RowKit
open Go.Lib (itoa)


set_option maxHeartbeats 4000000 in
set_option maxRecDepth 100000 in
theorem doc_4 (vars : List Md.Vr) (vv vc vg : Value) (hb : Bool) (op : Int) (vt : Value) (k v x y : Int) (vx vb vr : Value) (w : World) (hV : VarsAt w vv vars) (hn : ∀ v ∈ vars, v.name.data.toList.length ≤ 16) (hx : 0 ≤ x ∧ x < (vars.length : Int)) (hy : 0 ≤ y ∧ y < (vars.length : Int)) (hk : -1000000000 ≤ k ∧ k ≤ 1000000000) (hv : -1000000000 ≤ v ∧ v ≤ 1000000000) {tb : List Int} (htb : IntsAt w vb tb) (htn : ∀ x ∈ tb, -1000000000 ≤ x ∧ x ≤ 1000000000) (htbl : tb.length ≤ 64) :
    Calls Tryz.prog 20 #[.agg #[vv, vc, .bool hb, vg], .agg #[.int .i64 4, .int .i64 op, vt, .int .i64 k, .int .i64 v, .int .i64 x, .int .i64 y, vx, vb, vr]] w fun e w' => e = .returned (.string ⟨((⟨#[101, 108, 101, 109, 101, 110, 116]⟩ : ByteArray).data.toList ++ (32 :: Md.nm vars x) ++ (32 :: Md.nm vars y) ++ Md.numsT tb).toArray⟩) ∧ Below w.heap.size w w' := by
  have _ := hv
  obtain ⟨ya, ycap, rfl, hym⟩ := hV.form
  obtain ⟨ba, bc, rfl, _⟩ := htb.form
  unfold maxLen at hym
  obtain ⟨W, hW⟩ : ∃ W, (w.alloc (.cells #[.slice ya vars.length ycap, vc, .bool hb, vg] 26)).alloc (.cells #[.int .i64 4, .int .i64 op, vt, .int .i64 k, .int .i64 v, .int .i64 x, .int .i64 y, vx, .slice ba tb.length bc, vr] 64) = W := ⟨_, rfl⟩
  have HB0 : Hid (Below w.heap.size w W) := (two_boxes hW).1
  have HOm : Hid (W.heap[w.heap.size]? = some (.cells #[.slice ya vars.length ycap, vc, .bool hb, vg] 26 (0, 0))) := (two_boxes hW).2.1
  have HOc : Hid (W.heap[w.heap.size + 1]? = some (.cells #[.int .i64 4, .int .i64 op, vt, .int .i64 k, .int .i64 v, .int .i64 x, .int .i64 y, vx, .slice ba tb.length bc, vr] 64 (0, 0))) := (two_boxes hW).2.2
  obtain ⟨jx, hjx, rfl, hnx⟩ := nm_get hx.1 hx.2
  obtain ⟨jy, hjy, rfl, hny⟩ := nm_get hy.1 hy.2
  obtain ⟨_, _, hvv, _, _, hyc⟩ := id hV
  injection hvv with e1 _ e3
  subst e3
  subst e1
  obtain ⟨gv, ov, rfl, hgv, hvc⟩ := hyc (by omega)
  obtain ⟨NX, hNX⟩ : ∃ NX, NX = vars[jx].name := ⟨_, rfl⟩
  obtain ⟨NY, hNY⟩ : ∃ NY, NY = vars[jy].name := ⟨_, rfl⟩
  have HSc : Hid (∀ w', Below W.heap.size W w' → w'.cell? ⟨w.heap.size, 0, none⟩ = some (.slice (some ⟨gv, ov, none⟩) vars.length ycap) ∧ w'.cell? ⟨w.heap.size, 1, none⟩ = some vc ∧ w'.cell? ⟨w.heap.size, 2, none⟩ = some (.bool hb) ∧ w'.cell? ⟨w.heap.size, 3, none⟩ = some vg ∧ w'.cell? ⟨w.heap.size + 1, 0, none⟩ = some (.int .i64 4) ∧ w'.cell? ⟨w.heap.size + 1, 1, none⟩ = some (.int .i64 op) ∧ w'.cell? ⟨w.heap.size + 1, 2, none⟩ = some (vt) ∧ w'.cell? ⟨w.heap.size + 1, 3, none⟩ = some (.int .i64 k) ∧ w'.cell? ⟨w.heap.size + 1, 4, none⟩ = some (.int .i64 v) ∧ w'.cell? ⟨w.heap.size + 1, 5, none⟩ = some (.int .i64 (jx : Int)) ∧ w'.cell? ⟨w.heap.size + 1, 6, none⟩ = some (.int .i64 (jy : Int)) ∧ w'.cell? ⟨w.heap.size + 1, 7, none⟩ = some (vx) ∧ w'.cell? ⟨w.heap.size + 1, 8, none⟩ = some (.slice ba tb.length bc) ∧ w'.cell? ⟨w.heap.size + 1, 9, none⟩ = some (vr) ∧ w'.cell? ⟨gv, ov + jx * 3, none⟩ = some (.string NX) ∧ w'.cell? ⟨gv, ov + jy * 3, none⟩ = some (.string NY) ∧ Below W.heap.size W w') := fun w' hbw => by
    have hw : Below w.heap.size w w' := HB0.out.trans (hbw.mono HB0.out.size)
    have h1 : w'.heap[w.heap.size]? = some (.cells #[.slice (some ⟨gv, ov, none⟩) vars.length ycap, vc, .bool hb, vg] 26) := (hbw.block w.heap.size (Array.getElem?_eq_some_iff.1 HOm.out).1).trans HOm.out
    have h2 : w'.heap[w.heap.size + 1]? = some (.cells #[.int .i64 4, .int .i64 op, vt, .int .i64 k, .int .i64 v, .int .i64 (jx : Int), .int .i64 (jy : Int), vx, .slice ba tb.length bc, vr] 64) := (hbw.block _ (Array.getElem?_eq_some_iff.1 HOc.out).1).trans HOc.out
    refine ⟨?_, ?_, ?_, ?_, ?_, ?_, ?_, ?_, ?_, ?_, ?_, ?_, ?_, ?_, ?_, ?_, hbw⟩
    · rw [Lib.cell_of_heap h1]; rfl
    · rw [Lib.cell_of_heap h1]; rfl
    · rw [Lib.cell_of_heap h1]; rfl
    · rw [Lib.cell_of_heap h1]; rfl
    · rw [Lib.cell_of_heap h2]; rfl
    · rw [Lib.cell_of_heap h2]; rfl
    · rw [Lib.cell_of_heap h2]; rfl
    · rw [Lib.cell_of_heap h2]; rfl
    · rw [Lib.cell_of_heap h2]; rfl
    · rw [Lib.cell_of_heap h2]; rfl
    · rw [Lib.cell_of_heap h2]; rfl
    · rw [Lib.cell_of_heap h2]; rfl
    · rw [Lib.cell_of_heap h2]; rfl
    · rw [Lib.cell_of_heap h2]; rfl
    · rw [hNX]; exact (hw.cell (p := ⟨gv, ov + jx * 3, none⟩) hgv).trans (hvc jx hjx).1
    · rw [hNY]; exact (hw.cell (p := ⟨gv, ov + jy * 3, none⟩) hgv).trans (hvc jy hjy).1
  have zx : NX.size ≤ 16 := by rw [hNX, size_toList]; exact hn _ (List.getElem_mem hjx)
  have zy : NY.size ≤ 16 := by rw [hNY, size_toList]; exact hn _ (List.getElem_mem hjy)
  have HNX : Hid (NX.data.toList = Md.nm vars (jx : Int)) := by rw [hNX]; exact hnx.symm
  have HNY : Hid (NY.data.toList = Md.nm vars (jy : Int)) := by rw [hNY]; exact hny.symm
  have hjxI : (jx : Int) < (vars.length : Int) := by omega
  have hjyI : (jy : Int) < (vars.length : Int) := by omega
  obtain ⟨DK, hDK⟩ : ∃ DK : ByteArray, DK = ⟨(itoa k).toArray⟩ := ⟨_, rfl⟩
  have zk : DK.size ≤ 21 := by rw [hDK, size_mk]; exact Md.itoa_len hk
  have HDK : Hid (DK.data.toList = itoa k) := by rw [hDK]; show _ = _; simp
  have HCk : Hid (∀ w', Calls Tryz.prog 19 #[.int .i64 k] w' fun e w'' => e = .returned (.string DK) ∧ Below w'.heap.size w' w'') := fun w' => by rw [hDK]; exact digits_any k w' hk
  obtain ⟨VS, hVS⟩ : ∃ VS : ByteArray, VS = ⟨(Md.numsT tb).toArray⟩ := ⟨_, rfl⟩
  have zb : VS.size ≤ 1408 := by rw [hVS, size_mk]; have := numsT_len htn; omega
  have HVS : Hid (VS.data.toList = Md.numsT tb) := by rw [hVS]; show _ = _; simp
  have HCb : Hid (∀ w', Below W.heap.size W w' → Calls Tryz.prog 51 #[.slice ba tb.length bc] w' fun e w'' => e = .returned (.string VS) ∧ Below w'.heap.size w' w'') := fun w' hbw => by rw [hVS]; exact tqValues_any _ tb w' (htb.below (HB0.out.trans (hbw.mono HB0.out.size))) htn htbl
  obtain ⟨sx, hsx⟩ : ∃ s : ByteArray, s = (⟨#[32]⟩ : ByteArray) ++ NX := ⟨_, rfl⟩
  have zsx : sx.size ≤ 24 := by rw [hsx, ByteArray.size_append]; have q0 : (⟨#[32]⟩ : ByteArray).size ≤ 8 := (by decide); omega
  have asx := add_str hsx (by have q0 : (⟨#[32]⟩ : ByteArray).size ≤ 8 := (by decide); omega)
  obtain ⟨sy, hsy⟩ : ∃ s : ByteArray, s = (⟨#[32]⟩ : ByteArray) ++ NY := ⟨_, rfl⟩
  have zsy : sy.size ≤ 24 := by rw [hsy, ByteArray.size_append]; have q0 : (⟨#[32]⟩ : ByteArray).size ≤ 8 := (by decide); omega
  have asy := add_str hsy (by have q0 : (⟨#[32]⟩ : ByteArray).size ≤ 8 := (by decide); omega)
  obtain ⟨sk, hsk⟩ : ∃ s : ByteArray, s = (⟨#[32]⟩ : ByteArray) ++ DK := ⟨_, rfl⟩
  have zsk : sk.size ≤ 29 := by rw [hsk, ByteArray.size_append]; have q0 : (⟨#[32]⟩ : ByteArray).size ≤ 8 := (by decide); omega
  have ask := add_str hsk (by have q0 : (⟨#[32]⟩ : ByteArray).size ≤ 8 := (by decide); omega)
  obtain ⟨p1, hp1⟩ : ∃ s : ByteArray, s = (⟨#[101, 108, 101, 109, 101, 110, 116]⟩ : ByteArray) ++ sx := ⟨_, rfl⟩
  have zp1 : p1.size ≤ 32 := by rw [hp1, ByteArray.size_append]; have q0 : (⟨#[101, 108, 101, 109, 101, 110, 116]⟩ : ByteArray).size ≤ 8 := (by decide); omega
  have ap1 := add_str hp1 (by have q0 : (⟨#[101, 108, 101, 109, 101, 110, 116]⟩ : ByteArray).size ≤ 8 := (by decide); omega)
  obtain ⟨p2, hp2⟩ : ∃ s : ByteArray, s = p1 ++ sy := ⟨_, rfl⟩
  have zp2 : p2.size ≤ 56 := by rw [hp2, ByteArray.size_append]; omega
  have ap2 := add_str hp2 (by omega)
  obtain ⟨R, hR⟩ : ∃ s : ByteArray, s = p2 ++ VS := ⟨_, rfl⟩
  have zR : R.size ≤ 1464 := by rw [hR, ByteArray.size_append]; omega
  have aR := add_str hR (by omega)
  have HE : Hid (R.data.toList = (⟨#[101, 108, 101, 109, 101, 110, 116]⟩ : ByteArray).data.toList ++ (32 :: Md.nm vars (jx : Int)) ++ (32 :: Md.nm vars (jy : Int)) ++ Md.numsT tb) := by
    show _ = _
    rw [hR, hp2, hp1, hsx, hsy]
    simp [HNX.out, HNY.out, HVS.out]
  have HF : Hid (R = ⟨((⟨#[101, 108, 101, 109, 101, 110, 116]⟩ : ByteArray).data.toList ++ (32 :: Md.nm vars (jx : Int)) ++ (32 :: Md.nm vars (jy : Int)) ++ Md.numsT tb).toArray⟩) := mk_toList R HE.out
  clear hx hy hk hv hn hV hvc hnx hny hNX hNY hDK hVS htb htn htbl hsx hsy hsk hp1 hp2 hR  HOm HOc
  go_enter Tryz.func20, Tryz.ntmps20
  go_wp2_with fail
  try rw [hW]
  clear hW
  go_cut [5, 6, 7] from 10 to 29 (fun xv yv kv wx => xv = .string sx ∧ yv = .string sy ∧ kv = .string sk ∧ Hid (Below W.heap.size W wx))
  case first =>
    go_region_held3 (fun w' => w'.cell? ⟨w.heap.size, 0, none⟩ = some (.slice (some ⟨gv, ov, none⟩) vars.length ycap) ∧ w'.cell? ⟨w.heap.size, 1, none⟩ = some vc ∧ w'.cell? ⟨w.heap.size, 2, none⟩ = some (.bool hb) ∧ w'.cell? ⟨w.heap.size, 3, none⟩ = some vg ∧ w'.cell? ⟨w.heap.size + 1, 0, none⟩ = some (.int .i64 4) ∧ w'.cell? ⟨w.heap.size + 1, 1, none⟩ = some (.int .i64 op) ∧ w'.cell? ⟨w.heap.size + 1, 2, none⟩ = some (vt) ∧ w'.cell? ⟨w.heap.size + 1, 3, none⟩ = some (.int .i64 k) ∧ w'.cell? ⟨w.heap.size + 1, 4, none⟩ = some (.int .i64 v) ∧ w'.cell? ⟨w.heap.size + 1, 5, none⟩ = some (.int .i64 (jx : Int)) ∧ w'.cell? ⟨w.heap.size + 1, 6, none⟩ = some (.int .i64 (jy : Int)) ∧ w'.cell? ⟨w.heap.size + 1, 7, none⟩ = some (vx) ∧ w'.cell? ⟨w.heap.size + 1, 8, none⟩ = some (.slice ba tb.length bc) ∧ w'.cell? ⟨w.heap.size + 1, 9, none⟩ = some (vr) ∧ w'.cell? ⟨gv, ov + jx * 3, none⟩ = some (.string NX) ∧ w'.cell? ⟨gv, ov + jy * 3, none⟩ = some (.string NY) ∧ Below W.heap.size W w')
      (first | exact HSc.out _ (Below.refl _ _).drew | exact HSc.out _ ((Below.refl _ _).drew.trans hb2) | assumption)
      (first | (go_at_call 19; refine calls_at (HCk.out _) (by with_reducible rfl) (by with_reducible rfl) ?_; rintro e w2 ⟨rfl, hb2⟩))
    all_goals
      have HB2 : Hid (Below W.heap.size W w2) := And.right (And.right (And.right (And.right (And.right (And.right (And.right (And.right (And.right (And.right (And.right (And.right (And.right (And.right (And.right (And.right (by assumption))))))))))))))))
      go_wp2_with fail
      go_meet
      case rel => exact ⟨rfl, rfl, rfl, HB2⟩
  case rest =>
    obtain ⟨rfl, rfl, rfl, hBc⟩ := hcut
    rename World => wq
    obtain ⟨m0, m1, m2, m3, c0, c1, c2, c3, c4, c5, c6, c7, c8, c9, nx, ny, _⟩ := HSc.out wq hBc.out
    go_wp2_with (first | (go_at_call 51; refine calls_at (HCb.out wq hBc.out) (by with_reducible rfl) (by with_reducible rfl) ?_; rintro e w3 ⟨rfl, hb3⟩; have HB3 : Hid (Below W.heap.size W w3) := hBc.out.trans (hb3.mono hBc.out.size)))
    go_ret
    exact ⟨congrArg (fun x => Ending.returned (.string x)) HF.out, HB0.out.trans (HB3.out.mono HB0.out.size)⟩

set_option maxHeartbeats 4000000 in
set_option maxRecDepth 100000 in
theorem doc_5 (vars : List Md.Vr) (vv vc vg : Value) (hb : Bool) (op : Int) (vt : Value) (k v x y : Int) (vx vb vr : Value) (w : World) (hV : VarsAt w vv vars) (hn : ∀ v ∈ vars, v.name.data.toList.length ≤ 16) (hx : 0 ≤ x ∧ x < (vars.length : Int)) (hy : 0 ≤ y ∧ y < (vars.length : Int)) (hk : -1000000000 ≤ k ∧ k ≤ 1000000000) (hv : -1000000000 ≤ v ∧ v ≤ 1000000000) {xs : List Int} (hxs : IntsAt w vx xs) (hxn : ∀ x ∈ xs, 0 ≤ x ∧ x < (vars.length : Int)) (hxl : xs.length ≤ 64) :
    Calls Tryz.prog 20 #[.agg #[vv, vc, .bool hb, vg], .agg #[.int .i64 5, .int .i64 op, vt, .int .i64 k, .int .i64 v, .int .i64 x, .int .i64 y, vx, vb, vr]] w fun e w' => e = .returned (.string ⟨((⟨#[109, 97, 120]⟩ : ByteArray).data.toList ++ (32 :: Md.nm vars y) ++ Md.namesT vars xs).toArray⟩) ∧ Below w.heap.size w w' := by
  have _ := hv
  obtain ⟨ya, ycap, rfl, hym⟩ := hV.form
  obtain ⟨xa, xc, rfl, _⟩ := hxs.form
  unfold maxLen at hym
  obtain ⟨W, hW⟩ : ∃ W, (w.alloc (.cells #[.slice ya vars.length ycap, vc, .bool hb, vg] 26)).alloc (.cells #[.int .i64 5, .int .i64 op, vt, .int .i64 k, .int .i64 v, .int .i64 x, .int .i64 y, .slice xa xs.length xc, vb, vr] 64) = W := ⟨_, rfl⟩
  have HB0 : Hid (Below w.heap.size w W) := (two_boxes hW).1
  have HOm : Hid (W.heap[w.heap.size]? = some (.cells #[.slice ya vars.length ycap, vc, .bool hb, vg] 26 (0, 0))) := (two_boxes hW).2.1
  have HOc : Hid (W.heap[w.heap.size + 1]? = some (.cells #[.int .i64 5, .int .i64 op, vt, .int .i64 k, .int .i64 v, .int .i64 x, .int .i64 y, .slice xa xs.length xc, vb, vr] 64 (0, 0))) := (two_boxes hW).2.2
  obtain ⟨jx, hjx, rfl, hnx⟩ := nm_get hx.1 hx.2
  obtain ⟨jy, hjy, rfl, hny⟩ := nm_get hy.1 hy.2
  obtain ⟨_, _, hvv, _, _, hyc⟩ := id hV
  injection hvv with e1 _ e3
  subst e3
  subst e1
  obtain ⟨gv, ov, rfl, hgv, hvc⟩ := hyc (by omega)
  obtain ⟨NX, hNX⟩ : ∃ NX, NX = vars[jx].name := ⟨_, rfl⟩
  obtain ⟨NY, hNY⟩ : ∃ NY, NY = vars[jy].name := ⟨_, rfl⟩
  have HSc : Hid (∀ w', Below W.heap.size W w' → w'.cell? ⟨w.heap.size, 0, none⟩ = some (.slice (some ⟨gv, ov, none⟩) vars.length ycap) ∧ w'.cell? ⟨w.heap.size, 1, none⟩ = some vc ∧ w'.cell? ⟨w.heap.size, 2, none⟩ = some (.bool hb) ∧ w'.cell? ⟨w.heap.size, 3, none⟩ = some vg ∧ w'.cell? ⟨w.heap.size + 1, 0, none⟩ = some (.int .i64 5) ∧ w'.cell? ⟨w.heap.size + 1, 1, none⟩ = some (.int .i64 op) ∧ w'.cell? ⟨w.heap.size + 1, 2, none⟩ = some (vt) ∧ w'.cell? ⟨w.heap.size + 1, 3, none⟩ = some (.int .i64 k) ∧ w'.cell? ⟨w.heap.size + 1, 4, none⟩ = some (.int .i64 v) ∧ w'.cell? ⟨w.heap.size + 1, 5, none⟩ = some (.int .i64 (jx : Int)) ∧ w'.cell? ⟨w.heap.size + 1, 6, none⟩ = some (.int .i64 (jy : Int)) ∧ w'.cell? ⟨w.heap.size + 1, 7, none⟩ = some (.slice xa xs.length xc) ∧ w'.cell? ⟨w.heap.size + 1, 8, none⟩ = some (vb) ∧ w'.cell? ⟨w.heap.size + 1, 9, none⟩ = some (vr) ∧ w'.cell? ⟨gv, ov + jx * 3, none⟩ = some (.string NX) ∧ w'.cell? ⟨gv, ov + jy * 3, none⟩ = some (.string NY) ∧ Below W.heap.size W w') := fun w' hbw => by
    have hw : Below w.heap.size w w' := HB0.out.trans (hbw.mono HB0.out.size)
    have h1 : w'.heap[w.heap.size]? = some (.cells #[.slice (some ⟨gv, ov, none⟩) vars.length ycap, vc, .bool hb, vg] 26) := (hbw.block w.heap.size (Array.getElem?_eq_some_iff.1 HOm.out).1).trans HOm.out
    have h2 : w'.heap[w.heap.size + 1]? = some (.cells #[.int .i64 5, .int .i64 op, vt, .int .i64 k, .int .i64 v, .int .i64 (jx : Int), .int .i64 (jy : Int), .slice xa xs.length xc, vb, vr] 64) := (hbw.block _ (Array.getElem?_eq_some_iff.1 HOc.out).1).trans HOc.out
    refine ⟨?_, ?_, ?_, ?_, ?_, ?_, ?_, ?_, ?_, ?_, ?_, ?_, ?_, ?_, ?_, ?_, hbw⟩
    · rw [Lib.cell_of_heap h1]; rfl
    · rw [Lib.cell_of_heap h1]; rfl
    · rw [Lib.cell_of_heap h1]; rfl
    · rw [Lib.cell_of_heap h1]; rfl
    · rw [Lib.cell_of_heap h2]; rfl
    · rw [Lib.cell_of_heap h2]; rfl
    · rw [Lib.cell_of_heap h2]; rfl
    · rw [Lib.cell_of_heap h2]; rfl
    · rw [Lib.cell_of_heap h2]; rfl
    · rw [Lib.cell_of_heap h2]; rfl
    · rw [Lib.cell_of_heap h2]; rfl
    · rw [Lib.cell_of_heap h2]; rfl
    · rw [Lib.cell_of_heap h2]; rfl
    · rw [Lib.cell_of_heap h2]; rfl
    · rw [hNX]; exact (hw.cell (p := ⟨gv, ov + jx * 3, none⟩) hgv).trans (hvc jx hjx).1
    · rw [hNY]; exact (hw.cell (p := ⟨gv, ov + jy * 3, none⟩) hgv).trans (hvc jy hjy).1
  have zx : NX.size ≤ 16 := by rw [hNX, size_toList]; exact hn _ (List.getElem_mem hjx)
  have zy : NY.size ≤ 16 := by rw [hNY, size_toList]; exact hn _ (List.getElem_mem hjy)
  have HNX : Hid (NX.data.toList = Md.nm vars (jx : Int)) := by rw [hNX]; exact hnx.symm
  have HNY : Hid (NY.data.toList = Md.nm vars (jy : Int)) := by rw [hNY]; exact hny.symm
  have hjxI : (jx : Int) < (vars.length : Int) := by omega
  have hjyI : (jy : Int) < (vars.length : Int) := by omega
  obtain ⟨DK, hDK⟩ : ∃ DK : ByteArray, DK = ⟨(itoa k).toArray⟩ := ⟨_, rfl⟩
  have zk : DK.size ≤ 21 := by rw [hDK, size_mk]; exact Md.itoa_len hk
  have HDK : Hid (DK.data.toList = itoa k) := by rw [hDK]; show _ = _; simp
  have HCk : Hid (∀ w', Calls Tryz.prog 19 #[.int .i64 k] w' fun e w'' => e = .returned (.string DK) ∧ Below w'.heap.size w' w'') := fun w' => by rw [hDK]; exact digits_any k w' hk
  obtain ⟨NS, hNS⟩ : ∃ NS : ByteArray, NS = ⟨(Md.namesT vars xs).toArray⟩ := ⟨_, rfl⟩
  have zn : NS.size ≤ 1408 := by rw [hNS, size_mk]; have := namesT_len hn hxn; omega
  have HNS : Hid (NS.data.toList = Md.namesT vars xs) := by rw [hNS]; show _ = _; simp
  have HCn : Hid (∀ w', Below W.heap.size W w' → Calls Tryz.prog 50 #[.agg #[.slice (some ⟨gv, ov, none⟩) vars.length ycap, vc, .bool hb, vg], .slice xa xs.length xc] w' fun e w'' => e = .returned (.string NS) ∧ Below w'.heap.size w' w'') := fun w' hbw => by rw [hNS]; exact tqNames_any vars _ vc vg hb _ xs w' (hV.below (HB0.out.trans (hbw.mono HB0.out.size))) hn (hxs.below (HB0.out.trans (hbw.mono HB0.out.size))) hxn hxl
  obtain ⟨sx, hsx⟩ : ∃ s : ByteArray, s = (⟨#[32]⟩ : ByteArray) ++ NX := ⟨_, rfl⟩
  have zsx : sx.size ≤ 24 := by rw [hsx, ByteArray.size_append]; have q0 : (⟨#[32]⟩ : ByteArray).size ≤ 8 := (by decide); omega
  have asx := add_str hsx (by have q0 : (⟨#[32]⟩ : ByteArray).size ≤ 8 := (by decide); omega)
  obtain ⟨sy, hsy⟩ : ∃ s : ByteArray, s = (⟨#[32]⟩ : ByteArray) ++ NY := ⟨_, rfl⟩
  have zsy : sy.size ≤ 24 := by rw [hsy, ByteArray.size_append]; have q0 : (⟨#[32]⟩ : ByteArray).size ≤ 8 := (by decide); omega
  have asy := add_str hsy (by have q0 : (⟨#[32]⟩ : ByteArray).size ≤ 8 := (by decide); omega)
  obtain ⟨sk, hsk⟩ : ∃ s : ByteArray, s = (⟨#[32]⟩ : ByteArray) ++ DK := ⟨_, rfl⟩
  have zsk : sk.size ≤ 29 := by rw [hsk, ByteArray.size_append]; have q0 : (⟨#[32]⟩ : ByteArray).size ≤ 8 := (by decide); omega
  have ask := add_str hsk (by have q0 : (⟨#[32]⟩ : ByteArray).size ≤ 8 := (by decide); omega)
  obtain ⟨p1, hp1⟩ : ∃ s : ByteArray, s = (⟨#[109, 97, 120]⟩ : ByteArray) ++ sy := ⟨_, rfl⟩
  have zp1 : p1.size ≤ 32 := by rw [hp1, ByteArray.size_append]; have q0 : (⟨#[109, 97, 120]⟩ : ByteArray).size ≤ 8 := (by decide); omega
  have ap1 := add_str hp1 (by have q0 : (⟨#[109, 97, 120]⟩ : ByteArray).size ≤ 8 := (by decide); omega)
  obtain ⟨R, hR⟩ : ∃ s : ByteArray, s = p1 ++ NS := ⟨_, rfl⟩
  have zR : R.size ≤ 1440 := by rw [hR, ByteArray.size_append]; omega
  have aR := add_str hR (by omega)
  have HE : Hid (R.data.toList = (⟨#[109, 97, 120]⟩ : ByteArray).data.toList ++ (32 :: Md.nm vars (jy : Int)) ++ Md.namesT vars xs) := by
    show _ = _
    rw [hR, hp1, hsy]
    simp [HNY.out, HNS.out]
  have HF : Hid (R = ⟨((⟨#[109, 97, 120]⟩ : ByteArray).data.toList ++ (32 :: Md.nm vars (jy : Int)) ++ Md.namesT vars xs).toArray⟩) := mk_toList R HE.out
  clear hx hy hk hv hn hV hvc hnx hny hNX hNY hDK hNS hxs hxn hxl hsx hsy hsk hp1 hR  HOm HOc
  go_enter Tryz.func20, Tryz.ntmps20
  go_wp2_with fail
  try rw [hW]
  clear hW
  go_cut [5, 6, 7] from 10 to 29 (fun xv yv kv wx => xv = .string sx ∧ yv = .string sy ∧ kv = .string sk ∧ Hid (Below W.heap.size W wx))
  case first =>
    go_region_held3 (fun w' => w'.cell? ⟨w.heap.size, 0, none⟩ = some (.slice (some ⟨gv, ov, none⟩) vars.length ycap) ∧ w'.cell? ⟨w.heap.size, 1, none⟩ = some vc ∧ w'.cell? ⟨w.heap.size, 2, none⟩ = some (.bool hb) ∧ w'.cell? ⟨w.heap.size, 3, none⟩ = some vg ∧ w'.cell? ⟨w.heap.size + 1, 0, none⟩ = some (.int .i64 5) ∧ w'.cell? ⟨w.heap.size + 1, 1, none⟩ = some (.int .i64 op) ∧ w'.cell? ⟨w.heap.size + 1, 2, none⟩ = some (vt) ∧ w'.cell? ⟨w.heap.size + 1, 3, none⟩ = some (.int .i64 k) ∧ w'.cell? ⟨w.heap.size + 1, 4, none⟩ = some (.int .i64 v) ∧ w'.cell? ⟨w.heap.size + 1, 5, none⟩ = some (.int .i64 (jx : Int)) ∧ w'.cell? ⟨w.heap.size + 1, 6, none⟩ = some (.int .i64 (jy : Int)) ∧ w'.cell? ⟨w.heap.size + 1, 7, none⟩ = some (.slice xa xs.length xc) ∧ w'.cell? ⟨w.heap.size + 1, 8, none⟩ = some (vb) ∧ w'.cell? ⟨w.heap.size + 1, 9, none⟩ = some (vr) ∧ w'.cell? ⟨gv, ov + jx * 3, none⟩ = some (.string NX) ∧ w'.cell? ⟨gv, ov + jy * 3, none⟩ = some (.string NY) ∧ Below W.heap.size W w')
      (first | exact HSc.out _ (Below.refl _ _).drew | exact HSc.out _ ((Below.refl _ _).drew.trans hb2) | assumption)
      (first | (go_at_call 19; refine calls_at (HCk.out _) (by with_reducible rfl) (by with_reducible rfl) ?_; rintro e w2 ⟨rfl, hb2⟩))
    all_goals
      have HB2 : Hid (Below W.heap.size W w2) := And.right (And.right (And.right (And.right (And.right (And.right (And.right (And.right (And.right (And.right (And.right (And.right (And.right (And.right (And.right (And.right (by assumption))))))))))))))))
      go_wp2_with fail
      go_meet
      case rel => exact ⟨rfl, rfl, rfl, HB2⟩
  case rest =>
    obtain ⟨rfl, rfl, rfl, hBc⟩ := hcut
    rename World => wq
    obtain ⟨m0, m1, m2, m3, c0, c1, c2, c3, c4, c5, c6, c7, c8, c9, nx, ny, _⟩ := HSc.out wq hBc.out
    go_wp2_with (first | (go_at_call 50; refine calls_at (HCn.out wq hBc.out) (by with_reducible rfl) (by with_reducible rfl) ?_; rintro e w3 ⟨rfl, hb3⟩; have HB3 : Hid (Below W.heap.size W w3) := hBc.out.trans (hb3.mono hBc.out.size)))
    go_ret
    exact ⟨congrArg (fun x => Ending.returned (.string x)) HF.out, HB0.out.trans (HB3.out.mono HB0.out.size)⟩

set_option maxHeartbeats 4000000 in
set_option maxRecDepth 100000 in
theorem doc_6 (vars : List Md.Vr) (vv vc vg : Value) (hb : Bool) (op : Int) (vt : Value) (k v x y : Int) (vx vb vr : Value) (w : World) (hV : VarsAt w vv vars) (hn : ∀ v ∈ vars, v.name.data.toList.length ≤ 16) (hx : 0 ≤ x ∧ x < (vars.length : Int)) (hy : 0 ≤ y ∧ y < (vars.length : Int)) (hk : -1000000000 ≤ k ∧ k ≤ 1000000000) (hv : -1000000000 ≤ v ∧ v ≤ 1000000000) {xs : List Int} (hxs : IntsAt w vx xs) (hxn : ∀ x ∈ xs, 0 ≤ x ∧ x < (vars.length : Int)) (hxl : xs.length ≤ 64) :
    Calls Tryz.prog 20 #[.agg #[vv, vc, .bool hb, vg], .agg #[.int .i64 6, .int .i64 op, vt, .int .i64 k, .int .i64 v, .int .i64 x, .int .i64 y, vx, vb, vr]] w fun e w' => e = .returned (.string ⟨((⟨#[109, 105, 110]⟩ : ByteArray).data.toList ++ (32 :: Md.nm vars y) ++ Md.namesT vars xs).toArray⟩) ∧ Below w.heap.size w w' := by
  have _ := hv
  obtain ⟨ya, ycap, rfl, hym⟩ := hV.form
  obtain ⟨xa, xc, rfl, _⟩ := hxs.form
  unfold maxLen at hym
  obtain ⟨W, hW⟩ : ∃ W, (w.alloc (.cells #[.slice ya vars.length ycap, vc, .bool hb, vg] 26)).alloc (.cells #[.int .i64 6, .int .i64 op, vt, .int .i64 k, .int .i64 v, .int .i64 x, .int .i64 y, .slice xa xs.length xc, vb, vr] 64) = W := ⟨_, rfl⟩
  have HB0 : Hid (Below w.heap.size w W) := (two_boxes hW).1
  have HOm : Hid (W.heap[w.heap.size]? = some (.cells #[.slice ya vars.length ycap, vc, .bool hb, vg] 26 (0, 0))) := (two_boxes hW).2.1
  have HOc : Hid (W.heap[w.heap.size + 1]? = some (.cells #[.int .i64 6, .int .i64 op, vt, .int .i64 k, .int .i64 v, .int .i64 x, .int .i64 y, .slice xa xs.length xc, vb, vr] 64 (0, 0))) := (two_boxes hW).2.2
  obtain ⟨jx, hjx, rfl, hnx⟩ := nm_get hx.1 hx.2
  obtain ⟨jy, hjy, rfl, hny⟩ := nm_get hy.1 hy.2
  obtain ⟨_, _, hvv, _, _, hyc⟩ := id hV
  injection hvv with e1 _ e3
  subst e3
  subst e1
  obtain ⟨gv, ov, rfl, hgv, hvc⟩ := hyc (by omega)
  obtain ⟨NX, hNX⟩ : ∃ NX, NX = vars[jx].name := ⟨_, rfl⟩
  obtain ⟨NY, hNY⟩ : ∃ NY, NY = vars[jy].name := ⟨_, rfl⟩
  have HSc : Hid (∀ w', Below W.heap.size W w' → w'.cell? ⟨w.heap.size, 0, none⟩ = some (.slice (some ⟨gv, ov, none⟩) vars.length ycap) ∧ w'.cell? ⟨w.heap.size, 1, none⟩ = some vc ∧ w'.cell? ⟨w.heap.size, 2, none⟩ = some (.bool hb) ∧ w'.cell? ⟨w.heap.size, 3, none⟩ = some vg ∧ w'.cell? ⟨w.heap.size + 1, 0, none⟩ = some (.int .i64 6) ∧ w'.cell? ⟨w.heap.size + 1, 1, none⟩ = some (.int .i64 op) ∧ w'.cell? ⟨w.heap.size + 1, 2, none⟩ = some (vt) ∧ w'.cell? ⟨w.heap.size + 1, 3, none⟩ = some (.int .i64 k) ∧ w'.cell? ⟨w.heap.size + 1, 4, none⟩ = some (.int .i64 v) ∧ w'.cell? ⟨w.heap.size + 1, 5, none⟩ = some (.int .i64 (jx : Int)) ∧ w'.cell? ⟨w.heap.size + 1, 6, none⟩ = some (.int .i64 (jy : Int)) ∧ w'.cell? ⟨w.heap.size + 1, 7, none⟩ = some (.slice xa xs.length xc) ∧ w'.cell? ⟨w.heap.size + 1, 8, none⟩ = some (vb) ∧ w'.cell? ⟨w.heap.size + 1, 9, none⟩ = some (vr) ∧ w'.cell? ⟨gv, ov + jx * 3, none⟩ = some (.string NX) ∧ w'.cell? ⟨gv, ov + jy * 3, none⟩ = some (.string NY) ∧ Below W.heap.size W w') := fun w' hbw => by
    have hw : Below w.heap.size w w' := HB0.out.trans (hbw.mono HB0.out.size)
    have h1 : w'.heap[w.heap.size]? = some (.cells #[.slice (some ⟨gv, ov, none⟩) vars.length ycap, vc, .bool hb, vg] 26) := (hbw.block w.heap.size (Array.getElem?_eq_some_iff.1 HOm.out).1).trans HOm.out
    have h2 : w'.heap[w.heap.size + 1]? = some (.cells #[.int .i64 6, .int .i64 op, vt, .int .i64 k, .int .i64 v, .int .i64 (jx : Int), .int .i64 (jy : Int), .slice xa xs.length xc, vb, vr] 64) := (hbw.block _ (Array.getElem?_eq_some_iff.1 HOc.out).1).trans HOc.out
    refine ⟨?_, ?_, ?_, ?_, ?_, ?_, ?_, ?_, ?_, ?_, ?_, ?_, ?_, ?_, ?_, ?_, hbw⟩
    · rw [Lib.cell_of_heap h1]; rfl
    · rw [Lib.cell_of_heap h1]; rfl
    · rw [Lib.cell_of_heap h1]; rfl
    · rw [Lib.cell_of_heap h1]; rfl
    · rw [Lib.cell_of_heap h2]; rfl
    · rw [Lib.cell_of_heap h2]; rfl
    · rw [Lib.cell_of_heap h2]; rfl
    · rw [Lib.cell_of_heap h2]; rfl
    · rw [Lib.cell_of_heap h2]; rfl
    · rw [Lib.cell_of_heap h2]; rfl
    · rw [Lib.cell_of_heap h2]; rfl
    · rw [Lib.cell_of_heap h2]; rfl
    · rw [Lib.cell_of_heap h2]; rfl
    · rw [Lib.cell_of_heap h2]; rfl
    · rw [hNX]; exact (hw.cell (p := ⟨gv, ov + jx * 3, none⟩) hgv).trans (hvc jx hjx).1
    · rw [hNY]; exact (hw.cell (p := ⟨gv, ov + jy * 3, none⟩) hgv).trans (hvc jy hjy).1
  have zx : NX.size ≤ 16 := by rw [hNX, size_toList]; exact hn _ (List.getElem_mem hjx)
  have zy : NY.size ≤ 16 := by rw [hNY, size_toList]; exact hn _ (List.getElem_mem hjy)
  have HNX : Hid (NX.data.toList = Md.nm vars (jx : Int)) := by rw [hNX]; exact hnx.symm
  have HNY : Hid (NY.data.toList = Md.nm vars (jy : Int)) := by rw [hNY]; exact hny.symm
  have hjxI : (jx : Int) < (vars.length : Int) := by omega
  have hjyI : (jy : Int) < (vars.length : Int) := by omega
  obtain ⟨DK, hDK⟩ : ∃ DK : ByteArray, DK = ⟨(itoa k).toArray⟩ := ⟨_, rfl⟩
  have zk : DK.size ≤ 21 := by rw [hDK, size_mk]; exact Md.itoa_len hk
  have HDK : Hid (DK.data.toList = itoa k) := by rw [hDK]; show _ = _; simp
  have HCk : Hid (∀ w', Calls Tryz.prog 19 #[.int .i64 k] w' fun e w'' => e = .returned (.string DK) ∧ Below w'.heap.size w' w'') := fun w' => by rw [hDK]; exact digits_any k w' hk
  obtain ⟨NS, hNS⟩ : ∃ NS : ByteArray, NS = ⟨(Md.namesT vars xs).toArray⟩ := ⟨_, rfl⟩
  have zn : NS.size ≤ 1408 := by rw [hNS, size_mk]; have := namesT_len hn hxn; omega
  have HNS : Hid (NS.data.toList = Md.namesT vars xs) := by rw [hNS]; show _ = _; simp
  have HCn : Hid (∀ w', Below W.heap.size W w' → Calls Tryz.prog 50 #[.agg #[.slice (some ⟨gv, ov, none⟩) vars.length ycap, vc, .bool hb, vg], .slice xa xs.length xc] w' fun e w'' => e = .returned (.string NS) ∧ Below w'.heap.size w' w'') := fun w' hbw => by rw [hNS]; exact tqNames_any vars _ vc vg hb _ xs w' (hV.below (HB0.out.trans (hbw.mono HB0.out.size))) hn (hxs.below (HB0.out.trans (hbw.mono HB0.out.size))) hxn hxl
  obtain ⟨sx, hsx⟩ : ∃ s : ByteArray, s = (⟨#[32]⟩ : ByteArray) ++ NX := ⟨_, rfl⟩
  have zsx : sx.size ≤ 24 := by rw [hsx, ByteArray.size_append]; have q0 : (⟨#[32]⟩ : ByteArray).size ≤ 8 := (by decide); omega
  have asx := add_str hsx (by have q0 : (⟨#[32]⟩ : ByteArray).size ≤ 8 := (by decide); omega)
  obtain ⟨sy, hsy⟩ : ∃ s : ByteArray, s = (⟨#[32]⟩ : ByteArray) ++ NY := ⟨_, rfl⟩
  have zsy : sy.size ≤ 24 := by rw [hsy, ByteArray.size_append]; have q0 : (⟨#[32]⟩ : ByteArray).size ≤ 8 := (by decide); omega
  have asy := add_str hsy (by have q0 : (⟨#[32]⟩ : ByteArray).size ≤ 8 := (by decide); omega)
  obtain ⟨sk, hsk⟩ : ∃ s : ByteArray, s = (⟨#[32]⟩ : ByteArray) ++ DK := ⟨_, rfl⟩
  have zsk : sk.size ≤ 29 := by rw [hsk, ByteArray.size_append]; have q0 : (⟨#[32]⟩ : ByteArray).size ≤ 8 := (by decide); omega
  have ask := add_str hsk (by have q0 : (⟨#[32]⟩ : ByteArray).size ≤ 8 := (by decide); omega)
  obtain ⟨p1, hp1⟩ : ∃ s : ByteArray, s = (⟨#[109, 105, 110]⟩ : ByteArray) ++ sy := ⟨_, rfl⟩
  have zp1 : p1.size ≤ 32 := by rw [hp1, ByteArray.size_append]; have q0 : (⟨#[109, 105, 110]⟩ : ByteArray).size ≤ 8 := (by decide); omega
  have ap1 := add_str hp1 (by have q0 : (⟨#[109, 105, 110]⟩ : ByteArray).size ≤ 8 := (by decide); omega)
  obtain ⟨R, hR⟩ : ∃ s : ByteArray, s = p1 ++ NS := ⟨_, rfl⟩
  have zR : R.size ≤ 1440 := by rw [hR, ByteArray.size_append]; omega
  have aR := add_str hR (by omega)
  have HE : Hid (R.data.toList = (⟨#[109, 105, 110]⟩ : ByteArray).data.toList ++ (32 :: Md.nm vars (jy : Int)) ++ Md.namesT vars xs) := by
    show _ = _
    rw [hR, hp1, hsy]
    simp [HNY.out, HNS.out]
  have HF : Hid (R = ⟨((⟨#[109, 105, 110]⟩ : ByteArray).data.toList ++ (32 :: Md.nm vars (jy : Int)) ++ Md.namesT vars xs).toArray⟩) := mk_toList R HE.out
  clear hx hy hk hv hn hV hvc hnx hny hNX hNY hDK hNS hxs hxn hxl hsx hsy hsk hp1 hR  HOm HOc
  go_enter Tryz.func20, Tryz.ntmps20
  go_wp2_with fail
  try rw [hW]
  clear hW
  go_cut [5, 6, 7] from 10 to 29 (fun xv yv kv wx => xv = .string sx ∧ yv = .string sy ∧ kv = .string sk ∧ Hid (Below W.heap.size W wx))
  case first =>
    go_region_held3 (fun w' => w'.cell? ⟨w.heap.size, 0, none⟩ = some (.slice (some ⟨gv, ov, none⟩) vars.length ycap) ∧ w'.cell? ⟨w.heap.size, 1, none⟩ = some vc ∧ w'.cell? ⟨w.heap.size, 2, none⟩ = some (.bool hb) ∧ w'.cell? ⟨w.heap.size, 3, none⟩ = some vg ∧ w'.cell? ⟨w.heap.size + 1, 0, none⟩ = some (.int .i64 6) ∧ w'.cell? ⟨w.heap.size + 1, 1, none⟩ = some (.int .i64 op) ∧ w'.cell? ⟨w.heap.size + 1, 2, none⟩ = some (vt) ∧ w'.cell? ⟨w.heap.size + 1, 3, none⟩ = some (.int .i64 k) ∧ w'.cell? ⟨w.heap.size + 1, 4, none⟩ = some (.int .i64 v) ∧ w'.cell? ⟨w.heap.size + 1, 5, none⟩ = some (.int .i64 (jx : Int)) ∧ w'.cell? ⟨w.heap.size + 1, 6, none⟩ = some (.int .i64 (jy : Int)) ∧ w'.cell? ⟨w.heap.size + 1, 7, none⟩ = some (.slice xa xs.length xc) ∧ w'.cell? ⟨w.heap.size + 1, 8, none⟩ = some (vb) ∧ w'.cell? ⟨w.heap.size + 1, 9, none⟩ = some (vr) ∧ w'.cell? ⟨gv, ov + jx * 3, none⟩ = some (.string NX) ∧ w'.cell? ⟨gv, ov + jy * 3, none⟩ = some (.string NY) ∧ Below W.heap.size W w')
      (first | exact HSc.out _ (Below.refl _ _).drew | exact HSc.out _ ((Below.refl _ _).drew.trans hb2) | assumption)
      (first | (go_at_call 19; refine calls_at (HCk.out _) (by with_reducible rfl) (by with_reducible rfl) ?_; rintro e w2 ⟨rfl, hb2⟩))
    all_goals
      have HB2 : Hid (Below W.heap.size W w2) := And.right (And.right (And.right (And.right (And.right (And.right (And.right (And.right (And.right (And.right (And.right (And.right (And.right (And.right (And.right (And.right (by assumption))))))))))))))))
      go_wp2_with fail
      go_meet
      case rel => exact ⟨rfl, rfl, rfl, HB2⟩
  case rest =>
    obtain ⟨rfl, rfl, rfl, hBc⟩ := hcut
    rename World => wq
    obtain ⟨m0, m1, m2, m3, c0, c1, c2, c3, c4, c5, c6, c7, c8, c9, nx, ny, _⟩ := HSc.out wq hBc.out
    go_wp2_with (first | (go_at_call 50; refine calls_at (HCn.out wq hBc.out) (by with_reducible rfl) (by with_reducible rfl) ?_; rintro e w3 ⟨rfl, hb3⟩; have HB3 : Hid (Below W.heap.size W w3) := hBc.out.trans (hb3.mono hBc.out.size)))
    go_ret
    exact ⟨congrArg (fun x => Ending.returned (.string x)) HF.out, HB0.out.trans (HB3.out.mono HB0.out.size)⟩

set_option maxHeartbeats 4000000 in
set_option maxRecDepth 100000 in
theorem doc_7 (vars : List Md.Vr) (vv vc vg : Value) (hb : Bool) (op : Int) (vt : Value) (k v x y : Int) (vx vb vr : Value) (w : World) (hV : VarsAt w vv vars) (hn : ∀ v ∈ vars, v.name.data.toList.length ≤ 16) (hx : 0 ≤ x ∧ x < (vars.length : Int)) (hy : 0 ≤ y ∧ y < (vars.length : Int)) (hk : -1000000000 ≤ k ∧ k ≤ 1000000000) (hv : -1000000000 ≤ v ∧ v ≤ 1000000000) {ts : List (Int × Int)} (hts : TermsAt w vt ts) (htx : ∀ t ∈ ts, 0 ≤ t.2 ∧ t.2 < (vars.length : Int)) (htc : ∀ t ∈ ts, -1000000 ≤ t.1 ∧ t.1 ≤ 1000000) (htl : ts.length ≤ 64) :
    Calls Tryz.prog 20 #[.agg #[vv, vc, .bool hb, vg], .agg #[.int .i64 7, .int .i64 op, vt, .int .i64 k, .int .i64 v, .int .i64 x, .int .i64 y, vx, vb, vr]] w fun e w' => e = .returned (.string ⟨((⟨#[114, 101, 105, 102]⟩ : ByteArray).data.toList ++ (32 :: Md.nm vars x) ++ (⟨#[32, 60, 61]⟩ : ByteArray).data.toList ++ (32 :: itoa k) ++ Md.sumT vars ts).toArray⟩) ∧ Below w.heap.size w w' := by
  have _ := hv
  obtain ⟨ya, ycap, rfl, hym⟩ := hV.form
  obtain ⟨ta, tc, rfl, _⟩ := hts.form
  unfold maxLen at hym
  obtain ⟨W, hW⟩ : ∃ W, (w.alloc (.cells #[.slice ya vars.length ycap, vc, .bool hb, vg] 26)).alloc (.cells #[.int .i64 7, .int .i64 op, .slice ta ts.length tc, .int .i64 k, .int .i64 v, .int .i64 x, .int .i64 y, vx, vb, vr] 64) = W := ⟨_, rfl⟩
  have HB0 : Hid (Below w.heap.size w W) := (two_boxes hW).1
  have HOm : Hid (W.heap[w.heap.size]? = some (.cells #[.slice ya vars.length ycap, vc, .bool hb, vg] 26 (0, 0))) := (two_boxes hW).2.1
  have HOc : Hid (W.heap[w.heap.size + 1]? = some (.cells #[.int .i64 7, .int .i64 op, .slice ta ts.length tc, .int .i64 k, .int .i64 v, .int .i64 x, .int .i64 y, vx, vb, vr] 64 (0, 0))) := (two_boxes hW).2.2
  obtain ⟨jx, hjx, rfl, hnx⟩ := nm_get hx.1 hx.2
  obtain ⟨jy, hjy, rfl, hny⟩ := nm_get hy.1 hy.2
  obtain ⟨_, _, hvv, _, _, hyc⟩ := id hV
  injection hvv with e1 _ e3
  subst e3
  subst e1
  obtain ⟨gv, ov, rfl, hgv, hvc⟩ := hyc (by omega)
  obtain ⟨NX, hNX⟩ : ∃ NX, NX = vars[jx].name := ⟨_, rfl⟩
  obtain ⟨NY, hNY⟩ : ∃ NY, NY = vars[jy].name := ⟨_, rfl⟩
  have HSc : Hid (∀ w', Below W.heap.size W w' → w'.cell? ⟨w.heap.size, 0, none⟩ = some (.slice (some ⟨gv, ov, none⟩) vars.length ycap) ∧ w'.cell? ⟨w.heap.size, 1, none⟩ = some vc ∧ w'.cell? ⟨w.heap.size, 2, none⟩ = some (.bool hb) ∧ w'.cell? ⟨w.heap.size, 3, none⟩ = some vg ∧ w'.cell? ⟨w.heap.size + 1, 0, none⟩ = some (.int .i64 7) ∧ w'.cell? ⟨w.heap.size + 1, 1, none⟩ = some (.int .i64 op) ∧ w'.cell? ⟨w.heap.size + 1, 2, none⟩ = some (.slice ta ts.length tc) ∧ w'.cell? ⟨w.heap.size + 1, 3, none⟩ = some (.int .i64 k) ∧ w'.cell? ⟨w.heap.size + 1, 4, none⟩ = some (.int .i64 v) ∧ w'.cell? ⟨w.heap.size + 1, 5, none⟩ = some (.int .i64 (jx : Int)) ∧ w'.cell? ⟨w.heap.size + 1, 6, none⟩ = some (.int .i64 (jy : Int)) ∧ w'.cell? ⟨w.heap.size + 1, 7, none⟩ = some (vx) ∧ w'.cell? ⟨w.heap.size + 1, 8, none⟩ = some (vb) ∧ w'.cell? ⟨w.heap.size + 1, 9, none⟩ = some (vr) ∧ w'.cell? ⟨gv, ov + jx * 3, none⟩ = some (.string NX) ∧ w'.cell? ⟨gv, ov + jy * 3, none⟩ = some (.string NY) ∧ Below W.heap.size W w') := fun w' hbw => by
    have hw : Below w.heap.size w w' := HB0.out.trans (hbw.mono HB0.out.size)
    have h1 : w'.heap[w.heap.size]? = some (.cells #[.slice (some ⟨gv, ov, none⟩) vars.length ycap, vc, .bool hb, vg] 26) := (hbw.block w.heap.size (Array.getElem?_eq_some_iff.1 HOm.out).1).trans HOm.out
    have h2 : w'.heap[w.heap.size + 1]? = some (.cells #[.int .i64 7, .int .i64 op, .slice ta ts.length tc, .int .i64 k, .int .i64 v, .int .i64 (jx : Int), .int .i64 (jy : Int), vx, vb, vr] 64) := (hbw.block _ (Array.getElem?_eq_some_iff.1 HOc.out).1).trans HOc.out
    refine ⟨?_, ?_, ?_, ?_, ?_, ?_, ?_, ?_, ?_, ?_, ?_, ?_, ?_, ?_, ?_, ?_, hbw⟩
    · rw [Lib.cell_of_heap h1]; rfl
    · rw [Lib.cell_of_heap h1]; rfl
    · rw [Lib.cell_of_heap h1]; rfl
    · rw [Lib.cell_of_heap h1]; rfl
    · rw [Lib.cell_of_heap h2]; rfl
    · rw [Lib.cell_of_heap h2]; rfl
    · rw [Lib.cell_of_heap h2]; rfl
    · rw [Lib.cell_of_heap h2]; rfl
    · rw [Lib.cell_of_heap h2]; rfl
    · rw [Lib.cell_of_heap h2]; rfl
    · rw [Lib.cell_of_heap h2]; rfl
    · rw [Lib.cell_of_heap h2]; rfl
    · rw [Lib.cell_of_heap h2]; rfl
    · rw [Lib.cell_of_heap h2]; rfl
    · rw [hNX]; exact (hw.cell (p := ⟨gv, ov + jx * 3, none⟩) hgv).trans (hvc jx hjx).1
    · rw [hNY]; exact (hw.cell (p := ⟨gv, ov + jy * 3, none⟩) hgv).trans (hvc jy hjy).1
  have zx : NX.size ≤ 16 := by rw [hNX, size_toList]; exact hn _ (List.getElem_mem hjx)
  have zy : NY.size ≤ 16 := by rw [hNY, size_toList]; exact hn _ (List.getElem_mem hjy)
  have HNX : Hid (NX.data.toList = Md.nm vars (jx : Int)) := by rw [hNX]; exact hnx.symm
  have HNY : Hid (NY.data.toList = Md.nm vars (jy : Int)) := by rw [hNY]; exact hny.symm
  have hjxI : (jx : Int) < (vars.length : Int) := by omega
  have hjyI : (jy : Int) < (vars.length : Int) := by omega
  obtain ⟨DK, hDK⟩ : ∃ DK : ByteArray, DK = ⟨(itoa k).toArray⟩ := ⟨_, rfl⟩
  have zk : DK.size ≤ 21 := by rw [hDK, size_mk]; exact Md.itoa_len hk
  have HDK : Hid (DK.data.toList = itoa k) := by rw [hDK]; show _ = _; simp
  have HCk : Hid (∀ w', Calls Tryz.prog 19 #[.int .i64 k] w' fun e w'' => e = .returned (.string DK) ∧ Below w'.heap.size w' w'') := fun w' => by rw [hDK]; exact digits_any k w' hk
  obtain ⟨SM, hSM⟩ : ∃ SM : ByteArray, SM = ⟨(Md.sumT vars ts).toArray⟩ := ⟨_, rfl⟩
  have zs : SM.size ≤ 2816 := by rw [hSM, size_mk]; have := sumT_len hn htx htc; omega
  have HSM : Hid (SM.data.toList = Md.sumT vars ts) := by rw [hSM]; show _ = _; simp
  have HCs : Hid (∀ w', Below W.heap.size W w' → Calls Tryz.prog 21 #[.agg #[.slice (some ⟨gv, ov, none⟩) vars.length ycap, vc, .bool hb, vg], .slice ta ts.length tc] w' fun e w'' => e = .returned (.string SM) ∧ Below w'.heap.size w' w'') := fun w' hbw => by rw [hSM]; exact tqSum_any vars _ vc vg hb _ ts w' (hV.below (HB0.out.trans (hbw.mono HB0.out.size))) hn (hts.below (HB0.out.trans (hbw.mono HB0.out.size))) htx htc htl
  obtain ⟨sx, hsx⟩ : ∃ s : ByteArray, s = (⟨#[32]⟩ : ByteArray) ++ NX := ⟨_, rfl⟩
  have zsx : sx.size ≤ 24 := by rw [hsx, ByteArray.size_append]; have q0 : (⟨#[32]⟩ : ByteArray).size ≤ 8 := (by decide); omega
  have asx := add_str hsx (by have q0 : (⟨#[32]⟩ : ByteArray).size ≤ 8 := (by decide); omega)
  obtain ⟨sy, hsy⟩ : ∃ s : ByteArray, s = (⟨#[32]⟩ : ByteArray) ++ NY := ⟨_, rfl⟩
  have zsy : sy.size ≤ 24 := by rw [hsy, ByteArray.size_append]; have q0 : (⟨#[32]⟩ : ByteArray).size ≤ 8 := (by decide); omega
  have asy := add_str hsy (by have q0 : (⟨#[32]⟩ : ByteArray).size ≤ 8 := (by decide); omega)
  obtain ⟨sk, hsk⟩ : ∃ s : ByteArray, s = (⟨#[32]⟩ : ByteArray) ++ DK := ⟨_, rfl⟩
  have zsk : sk.size ≤ 29 := by rw [hsk, ByteArray.size_append]; have q0 : (⟨#[32]⟩ : ByteArray).size ≤ 8 := (by decide); omega
  have ask := add_str hsk (by have q0 : (⟨#[32]⟩ : ByteArray).size ≤ 8 := (by decide); omega)
  obtain ⟨p1, hp1⟩ : ∃ s : ByteArray, s = (⟨#[114, 101, 105, 102]⟩ : ByteArray) ++ sx := ⟨_, rfl⟩
  have zp1 : p1.size ≤ 32 := by rw [hp1, ByteArray.size_append]; have q0 : (⟨#[114, 101, 105, 102]⟩ : ByteArray).size ≤ 8 := (by decide); omega
  have ap1 := add_str hp1 (by have q0 : (⟨#[114, 101, 105, 102]⟩ : ByteArray).size ≤ 8 := (by decide); omega)
  obtain ⟨p2, hp2⟩ : ∃ s : ByteArray, s = p1 ++ (⟨#[32, 60, 61]⟩ : ByteArray) := ⟨_, rfl⟩
  have zp2 : p2.size ≤ 40 := by rw [hp2, ByteArray.size_append]; have q0 : (⟨#[32, 60, 61]⟩ : ByteArray).size ≤ 8 := (by decide); omega
  have ap2 := add_str hp2 (by have q0 : (⟨#[32, 60, 61]⟩ : ByteArray).size ≤ 8 := (by decide); omega)
  obtain ⟨p3, hp3⟩ : ∃ s : ByteArray, s = p2 ++ sk := ⟨_, rfl⟩
  have zp3 : p3.size ≤ 69 := by rw [hp3, ByteArray.size_append]; omega
  have ap3 := add_str hp3 (by omega)
  obtain ⟨R, hR⟩ : ∃ s : ByteArray, s = p3 ++ SM := ⟨_, rfl⟩
  have zR : R.size ≤ 2885 := by rw [hR, ByteArray.size_append]; omega
  have aR := add_str hR (by omega)
  have HE : Hid (R.data.toList = (⟨#[114, 101, 105, 102]⟩ : ByteArray).data.toList ++ (32 :: Md.nm vars (jx : Int)) ++ (⟨#[32, 60, 61]⟩ : ByteArray).data.toList ++ (32 :: itoa k) ++ Md.sumT vars ts) := by
    show _ = _
    rw [hR, hp3, hp2, hp1, hsx, hsk]
    simp [HNX.out, HDK.out, HSM.out]
  have HF : Hid (R = ⟨((⟨#[114, 101, 105, 102]⟩ : ByteArray).data.toList ++ (32 :: Md.nm vars (jx : Int)) ++ (⟨#[32, 60, 61]⟩ : ByteArray).data.toList ++ (32 :: itoa k) ++ Md.sumT vars ts).toArray⟩) := mk_toList R HE.out
  clear hx hy hk hv hn hV hvc hnx hny hNX hNY hDK hSM hts htx htc htl hsx hsy hsk hp1 hp2 hp3 hR  HOm HOc
  go_enter Tryz.func20, Tryz.ntmps20
  go_wp2_with fail
  try rw [hW]
  clear hW
  go_cut [5, 6, 7] from 10 to 29 (fun xv yv kv wx => xv = .string sx ∧ yv = .string sy ∧ kv = .string sk ∧ Hid (Below W.heap.size W wx))
  case first =>
    go_region_held3 (fun w' => w'.cell? ⟨w.heap.size, 0, none⟩ = some (.slice (some ⟨gv, ov, none⟩) vars.length ycap) ∧ w'.cell? ⟨w.heap.size, 1, none⟩ = some vc ∧ w'.cell? ⟨w.heap.size, 2, none⟩ = some (.bool hb) ∧ w'.cell? ⟨w.heap.size, 3, none⟩ = some vg ∧ w'.cell? ⟨w.heap.size + 1, 0, none⟩ = some (.int .i64 7) ∧ w'.cell? ⟨w.heap.size + 1, 1, none⟩ = some (.int .i64 op) ∧ w'.cell? ⟨w.heap.size + 1, 2, none⟩ = some (.slice ta ts.length tc) ∧ w'.cell? ⟨w.heap.size + 1, 3, none⟩ = some (.int .i64 k) ∧ w'.cell? ⟨w.heap.size + 1, 4, none⟩ = some (.int .i64 v) ∧ w'.cell? ⟨w.heap.size + 1, 5, none⟩ = some (.int .i64 (jx : Int)) ∧ w'.cell? ⟨w.heap.size + 1, 6, none⟩ = some (.int .i64 (jy : Int)) ∧ w'.cell? ⟨w.heap.size + 1, 7, none⟩ = some (vx) ∧ w'.cell? ⟨w.heap.size + 1, 8, none⟩ = some (vb) ∧ w'.cell? ⟨w.heap.size + 1, 9, none⟩ = some (vr) ∧ w'.cell? ⟨gv, ov + jx * 3, none⟩ = some (.string NX) ∧ w'.cell? ⟨gv, ov + jy * 3, none⟩ = some (.string NY) ∧ Below W.heap.size W w')
      (first | exact HSc.out _ (Below.refl _ _).drew | exact HSc.out _ ((Below.refl _ _).drew.trans hb2) | assumption)
      (first | (go_at_call 19; refine calls_at (HCk.out _) (by with_reducible rfl) (by with_reducible rfl) ?_; rintro e w2 ⟨rfl, hb2⟩))
    all_goals
      have HB2 : Hid (Below W.heap.size W w2) := And.right (And.right (And.right (And.right (And.right (And.right (And.right (And.right (And.right (And.right (And.right (And.right (And.right (And.right (And.right (And.right (by assumption))))))))))))))))
      go_wp2_with fail
      go_meet
      case rel => exact ⟨rfl, rfl, rfl, HB2⟩
  case rest =>
    obtain ⟨rfl, rfl, rfl, hBc⟩ := hcut
    rename World => wq
    obtain ⟨m0, m1, m2, m3, c0, c1, c2, c3, c4, c5, c6, c7, c8, c9, nx, ny, _⟩ := HSc.out wq hBc.out
    go_wp2_with (first | (go_at_call 21; refine calls_at (HCs.out wq hBc.out) (by with_reducible rfl) (by with_reducible rfl) ?_; rintro e w3 ⟨rfl, hb3⟩; have HB3 : Hid (Below W.heap.size W w3) := hBc.out.trans (hb3.mono hBc.out.size)))
    go_ret
    exact ⟨congrArg (fun x => Ending.returned (.string x)) HF.out, HB0.out.trans (HB3.out.mono HB0.out.size)⟩

set_option maxHeartbeats 4000000 in
set_option maxRecDepth 100000 in
theorem doc_8 (vars : List Md.Vr) (vv vc vg : Value) (hb : Bool) (op : Int) (vt : Value) (k v x y : Int) (vx vb vr : Value) (w : World) (hV : VarsAt w vv vars) (hn : ∀ v ∈ vars, v.name.data.toList.length ≤ 16) (hx : 0 ≤ x ∧ x < (vars.length : Int)) (hy : 0 ≤ y ∧ y < (vars.length : Int)) (hk : -1000000000 ≤ k ∧ k ≤ 1000000000) (hv : -1000000000 ≤ v ∧ v ≤ 1000000000) {xs : List Int} (hxs : IntsAt w vx xs) (hxn : ∀ x ∈ xs, 0 ≤ x ∧ x < (vars.length : Int)) (hxl : xs.length ≤ 64) {rs : List (List Int)} (hrs : RowsAt w vr rs) (hrn : ∀ r ∈ rs, r.length ≤ 64 ∧ ∀ x ∈ r, -1000000000 ≤ x ∧ x ≤ 1000000000) (hrl : rs.length ≤ 64) :
    Calls Tryz.prog 20 #[.agg #[vv, vc, .bool hb, vg], .agg #[.int .i64 8, .int .i64 op, vt, .int .i64 k, .int .i64 v, .int .i64 x, .int .i64 y, vx, vb, vr]] w fun e w' => e = .returned (.string ⟨((⟨#[116, 97, 98, 108, 101]⟩ : ByteArray).data.toList ++ Md.namesT vars xs ++ Md.rowsT rs).toArray⟩) ∧ Below w.heap.size w w' := by
  have _ := hv
  obtain ⟨ya, ycap, rfl, hym⟩ := hV.form
  obtain ⟨xa, xc, rfl, _⟩ := hxs.form
  obtain ⟨ra, rc, rfl, hrm⟩ := hrs.form
  unfold maxLen at hrm
  unfold maxLen at hym
  obtain ⟨W, hW⟩ : ∃ W, (w.alloc (.cells #[.slice ya vars.length ycap, vc, .bool hb, vg] 26)).alloc (.cells #[.int .i64 8, .int .i64 op, vt, .int .i64 k, .int .i64 v, .int .i64 x, .int .i64 y, .slice xa xs.length xc, vb, .slice ra rs.length rc] 64) = W := ⟨_, rfl⟩
  have HB0 : Hid (Below w.heap.size w W) := (two_boxes hW).1
  have HOm : Hid (W.heap[w.heap.size]? = some (.cells #[.slice ya vars.length ycap, vc, .bool hb, vg] 26 (0, 0))) := (two_boxes hW).2.1
  have HOc : Hid (W.heap[w.heap.size + 1]? = some (.cells #[.int .i64 8, .int .i64 op, vt, .int .i64 k, .int .i64 v, .int .i64 x, .int .i64 y, .slice xa xs.length xc, vb, .slice ra rs.length rc] 64 (0, 0))) := (two_boxes hW).2.2
  obtain ⟨jx, hjx, rfl, hnx⟩ := nm_get hx.1 hx.2
  obtain ⟨jy, hjy, rfl, hny⟩ := nm_get hy.1 hy.2
  obtain ⟨_, _, hvv, _, _, hyc⟩ := id hV
  injection hvv with e1 _ e3
  subst e3
  subst e1
  obtain ⟨gv, ov, rfl, hgv, hvc⟩ := hyc (by omega)
  obtain ⟨NX, hNX⟩ : ∃ NX, NX = vars[jx].name := ⟨_, rfl⟩
  obtain ⟨NY, hNY⟩ : ∃ NY, NY = vars[jy].name := ⟨_, rfl⟩
  have HSc : Hid (∀ w', Below W.heap.size W w' → w'.cell? ⟨w.heap.size, 0, none⟩ = some (.slice (some ⟨gv, ov, none⟩) vars.length ycap) ∧ w'.cell? ⟨w.heap.size, 1, none⟩ = some vc ∧ w'.cell? ⟨w.heap.size, 2, none⟩ = some (.bool hb) ∧ w'.cell? ⟨w.heap.size, 3, none⟩ = some vg ∧ w'.cell? ⟨w.heap.size + 1, 0, none⟩ = some (.int .i64 8) ∧ w'.cell? ⟨w.heap.size + 1, 1, none⟩ = some (.int .i64 op) ∧ w'.cell? ⟨w.heap.size + 1, 2, none⟩ = some (vt) ∧ w'.cell? ⟨w.heap.size + 1, 3, none⟩ = some (.int .i64 k) ∧ w'.cell? ⟨w.heap.size + 1, 4, none⟩ = some (.int .i64 v) ∧ w'.cell? ⟨w.heap.size + 1, 5, none⟩ = some (.int .i64 (jx : Int)) ∧ w'.cell? ⟨w.heap.size + 1, 6, none⟩ = some (.int .i64 (jy : Int)) ∧ w'.cell? ⟨w.heap.size + 1, 7, none⟩ = some (.slice xa xs.length xc) ∧ w'.cell? ⟨w.heap.size + 1, 8, none⟩ = some (vb) ∧ w'.cell? ⟨w.heap.size + 1, 9, none⟩ = some (.slice ra rs.length rc) ∧ w'.cell? ⟨gv, ov + jx * 3, none⟩ = some (.string NX) ∧ w'.cell? ⟨gv, ov + jy * 3, none⟩ = some (.string NY) ∧ Below W.heap.size W w') := fun w' hbw => by
    have hw : Below w.heap.size w w' := HB0.out.trans (hbw.mono HB0.out.size)
    have h1 : w'.heap[w.heap.size]? = some (.cells #[.slice (some ⟨gv, ov, none⟩) vars.length ycap, vc, .bool hb, vg] 26) := (hbw.block w.heap.size (Array.getElem?_eq_some_iff.1 HOm.out).1).trans HOm.out
    have h2 : w'.heap[w.heap.size + 1]? = some (.cells #[.int .i64 8, .int .i64 op, vt, .int .i64 k, .int .i64 v, .int .i64 (jx : Int), .int .i64 (jy : Int), .slice xa xs.length xc, vb, .slice ra rs.length rc] 64) := (hbw.block _ (Array.getElem?_eq_some_iff.1 HOc.out).1).trans HOc.out
    refine ⟨?_, ?_, ?_, ?_, ?_, ?_, ?_, ?_, ?_, ?_, ?_, ?_, ?_, ?_, ?_, ?_, hbw⟩
    · rw [Lib.cell_of_heap h1]; rfl
    · rw [Lib.cell_of_heap h1]; rfl
    · rw [Lib.cell_of_heap h1]; rfl
    · rw [Lib.cell_of_heap h1]; rfl
    · rw [Lib.cell_of_heap h2]; rfl
    · rw [Lib.cell_of_heap h2]; rfl
    · rw [Lib.cell_of_heap h2]; rfl
    · rw [Lib.cell_of_heap h2]; rfl
    · rw [Lib.cell_of_heap h2]; rfl
    · rw [Lib.cell_of_heap h2]; rfl
    · rw [Lib.cell_of_heap h2]; rfl
    · rw [Lib.cell_of_heap h2]; rfl
    · rw [Lib.cell_of_heap h2]; rfl
    · rw [Lib.cell_of_heap h2]; rfl
    · rw [hNX]; exact (hw.cell (p := ⟨gv, ov + jx * 3, none⟩) hgv).trans (hvc jx hjx).1
    · rw [hNY]; exact (hw.cell (p := ⟨gv, ov + jy * 3, none⟩) hgv).trans (hvc jy hjy).1
  have zx : NX.size ≤ 16 := by rw [hNX, size_toList]; exact hn _ (List.getElem_mem hjx)
  have zy : NY.size ≤ 16 := by rw [hNY, size_toList]; exact hn _ (List.getElem_mem hjy)
  have HNX : Hid (NX.data.toList = Md.nm vars (jx : Int)) := by rw [hNX]; exact hnx.symm
  have HNY : Hid (NY.data.toList = Md.nm vars (jy : Int)) := by rw [hNY]; exact hny.symm
  have hjxI : (jx : Int) < (vars.length : Int) := by omega
  have hjyI : (jy : Int) < (vars.length : Int) := by omega
  obtain ⟨DK, hDK⟩ : ∃ DK : ByteArray, DK = ⟨(itoa k).toArray⟩ := ⟨_, rfl⟩
  have zk : DK.size ≤ 21 := by rw [hDK, size_mk]; exact Md.itoa_len hk
  have HDK : Hid (DK.data.toList = itoa k) := by rw [hDK]; show _ = _; simp
  have HCk : Hid (∀ w', Calls Tryz.prog 19 #[.int .i64 k] w' fun e w'' => e = .returned (.string DK) ∧ Below w'.heap.size w' w'') := fun w' => by rw [hDK]; exact digits_any k w' hk
  obtain ⟨NS, hNS⟩ : ∃ NS : ByteArray, NS = ⟨(Md.namesT vars xs).toArray⟩ := ⟨_, rfl⟩
  have zn : NS.size ≤ 1408 := by rw [hNS, size_mk]; have := namesT_len hn hxn; omega
  have HNS : Hid (NS.data.toList = Md.namesT vars xs) := by rw [hNS]; show _ = _; simp
  have HCn : Hid (∀ w', Below W.heap.size W w' → Calls Tryz.prog 50 #[.agg #[.slice (some ⟨gv, ov, none⟩) vars.length ycap, vc, .bool hb, vg], .slice xa xs.length xc] w' fun e w'' => e = .returned (.string NS) ∧ Below w'.heap.size w' w'') := fun w' hbw => by rw [hNS]; exact tqNames_any vars _ vc vg hb _ xs w' (hV.below (HB0.out.trans (hbw.mono HB0.out.size))) hn (hxs.below (HB0.out.trans (hbw.mono HB0.out.size))) hxn hxl
  have HRs : Hid (RowsAt w (.slice ra rs.length rc) rs) := hrs
  have HRn : Hid (∀ r ∈ rs, r.length ≤ 64 ∧ ∀ x ∈ r, -1000000000 ≤ x ∧ x ≤ 1000000000) := hrn
  have HRl : Hid (rs.length ≤ 64) := hrl
  obtain ⟨sx, hsx⟩ : ∃ s : ByteArray, s = (⟨#[32]⟩ : ByteArray) ++ NX := ⟨_, rfl⟩
  have zsx : sx.size ≤ 24 := by rw [hsx, ByteArray.size_append]; have q0 : (⟨#[32]⟩ : ByteArray).size ≤ 8 := (by decide); omega
  have asx := add_str hsx (by have q0 : (⟨#[32]⟩ : ByteArray).size ≤ 8 := (by decide); omega)
  obtain ⟨sy, hsy⟩ : ∃ s : ByteArray, s = (⟨#[32]⟩ : ByteArray) ++ NY := ⟨_, rfl⟩
  have zsy : sy.size ≤ 24 := by rw [hsy, ByteArray.size_append]; have q0 : (⟨#[32]⟩ : ByteArray).size ≤ 8 := (by decide); omega
  have asy := add_str hsy (by have q0 : (⟨#[32]⟩ : ByteArray).size ≤ 8 := (by decide); omega)
  obtain ⟨sk, hsk⟩ : ∃ s : ByteArray, s = (⟨#[32]⟩ : ByteArray) ++ DK := ⟨_, rfl⟩
  have zsk : sk.size ≤ 29 := by rw [hsk, ByteArray.size_append]; have q0 : (⟨#[32]⟩ : ByteArray).size ≤ 8 := (by decide); omega
  have ask := add_str hsk (by have q0 : (⟨#[32]⟩ : ByteArray).size ≤ 8 := (by decide); omega)
  obtain ⟨R, hR⟩ : ∃ s : ByteArray, s = (⟨#[116, 97, 98, 108, 101]⟩ : ByteArray) ++ NS := ⟨_, rfl⟩
  have zR : R.size ≤ 1416 := by rw [hR, ByteArray.size_append]; have q0 : (⟨#[116, 97, 98, 108, 101]⟩ : ByteArray).size ≤ 8 := (by decide); omega
  have aR := add_str hR (by have q0 : (⟨#[116, 97, 98, 108, 101]⟩ : ByteArray).size ≤ 8 := (by decide); omega)
  have HE : Hid (R.data.toList = (⟨#[116, 97, 98, 108, 101]⟩ : ByteArray).data.toList ++ Md.namesT vars xs) := by
    show _ = _
    rw [hR]
    simp [HNS.out]
  clear hx hy hk hv hn hV hvc hnx hny hNX hNY hDK hNS hxs hxn hxl hrs hrn hrl hsx hsy hsk hR  HOm HOc
  go_enter Tryz.func20, Tryz.ntmps20
  go_wp2_with fail
  try rw [hW]
  clear hW
  go_cut [5, 6, 7] from 10 to 29 (fun xv yv kv wx => xv = .string sx ∧ yv = .string sy ∧ kv = .string sk ∧ Hid (Below W.heap.size W wx))
  case first =>
    go_region_held3 (fun w' => w'.cell? ⟨w.heap.size, 0, none⟩ = some (.slice (some ⟨gv, ov, none⟩) vars.length ycap) ∧ w'.cell? ⟨w.heap.size, 1, none⟩ = some vc ∧ w'.cell? ⟨w.heap.size, 2, none⟩ = some (.bool hb) ∧ w'.cell? ⟨w.heap.size, 3, none⟩ = some vg ∧ w'.cell? ⟨w.heap.size + 1, 0, none⟩ = some (.int .i64 8) ∧ w'.cell? ⟨w.heap.size + 1, 1, none⟩ = some (.int .i64 op) ∧ w'.cell? ⟨w.heap.size + 1, 2, none⟩ = some (vt) ∧ w'.cell? ⟨w.heap.size + 1, 3, none⟩ = some (.int .i64 k) ∧ w'.cell? ⟨w.heap.size + 1, 4, none⟩ = some (.int .i64 v) ∧ w'.cell? ⟨w.heap.size + 1, 5, none⟩ = some (.int .i64 (jx : Int)) ∧ w'.cell? ⟨w.heap.size + 1, 6, none⟩ = some (.int .i64 (jy : Int)) ∧ w'.cell? ⟨w.heap.size + 1, 7, none⟩ = some (.slice xa xs.length xc) ∧ w'.cell? ⟨w.heap.size + 1, 8, none⟩ = some (vb) ∧ w'.cell? ⟨w.heap.size + 1, 9, none⟩ = some (.slice ra rs.length rc) ∧ w'.cell? ⟨gv, ov + jx * 3, none⟩ = some (.string NX) ∧ w'.cell? ⟨gv, ov + jy * 3, none⟩ = some (.string NY) ∧ Below W.heap.size W w')
      (first | exact HSc.out _ (Below.refl _ _).drew | exact HSc.out _ ((Below.refl _ _).drew.trans hb2) | assumption)
      (first | (go_at_call 19; refine calls_at (HCk.out _) (by with_reducible rfl) (by with_reducible rfl) ?_; rintro e w2 ⟨rfl, hb2⟩))
    all_goals
      have HB2 : Hid (Below W.heap.size W w2) := And.right (And.right (And.right (And.right (And.right (And.right (And.right (And.right (And.right (And.right (And.right (And.right (And.right (And.right (And.right (And.right (by assumption))))))))))))))))
      go_wp2_with fail
      go_meet
      case rel => exact ⟨rfl, rfl, rfl, HB2⟩
  case rest =>
    obtain ⟨rfl, rfl, rfl, hBc⟩ := hcut
    rename World => wq
    obtain ⟨m0, m1, m2, m3, c0, c1, c2, c3, c4, c5, c6, c7, c8, c9, nx, ny, _⟩ := HSc.out wq hBc.out
    clear c1 c2 c3 c4 c5 c6 c8 c9 nx ny
    go_wp2_with (first | (go_at_call 50; refine calls_at (HCn.out wq hBc.out) (by with_reducible rfl) (by with_reducible rfl) ?_; rintro e w3 ⟨rfl, hb3⟩; have HB3 : Hid (Below W.heap.size W w3) := hBc.out.trans (hb3.mono hBc.out.size)))
    have HRR : Hid (R.data.toList = (⟨#[116, 97, 98, 108, 101]⟩ : ByteArray).data.toList ++ Md.namesT vars xs ++ Md.rowsT (rs.take 0)) := by show _ = _; rw [HE.out]; simp [Md.rowsT]
    have zR0 : R.size ≤ 100000 := by omega
    clear c0 c7 m0 m1 m2 m3
    have HRN : Hid (∀ k, ((⟨#[116, 97, 98, 108, 101]⟩ : ByteArray).data.toList ++ Md.namesT vars xs ++ Md.rowsT (rs.take k)).length ≤ 95000) := fun k => by
      have h1 := Md.flatMap_take_len (fun r => 32 :: 58 :: Md.numsT r) 1410 rs k (fun r hr => by
        have h1 := HRn.out r hr
        have h2 := numsT_len h1.2
        rw [List.length_cons, List.length_cons]
        omega)
      have h2 := HRl.out
      have h3 : (Md.rowsT (rs.take k)).length ≤ 1410 * rs.length := h1
      have h4 : R.size = ((⟨#[116, 97, 98, 108, 101]⟩ : ByteArray).data.toList ++ Md.namesT vars xs).length := (size_toList R).trans (congrArg List.length HE.out)
      show _ ≤ _
      rw [List.length_append]
      omega
    go_loopw [8, 9] (fun sv iv wr => ∃ (n : Nat) (s : ByteArray), sv = .string s ∧ iv = .int .i64 (n : Int) ∧ n ≤ rs.length ∧ s.size ≤ 100000 ∧ Hid (s.data.toList = (⟨#[116, 97, 98, 108, 101]⟩ : ByteArray).data.toList ++ Md.namesT vars xs ++ Md.rowsT (rs.take n)) ∧ Hid (Below W.heap.size W wr)) (fun _ iv _ => rs.length - (intOf iv).toNat)
    case atStart => exact ⟨0, R, rfl, rfl, Nat.zero_le _, zR0, HRR, HB3⟩
    case round =>
      obtain ⟨n, s, rfl, rfl, hn1, hs, hS, hBr⟩ := hrel
      obtain ⟨_, _, _, _, _, _, _, _, _, _, _, _, _, r9, _, _, _⟩ := HSc.out wr hBr.out
      by_cases hlt : n < rs.length
      · have hnI : (n : Int) < (rs.length : Int) := by omega
        obtain ⟨_, _, hvr, _, hrc⟩ := id HRs.out
        injection hvr with e1 _ e3
        subst e3
        subst e1
        obtain ⟨gr, fr, rfl, hgr, hrcell⟩ := hrc (by omega)
        obtain ⟨u, hu, hIu⟩ := hrcell n hlt
        have d0 := ((HB0.out.trans (hBr.out.mono HB0.out.size)).cell (p := ⟨gr, fr + n, none⟩) hgr).trans hu
        have HR1 : Hid (Md.rowsT (rs.take (n + 1)) = Md.rowsT (rs.take n) ++ 32 :: 58 :: Md.numsT rs[n]) := Md.flatMap_take _ rs n hlt
        have HX1 := HRn.out rs[n] (List.getElem_mem hlt)
        obtain ⟨VS, hVS⟩ : ∃ VS : ByteArray, VS = ⟨(Md.numsT rs[n]).toArray⟩ := ⟨_, rfl⟩
        have zb : VS.size ≤ 1408 := by rw [hVS, size_mk]; have := numsT_len HX1.2; omega
        have HVS : Hid (VS.data.toList = Md.numsT rs[n]) := by rw [hVS]; show _ = _; simp
        have HCb : Hid (Calls Tryz.prog 51 #[u] wr fun e w'' => e = .returned (.string VS) ∧ Below wr.heap.size wr w'') := by rw [hVS]; exact tqValues_any _ rs[n] wr (hIu.below (HB0.out.trans (hBr.out.mono HB0.out.size))) HX1.2 HX1.1
        obtain ⟨s1, hs1⟩ : ∃ s1, s1 = s ++ (⟨#[32, 58]⟩ : ByteArray) := ⟨_, rfl⟩
        have q0 : (⟨#[32, 58]⟩ : ByteArray).size ≤ 8 := by decide
        have z1 : s1.size ≤ 100008 := by rw [hs1, ByteArray.size_append]; omega
        have a1 := add_str hs1 (by omega)
        obtain ⟨s2, hs2⟩ : ∃ s2, s2 = s1 ++ VS := ⟨_, rfl⟩
        have a2 := add_str hs2 (by omega)
        have HE2 : Hid (s2.data.toList = (⟨#[116, 97, 98, 108, 101]⟩ : ByteArray).data.toList ++ Md.namesT vars xs ++ Md.rowsT (rs.take (n + 1))) := by
          show _ = _
          rw [HR1.out, ← HVS.out, hs2, hs1]
          have h := hS.out
          simp only [ByteArray.data_append, Array.toList_append] at *
          rw [h]
          simp
        obtain ⟨ua, uc, hue, _⟩ := hIu.form
        subst hue
        clear hs1 hs2 hVS HX1 hu hIu hrcell hrc q0
        go_wp2_with (first | (go_at_call 51; refine calls_at HCb.out (by with_reducible rfl) (by with_reducible rfl) ?_; rintro e w4 ⟨rfl, hb4⟩; have HB4 : Hid (Below W.heap.size W w4) := hBr.out.trans (hb4.mono hBr.out.size); clear hb4))
        go_roundw
        case rel =>
          refine ⟨n + 1, s2, by rfl, by go_num, by omega, ?_, HE2, HB4⟩
          rw [size_toList, HE2.out]
          exact Nat.le_trans (HRN.out (n + 1)) (by decide)
        case measure => simp [intOf]; omega
      · have hnI : ¬ (n : Int) < (rs.length : Int) := by omega
        have HF : Hid (s = ⟨((⟨#[116, 97, 98, 108, 101]⟩ : ByteArray).data.toList ++ Md.namesT vars xs ++ Md.rowsT rs).toArray⟩) := mk_toList s (by rw [hS.out, List.take_of_length_le (by omega)])
        go_wp2_with fail
        go_ret
        exact ⟨congrArg (fun x => Ending.returned (.string x)) HF.out, HB0.out.trans (hBr.out.mono HB0.out.size)⟩
end Go.Proofs.YtjanpglnahagdaaGreatDoor