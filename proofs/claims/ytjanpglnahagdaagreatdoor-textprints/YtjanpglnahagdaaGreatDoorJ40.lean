/-
  Put together: MdRoomN, MdHoldM, TpHold.
-/
import Derived.Test.YtjanpglnahagdaaGreatDoorJ39
namespace Go.Proofs.YtjanpglnahagdaaGreatDoor
open Go.RowKit

/-- What Model leaves. -/
structure LaidM (base R : Nat) (S : Lab) (F : Nat → List Value) (w : World) (m : Md.Mo) (e : Ending) (w' : World) : Prop where
  out : ∃ (bV bK bG cV cK cG : Nat) (S' : Lab) (F' : Nat → List Value) (D : List Con1), e = .returned (moVal m (.slice (some ⟨bV, 0, none⟩) m.vars.length (m.vars.length + 40)) (.slice (some ⟨bK, 0, none⟩) m.cons.length (m.cons.length + 40)) (.slice (some ⟨bG, 0, none⟩) m.goal.length (m.goal.length + 40))) ∧ RoomAt ety base R S' F' w' ∧ Agree S S' w w' ∧ DataV S' w' bV m.vars 40 ∧ DataK S' w' bK m.cons D 40 ∧ DataT S' w' bG m.goal 40 ∧
    (F' 0 = F 0 ++ D.flatMap Con1.entI ∧ F' 1 = F 1 ++ D.flatMap Con1.atI ∧ F' 4 = F 4 ++ D.map Con1.entT ++ [.slice (some ⟨bG, 0, none⟩) (m.goal.length + 40) cG] ∧ F' 5 = F 5 ++ D.map Con1.atT ++ [.int .i64 (m.goal.length : Int)] ∧
     F' 6 = F 6 ++ [.slice (some ⟨bV, 0, none⟩) (m.vars.length + 40) cV] ∧ F' 7 = F 7 ++ [.int .i64 (m.vars.length : Int)] ∧ F' 16 = F 16 ++ D.map Con1.entL ∧ F' 17 = F 17 ++ D.map Con1.atL ∧ F' 18 = F 18 ++ [.slice (some ⟨bK, 0, none⟩) (m.cons.length + 40) cK] ∧ F' 19 = F 19 ++ [.int .i64 (m.cons.length : Int)]) ∧
    ∀ j, j ≠ 0 → j ≠ 1 → j ≠ 4 → j ≠ 5 → j ≠ 6 → j ≠ 7 → j ≠ 16 → j ≠ 17 → j ≠ 18 → j ≠ 19 → F' j = F j

set_option maxRecDepth 10000 in
set_option maxHeartbeats 4000000 in
theorem roomModel_any (base R : Nat) (S : Lab) (F : Nat → List Value) (m : Md.Mo) (vv vc vg : Value) (w w0 : World) (hR : RoomAt ety base R S F w) (h0 : MoAt w0 m vv vc vg) (hbw : ∀ wr S', Agree S S' w wr → Below w0.heap.size w0 wr) (hc : costM m ≤ 20000) (hF : ∀ j, (F j).length ≤ 10000) :
    Calls Tryz.prog 7 #[.pointer (some ⟨R, 0, none⟩), moVal m vv vc vg] w (LaidM base R S F w m) := by
  have HM : Hid (MoAt w0 m vv vc vg) := h0
  have HBW : Hid (∀ wr S', Agree S S' w wr → Below w0.heap.size w0 wr) := hbw
  obtain ⟨va, vp, rfl, hvm⟩ := h0.v.form
  obtain ⟨ca, cp, rfl, hcm⟩ := h0.c.form
  obtain ⟨ga, gp, rfl, hgm⟩ := h0.g.form
  have HF : Hid (∀ j, (F j).length ≤ 10000) := hF
  have HCo : Hid (m.vars.length ≤ 100000 ∧ costK m.cons ≤ 20000 ∧ m.goal.length ≤ 100000) := by
    have h1 : ∀ l : List Md.Vr, l.length ≤ costV l := by
      intro l
      induction l with
      | nil => simp
      | cons c l ih => simp only [costV, List.length_cons]; omega
    have := h1 m.vars
    unfold costM at hc
    exact ⟨by omega, by omega, by omega⟩
  obtain ⟨W, hW⟩ : ∃ W, (w.alloc (.cells #[.slice va m.vars.length vp, .slice ca m.cons.length cp, .bool m.has, .slice ga m.goal.length gp] 26)).alloc (.cells #[.slice none 0 0, .slice none 0 0, .bool false, .slice none 0 0] 26) = W := ⟨_, rfl⟩
  have hbW : Below w.heap.size w W := by rw [← hW]; exact ((Below.refl _ _).alloc (Nat.le_refl _) _).alloc (by simp) _
  have hsz : W.heap.size = w.heap.size + 1 + 1 := by rw [← hW]; simp
  have hN : W.heap[w.heap.size]? = some (.cells #[.slice va m.vars.length vp, .slice ca m.cons.length cp, .bool m.has, .slice ga m.goal.length gp] 26) := by
    rw [← hW, Below.heap_alloc _ _ _ (by simp)]; exact heap_alloc_new w _
  have hZ : W.heap[w.heap.size + 1]? = some (.cells #[.slice none 0 0, .slice none 0 0, .bool false, .slice none 0 0] 26) := by
    rw [← hW]
    have := heap_alloc_new (w.alloc (.cells #[.slice va m.vars.length vp, .slice ca m.cons.length cp, .bool m.has, .slice ga m.goal.length gp] 26)) (.cells #[.slice none 0 0, .slice none 0 0, .bool false, .slice none 0 0] 26)
    simpa using this
  have HR1 : Hid (RoomAt ety base R (lab2 S w.heap.size) F W) := (hR.kept hbW).lab2 (by omega) hR.bas (hR.top _ (Nat.le_refl _)) (hR.top _ (by omega))
  have HA1 : Hid (Agree S (lab2 S w.heap.size) w W) := agree_lab2 hbW
  have HLb : Hid (150 ≤ lab2 S w.heap.size w.heap.size ∧ 150 ≤ lab2 S w.heap.size (w.heap.size + 1)) := by
    show _ ∧ _
    unfold lab2; simp
  have HZ : Hid (W.heap[w.heap.size + 1]? = some (.cells #[.slice none 0 0, .slice none 0 0, .bool false, .slice none 0 0] 26)) := hZ
  have HN : Hid (W.heap[w.heap.size]? = some (.cells #[.slice va m.vars.length vp, .slice ca m.cons.length cp, .bool m.has, .slice ga m.goal.length gp] 26)) := hN
  have hNI : w.heap.size + 1 < W.heap.size := by omega
  obtain ⟨⟨p0, p1, p2, p3⟩, hfz⟩ := box4 hN
  generalize lab2 S w.heap.size = S1 at *
  clear hR h0 hbw hF hc hbW hsz hN hZ
  unfold moVal
  go_enter Tryz.func7, Tryz.ntmps7
  go_wp2_with fail
  refine calls_at (roomVars_any base R S1 F _ m.vars _ HR1.out (HM.out.v.below (HBW.out _ _ HA1.out)) HCo.out.1 (by have := HF.out 6; omega) (by have := HF.out 7; omega)) (by with_reducible rfl) (by with_reducible rfl) ?_
  rintro e w2 ⟨⟨bV, cV, S2, F2, he, hbT, hbT1, hST, hR2, f6, f7, fo2, hA2, hcT, hh2⟩⟩
  subst he
  obtain ⟨V2, hV2⟩ : ∃ V, w2.setCell ⟨w.heap.size, 0, none⟩ (.slice (some ⟨bV, 0, none⟩) m.vars.length (m.vars.length + 40)) = V := ⟨_, rfl⟩
  obtain ⟨hNp, hRn, hAn, hAx, hAy, hNn, hZn, hLn⟩ := box_step HA1.out hA2 hR2 hh2 HN.out HZ.out HLb.out 0 _ hV2
  have HR2 : Hid (RoomAt ety base R S2 F2 V2) := hRn
  have HA2 : Hid (Agree S S2 w V2) := hAn
  have HN2 : Hid (V2.heap[w.heap.size]? = some (.cells #[.slice (some ⟨bV, 0, none⟩) m.vars.length (m.vars.length + 40), .slice ca m.cons.length cp, .bool m.has, .slice ga m.goal.length gp] 26)) := hNn
  have HZ2 : Hid (V2.heap[w.heap.size + 1]? = some (.cells #[.slice none 0 0, .slice none 0 0, .bool false, .slice none 0 0] 26)) := hZn
  have HL2 : Hid (150 ≤ S2 w.heap.size ∧ 150 ≤ S2 (w.heap.size + 1)) := hLn
  have HDV : Hid (DataV S2 V2 bV m.vars 40) := DataV.agree ⟨hST, hbT1, hcT⟩ hAx
  have HF2 : Hid (F2 6 = F 6 ++ [.slice (some ⟨bV, 0, none⟩) (m.vars.length + 40) cV] ∧ F2 7 = F 7 ++ [.int .i64 (m.vars.length : Int)] ∧ ∀ j, j ≠ 6 → j ≠ 7 → F2 j = F j) := ⟨f6, f7, fo2⟩
  have HFs : Hid (∀ j, (F2 j).length ≤ 100000) := fun j => by
    have := HF.out j
    by_cases h6 : j = 6
    · rw [h6, f6]; simp; have := HF.out 6; omega
    · by_cases h7 : j = 7
      · rw [h7, f7]; simp; have := HF.out 7; omega
      · rw [fo2 j h6 h7]; omega
  clear p0 p1 p2 p3 hfz hRn hAn hAx hAy hNn hZn hLn hbT hbT1 hST hR2 f6 f7 fo2 hA2 hcT hh2 hNI
  obtain ⟨⟨q0, q1, q2, q3⟩, hfq⟩ := box4 hNp
  obtain ⟨⟨p0, p1, p2, p3⟩, hfz⟩ := box4 HN2.out
  have hNI : w.heap.size + 1 < V2.heap.size := (Array.getElem?_eq_some_iff.1 HZ2.out).1
  go_wp2_with fail
  refine calls_at (roomCons_any base R S2 F2 _ m.cons _ w0 HR2.out HM.out.c (fun wr S' hA => HBW.out _ _ (HA2.out.trans hA)) HCo.out.2.1 HFs.out) (by with_reducible rfl) (by with_reducible rfl) ?_
  rintro e w3 ⟨⟨bK, cK, S3, F3, D, he, hR3, hA3, hbK, hSK, hDc, hDok, hcK, hfK, foK, hh3⟩⟩
  subst he
  obtain ⟨V3, hV3⟩ : ∃ V, w3.setCell ⟨w.heap.size, 1, none⟩ (.slice (some ⟨bK, 0, none⟩) m.cons.length (m.cons.length + 40)) = V := ⟨_, rfl⟩
  obtain ⟨hNp3, hRn, hAn, hAx, hAy, hNn, hZn, hLn⟩ := box_step HA2.out hA3 hR3 hh3 HN2.out HZ2.out HL2.out 1 _ hV3
  have HR3 : Hid (RoomAt ety base R S3 F3 V3) := hRn
  have HA3 : Hid (Agree S S3 w V3) := hAn
  have HN3 : Hid (V3.heap[w.heap.size]? = some (.cells #[.slice (some ⟨bV, 0, none⟩) m.vars.length (m.vars.length + 40), .slice (some ⟨bK, 0, none⟩) m.cons.length (m.cons.length + 40), .bool m.has, .slice ga m.goal.length gp] 26)) := hNn
  have HZ3 : Hid (V3.heap[w.heap.size + 1]? = some (.cells #[.slice none 0 0, .slice none 0 0, .bool false, .slice none 0 0] 26)) := hZn
  have HL3 : Hid (150 ≤ S3 w.heap.size ∧ 150 ≤ S3 (w.heap.size + 1)) := hLn
  have HDK : Hid (DataK S3 V3 bK m.cons D 40) := DataK.agree ⟨hSK, hbK, hDc, hDok, hcK⟩ hAx
  have HDV3 : Hid (DataV S3 V3 bV m.vars 40) := HDV.out.agree hAy
  have HF3 : Hid ((F3 0 = F2 0 ++ D.flatMap Con1.entI ∧ F3 1 = F2 1 ++ D.flatMap Con1.atI ∧ F3 4 = F2 4 ++ D.map Con1.entT ∧ F3 5 = F2 5 ++ D.map Con1.atT ∧ F3 16 = F2 16 ++ D.map Con1.entL ∧ F3 17 = F2 17 ++ D.map Con1.atL ∧ F3 18 = F2 18 ++ [.slice (some ⟨bK, 0, none⟩) (m.cons.length + 40) cK] ∧ F3 19 = F2 19 ++ [.int .i64 (m.cons.length : Int)]) ∧ ∀ j, j ≠ 0 → j ≠ 1 → j ≠ 4 → j ≠ 5 → j ≠ 16 → j ≠ 17 → j ≠ 18 → j ≠ 19 → F3 j = F2 j) := ⟨hfK, foK⟩
  have HDl : Hid (D.length ≤ 20000) := by
    have h1 := ents_le D (fun d hd => by have := congrArg List.length (hDok d hd).l.rows; simpa using this)
    rw [hDc] at h1
    have := HCo.out.2.1
    exact Nat.le_trans h1.2.2 this
  clear p0 p1 p2 p3 q0 q1 q2 q3 hfz hfq hRn hAn hAx hAy hNn hZn hLn hR3 hA3 hbK hSK hDc hDok hcK hfK foK hh3 hNI HR2 HN2 HZ2 HL2 HDV
  obtain ⟨⟨q0, q1, q2, q3⟩, hfq⟩ := box4 hNp3
  obtain ⟨⟨p0, p1, p2, p3⟩, hfz⟩ := box4 HN3.out
  have hNI : w.heap.size + 1 < V3.heap.size := (Array.getElem?_eq_some_iff.1 HZ3.out).1
  go_wp2_with fail
  refine calls_at (roomTerms_any base R S3 F3 _ m.goal _ HR3.out (HM.out.g.below (HBW.out _ _ HA3.out)) HCo.out.2.2 (by rw [HF3.out.1.2.2.1]; simp; have := HFs.out 4; have := HDl.out; omega) (by rw [HF3.out.1.2.2.2.1]; simp; have := HFs.out 5; have := HDl.out; omega)) (by with_reducible rfl) (by with_reducible rfl) ?_
  rintro e w4 ⟨⟨bG, cG, S4, F4, he, hbT, hbT1, hST, hR4, f4, f5, fo4, hA4, hcT, hh4⟩⟩
  subst he
  obtain ⟨V4, hV4⟩ : ∃ V, w4.setCell ⟨w.heap.size, 3, none⟩ (.slice (some ⟨bG, 0, none⟩) m.goal.length (m.goal.length + 40)) = V := ⟨_, rfl⟩
  obtain ⟨hNp4, hRn, hAn, hAx, hAy, hNn, hZn, hLn⟩ := box_step HA3.out hA4 hR4 hh4 HN3.out HZ3.out HL3.out 3 _ hV4
  have HR4 : Hid (RoomAt ety base R S4 F4 V4) := hRn
  have HA4 : Hid (Agree S S4 w V4) := hAn
  have HN4 : Hid (V4.heap[w.heap.size]? = some (.cells #[.slice (some ⟨bV, 0, none⟩) m.vars.length (m.vars.length + 40), .slice (some ⟨bK, 0, none⟩) m.cons.length (m.cons.length + 40), .bool m.has, .slice (some ⟨bG, 0, none⟩) m.goal.length (m.goal.length + 40)] 26)) := hNn
  have HZ4 : Hid (V4.heap[w.heap.size + 1]? = some (.cells #[.slice none 0 0, .slice none 0 0, .bool false, .slice none 0 0] 26)) := hZn
  have HL4 : Hid (150 ≤ S4 w.heap.size ∧ 150 ≤ S4 (w.heap.size + 1)) := hLn
  have HDG : Hid (DataT S4 V4 bG m.goal 40) := DataT.agree ⟨hST, hbT1, hcT⟩ hAx
  have HDK4 : Hid (DataK S4 V4 bK m.cons D 40) := HDK.out.agree hAy
  have HDV4 : Hid (DataV S4 V4 bV m.vars 40) := HDV3.out.agree hAy
  have HF4 : Hid (F4 4 = F3 4 ++ [.slice (some ⟨bG, 0, none⟩) (m.goal.length + 40) cG] ∧ F4 5 = F3 5 ++ [.int .i64 (m.goal.length : Int)] ∧ ∀ j, j ≠ 4 → j ≠ 5 → F4 j = F3 j) := ⟨f4, f5, fo4⟩
  clear p0 p1 p2 p3 q0 q1 q2 q3 hfz hfq hRn hAn hAx hAy hNn hZn hLn hbT hbT1 hST hR4 f4 f5 fo4 hA4 hcT hh4 hNI HR3 HN3 HZ3 HL3 HDK HDV3
  obtain ⟨⟨q0, q1, q2, q3⟩, hfq⟩ := box4 hNp4
  obtain ⟨⟨p0, p1, p2, p3⟩, hfz⟩ := box4 HN4.out
  obtain ⟨⟨z0, z1, z2, z3⟩, hfzz⟩ := box4 HZ4.out
  have hNI : w.heap.size + 1 < V4.heap.size := (Array.getElem?_eq_some_iff.1 HZ4.out).1
  go_wp2_with fail
  refine bodyPost_ret (v := .agg #[.slice (some ⟨bV, 0, none⟩) m.vars.length (m.vars.length + 40), .slice (some ⟨bK, 0, none⟩) m.cons.length (m.cons.length + 40), .bool m.has, .slice (some ⟨bG, 0, none⟩) m.goal.length (m.goal.length + 40)]) (by simp [results, Tryz.results7, go_sem, World.cell?, World.setCell, Array.getElem?_modify, HZ4.out]) rfl ⟨⟨bV, bK, bG, cV, cK, cG, S4, F4, D, rfl, (((HR4.out.set HL4.out.2 0 _).set HL4.out.2 1 _).set HL4.out.2 2 _).set HL4.out.2 3 _, (((HA4.out.set HL4.out.2 0 _).set HL4.out.2 1 _).set HL4.out.2 2 _).set HL4.out.2 3 _, ?_, ?_, ?_, ⟨?_, ?_, ?_, ?_, ?_, ?_, ?_, ?_, ?_, ?_⟩, ?_⟩⟩
  · exact HDV4.out.agree (((((Agree.refl S4 V4).set HL4.out.2 0 _).set HL4.out.2 1 _).set HL4.out.2 2 _).set HL4.out.2 3 _)
  · exact HDK4.out.agree (((((Agree.refl S4 V4).set HL4.out.2 0 _).set HL4.out.2 1 _).set HL4.out.2 2 _).set HL4.out.2 3 _)
  · exact HDG.out.agree (((((Agree.refl S4 V4).set HL4.out.2 0 _).set HL4.out.2 1 _).set HL4.out.2 2 _).set HL4.out.2 3 _)
  · rw [HF4.out.2.2 0 (by decide) (by decide), HF3.out.1.1, HF2.out.2.2 0 (by decide) (by decide)]
  · rw [HF4.out.2.2 1 (by decide) (by decide), HF3.out.1.2.1, HF2.out.2.2 1 (by decide) (by decide)]
  · rw [HF4.out.1, HF3.out.1.2.2.1, HF2.out.2.2 4 (by decide) (by decide)]
  · rw [HF4.out.2.1, HF3.out.1.2.2.2.1, HF2.out.2.2 5 (by decide) (by decide)]
  · rw [HF4.out.2.2 6 (by decide) (by decide), HF3.out.2 6 (by decide) (by decide) (by decide) (by decide) (by decide) (by decide) (by decide) (by decide), HF2.out.1]
  · rw [HF4.out.2.2 7 (by decide) (by decide), HF3.out.2 7 (by decide) (by decide) (by decide) (by decide) (by decide) (by decide) (by decide) (by decide), HF2.out.2.1]
  · rw [HF4.out.2.2 16 (by decide) (by decide), HF3.out.1.2.2.2.2.1, HF2.out.2.2 16 (by decide) (by decide)]
  · rw [HF4.out.2.2 17 (by decide) (by decide), HF3.out.1.2.2.2.2.2.1, HF2.out.2.2 17 (by decide) (by decide)]
  · rw [HF4.out.2.2 18 (by decide) (by decide), HF3.out.1.2.2.2.2.2.2.1, HF2.out.2.2 18 (by decide) (by decide)]
  · rw [HF4.out.2.2 19 (by decide) (by decide), HF3.out.1.2.2.2.2.2.2.2, HF2.out.2.2 19 (by decide) (by decide)]
  · intro j a0 a1 a4 a5 a6 a7 a16 a17 a18 a19
    rw [HF4.out.2.2 j a4 a5, HF3.out.2 j a0 a1 a4 a5 a16 a17 a18 a19, HF2.out.2.2 j a6 a7]
end Go.Proofs.YtjanpglnahagdaaGreatDoor

namespace Go.Proofs.YtjanpglnahagdaaGreatDoor
open Go.RowKit

theorem EntV.below {w w' : World} (hb : Below w.heap.size w w') (x a : Value) (h : EntV w x a) : EntV w' x a := by
  obtain ⟨b, n, room, cap, h1, h2, h3, h4, h5⟩ := h
  exact ⟨b, n, room, cap, h1, h2, h3, h4, fun j hj => ⟨cell_below hb (h5 j hj).1, cell_below hb (h5 j hj).2.1, cell_below hb (h5 j hj).2.2⟩⟩
theorem EntK.below {w w' : World} (hb : Below w.heap.size w w') (x a : Value) (h : EntK w x a) : EntK w' x a := by
  obtain ⟨b, n, room, cap, h1, h2, h3, h4, h5⟩ := h
  refine ⟨b, n, room, cap, h1, h2, h3, h4, fun j hj => ?_⟩
  obtain ⟨k0, k1, k2, k3, k4, k5, k6, k7, k8, k9⟩ := h5 j hj
  exact ⟨cell_below hb k0, cell_below hb k1, cell_below hb k2, cell_below hb k3, cell_below hb k4, cell_below hb k5, cell_below hb k6, cell_below hb k7, cell_below hb k8, cell_below hb k9⟩
/-- All that Hold looks at. -/
structure HoldOkM (base R : Nat) (S : Lab) (F : Nat → List Value) (w : World) : Prop where
  room : RoomAt ety base R S F w
  gi : All2 (EntI w) (F 0) (F 1)
  gt : All2 (EntT w) (F 4) (F 5)
  gv : All2 (EntV w) (F 6) (F 7)
  gl : All2 (EntL w) (F 16) (F 17)
  gk : All2 (EntK w) (F 18) (F 19)
  li : (F 0).length ≤ 1000000
  lt : (F 4).length ≤ 1000000
  lv : (F 6).length ≤ 1000000
  ll : (F 16).length ≤ 1000000
  lk : (F 18).length ≤ 1000000
  nil : ∀ j, j ≠ 0 → j ≠ 1 → j ≠ 4 → j ≠ 5 → j ≠ 6 → j ≠ 7 → j ≠ 16 → j ≠ 17 → j ≠ 18 → j ≠ 19 → F j = []
theorem HoldOkM.below {base R : Nat} {S : Lab} {F : Nat → List Value} {w w' : World} (h : HoldOkM base R S F w) (hb : Below w.heap.size w w') : HoldOkM base R S F w' :=
  ⟨h.room.kept hb, h.gi.imp (EntI.below hb), h.gt.imp (EntT.below hb), h.gv.imp (EntV.below hb), h.gl.imp (EntL.below hb), h.gk.imp (EntK.below hb), h.li, h.lt, h.lv, h.ll, h.lk, h.nil⟩
theorem HoldOkM.next {base R : Nat} {S : Lab} {F : Nat → List Value} {w w1 w2 : World} (h : HoldOkM base R S F w1 ∧ Below w.heap.size w w1) (hb : Below w1.heap.size w1 w2) : HoldOkM base R S F w2 ∧ Below w.heap.size w w2 :=
  ⟨h.1.below hb, h.2.trans (hb.mono h.2.size)⟩

set_option maxRecDepth 10000 in
set_option maxHeartbeats 1000000 in
theorem holdM_any (base R : Nat) (S : Lab) (F : Nat → List Value) (w : World) (h : HoldOkM base R S F w) : Calls Tryz.prog 11 #[.pointer (some ⟨R, 0, none⟩)] w fun e w' => e = .returned (.bool true) ∧ Below w.heap.size w w' := by
  have K0 : Hid (HoldOkM base R S F w ∧ Below w.heap.size w w) := ⟨h, Below.refl _ _⟩
  clear h
  go_enter Tryz.func11, Tryz.ntmps11
  go_wp2_with (first
    | (go_at_call 28; refine calls_at (holdInts_any base R S F _ K0.out.1.room K0.out.1.gi K0.out.1.li) (by with_reducible rfl) (by with_reducible rfl) ?_; rintro e w1 ⟨rfl, hb⟩; have K1 : Hid (HoldOkM base R S F w1 ∧ Below w.heap.size w w1) := HoldOkM.next K0.out hb; clear hb)
    | (go_at_call 29; refine calls_at (hold58 base R S F _ K1.out.1.room (K1.out.1.nil 2 (by decide) (by decide) (by decide) (by decide) (by decide) (by decide) (by decide) (by decide) (by decide) (by decide))) (by with_reducible rfl) (by with_reducible rfl) ?_; rintro e w2 ⟨rfl, hb⟩; have K2 : Hid (HoldOkM base R S F w2 ∧ Below w.heap.size w w2) := HoldOkM.next K1.out hb; clear hb)
    | (go_at_call 30; refine calls_at (holdTerms_any base R S F _ K2.out.1.room K2.out.1.gt K2.out.1.lt) (by with_reducible rfl) (by with_reducible rfl) ?_; rintro e w3 ⟨rfl, hb⟩; have K3 : Hid (HoldOkM base R S F w3 ∧ Below w.heap.size w w3) := HoldOkM.next K2.out hb; clear hb)
    | (go_at_call 31; refine calls_at (holdVars_any base R S F _ K3.out.1.room K3.out.1.gv K3.out.1.lv) (by with_reducible rfl) (by with_reducible rfl) ?_; rintro e w4 ⟨rfl, hb⟩; have K4 : Hid (HoldOkM base R S F w4 ∧ Below w.heap.size w w4) := HoldOkM.next K3.out hb; clear hb)
    | (go_at_call 32; refine calls_at (hold61 base R S F _ K4.out.1.room (K4.out.1.nil 8 (by decide) (by decide) (by decide) (by decide) (by decide) (by decide) (by decide) (by decide) (by decide) (by decide))) (by with_reducible rfl) (by with_reducible rfl) ?_; rintro e w5 ⟨rfl, hb⟩; have K5 : Hid (HoldOkM base R S F w5 ∧ Below w.heap.size w w5) := HoldOkM.next K4.out hb; clear hb)
    | (go_at_call 33; refine calls_at (hold62 base R S F _ K5.out.1.room (K5.out.1.nil 10 (by decide) (by decide) (by decide) (by decide) (by decide) (by decide) (by decide) (by decide) (by decide) (by decide))) (by with_reducible rfl) (by with_reducible rfl) ?_; rintro e w6 ⟨rfl, hb⟩; have K6 : Hid (HoldOkM base R S F w6 ∧ Below w.heap.size w w6) := HoldOkM.next K5.out hb; clear hb)
    | (go_at_call 34; refine calls_at (hold63 base R S F _ K6.out.1.room (K6.out.1.nil 12 (by decide) (by decide) (by decide) (by decide) (by decide) (by decide) (by decide) (by decide) (by decide) (by decide))) (by with_reducible rfl) (by with_reducible rfl) ?_; rintro e w7 ⟨rfl, hb⟩; have K7 : Hid (HoldOkM base R S F w7 ∧ Below w.heap.size w w7) := HoldOkM.next K6.out hb; clear hb)
    | (go_at_call 35; refine calls_at (hold64 base R S F _ K7.out.1.room (K7.out.1.nil 14 (by decide) (by decide) (by decide) (by decide) (by decide) (by decide) (by decide) (by decide) (by decide) (by decide))) (by with_reducible rfl) (by with_reducible rfl) ?_; rintro e w8 ⟨rfl, hb⟩; have K8 : Hid (HoldOkM base R S F w8 ∧ Below w.heap.size w w8) := HoldOkM.next K7.out hb; clear hb)
    | (go_at_call 36; refine calls_at (holdLists_any base R S F _ K8.out.1.room K8.out.1.gl K8.out.1.ll) (by with_reducible rfl) (by with_reducible rfl) ?_; rintro e w9 ⟨rfl, hb⟩; have K9 : Hid (HoldOkM base R S F w9 ∧ Below w.heap.size w w9) := HoldOkM.next K8.out hb; clear hb)
    | (go_at_call 37; refine calls_at (holdCons_any base R S F _ K9.out.1.room K9.out.1.gk K9.out.1.lk) (by with_reducible rfl) (by with_reducible rfl) ?_; rintro e w10 ⟨rfl, hb⟩; have K10 : Hid (HoldOkM base R S F w10 ∧ Below w.heap.size w w10) := HoldOkM.next K9.out hb; clear hb)
    | (go_at_call 38; refine calls_at (hold67 base R S F _ K10.out.1.room (K10.out.1.nil 20 (by decide) (by decide) (by decide) (by decide) (by decide) (by decide) (by decide) (by decide) (by decide) (by decide))) (by with_reducible rfl) (by with_reducible rfl) ?_; rintro e w11 ⟨rfl, hb⟩; have K11 : Hid (HoldOkM base R S F w11 ∧ Below w.heap.size w w11) := HoldOkM.next K10.out hb; clear hb)
    | (go_at_call 39; refine calls_at (hold68 base R S F _ K11.out.1.room (K11.out.1.nil 22 (by decide) (by decide) (by decide) (by decide) (by decide) (by decide) (by decide) (by decide) (by decide) (by decide))) (by with_reducible rfl) (by with_reducible rfl) ?_; rintro e w12 ⟨rfl, hb⟩; have K12 : Hid (HoldOkM base R S F w12 ∧ Below w.heap.size w w12) := HoldOkM.next K11.out hb; clear hb)
    | (go_at_call 40; refine calls_at (hold69 base R S F _ K12.out.1.room (K12.out.1.nil 24 (by decide) (by decide) (by decide) (by decide) (by decide) (by decide) (by decide) (by decide) (by decide) (by decide))) (by with_reducible rfl) (by with_reducible rfl) ?_; rintro e w13 ⟨rfl, hb⟩; have K13 : Hid (HoldOkM base R S F w13 ∧ Below w.heap.size w w13) := HoldOkM.next K12.out hb; clear hb)
    | (go_at_call 41; refine calls_at (hold70 base R S F _ K13.out.1.room (K13.out.1.nil 26 (by decide) (by decide) (by decide) (by decide) (by decide) (by decide) (by decide) (by decide) (by decide) (by decide))) (by with_reducible rfl) (by with_reducible rfl) ?_; rintro e w14 ⟨rfl, hb⟩; have K14 : Hid (HoldOkM base R S F w14 ∧ Below w.heap.size w w14) := HoldOkM.next K13.out hb; clear hb))
  go_ret
  exact ⟨rfl, K14.out.2⟩


/-- What Model and Ints leave, one behind the other. -/
structure LaidP (base R : Nat) (m : Md.Mo) (vs : List Int) (bV bK bG bX : Nat) (w : World) : Prop where
  hold : ∃ S F, HoldOkM base R S F w
  mo : MoAt w m (.slice (some ⟨bV, 0, none⟩) m.vars.length (m.vars.length + 40)) (.slice (some ⟨bK, 0, none⟩) m.cons.length (m.cons.length + 40)) (.slice (some ⟨bG, 0, none⟩) m.goal.length (m.goal.length + 40))
  vals : IntsAt w (.slice (some ⟨bX, 0, none⟩) vs.length (vs.length + 40)) vs
theorem LaidP.below {base R : Nat} {m : Md.Mo} {vs : List Int} {bV bK bG bX : Nat} {w w' : World} (h : LaidP base R m vs bV bK bG bX w) (hb : Below w.heap.size w w') : LaidP base R m vs bV bK bG bX w' := by
  obtain ⟨S, F, hh⟩ := h.hold
  exact ⟨⟨S, F, hh.below hb⟩, h.mo.below hb, h.vals.below hb⟩
theorem costV_len : ∀ l : List Md.Vr, l.length ≤ costV l
  | [] => Nat.zero_le _
  | _ :: l => by have := costV_len l; simp only [costV, List.length_cons]; omega
theorem costK_len : ∀ l : List Md.Cn, l.length ≤ costK l
  | [] => Nat.zero_le _
  | _ :: l => by have := costK_len l; simp only [costK, costC, List.length_cons]; omega

theorem laidP_of {base R : Nat} {S5 S6 : Lab} {F5 F6 : Nat → List Value} {w5 w6 : World} {m : Md.Mo} {vs : List Int} {bV bK bG bX cV cK cG cX : Nat} {D : List Con1}
    (hcost : costM m + vs.length ≤ 20000) (hnm : ∀ x ∈ m.vars, x.name.size ≤ maxLen)
    (hR6 : RoomAt ety base R S6 F6 w6) (hA6 : Agree S5 S6 w5 w6) (dV : DataV S5 w5 bV m.vars 40) (dK : DataK S5 w5 bK m.cons D 40) (dG : DataT S5 w5 bG m.goal 40)
    (f0 : F5 0 = D.flatMap Con1.entI) (f1 : F5 1 = D.flatMap Con1.atI) (f4 : F5 4 = D.map Con1.entT ++ [.slice (some ⟨bG, 0, none⟩) (m.goal.length + 40) cG]) (f5 : F5 5 = D.map Con1.atT ++ [.int .i64 (m.goal.length : Int)])
    (f6 : F5 6 = [.slice (some ⟨bV, 0, none⟩) (m.vars.length + 40) cV]) (f7 : F5 7 = [.int .i64 (m.vars.length : Int)]) (f16 : F5 16 = D.map Con1.entL) (f17 : F5 17 = D.map Con1.atL) (f18 : F5 18 = [.slice (some ⟨bK, 0, none⟩) (m.cons.length + 40) cK]) (f19 : F5 19 = [.int .i64 (m.cons.length : Int)])
    (fn : ∀ j, j ≠ 0 → j ≠ 1 → j ≠ 4 → j ≠ 5 → j ≠ 6 → j ≠ 7 → j ≠ 16 → j ≠ 17 → j ≠ 18 → j ≠ 19 → F5 j = [])
    (g0 : F6 0 = F5 0 ++ [.slice (some ⟨bX, 0, none⟩) (vs.length + 40) cX]) (g1 : F6 1 = F5 1 ++ [.int .i64 (vs.length : Int)]) (gn : ∀ j, j ≠ 0 → j ≠ 1 → F6 j = F5 j)
    (hb6 : bX < w6.heap.size) (hl6 : S6 bX = 0) (hc6 : ∀ j u, (laidInts vs 40)[j]? = some u → w6.cell? ⟨bX, j, none⟩ = some u) : LaidP base R m vs bV bK bG bX w6 := by
  have hcv := costV_len m.vars
  have hck := costK_len m.cons
  have hcm : costV m.vars + costK m.cons + m.goal.length + vs.length ≤ 20000 := by unfold costM at hcost; omega
  have hs : ∀ c ∈ m.cons, c.terms.length ≤ 100000 ∧ c.xs.length ≤ 100000 ∧ c.table.length ≤ 100000 ∧ c.rows.length ≤ 100000 ∧ ∀ r ∈ c.rows, r.length ≤ 100000 := fun c hc => (costC_bounds (n := 0) (by have := costK_mem hc; omega)).1
  have dX : DataI S6 w6 bX vs 40 := ⟨hl6, hb6, hc6⟩
  have eV := dV.agree hA6
  have eK := dK.agree hA6
  have eG := dG.agree hA6
  have hsD : ∀ d ∈ D, d.c.terms.length ≤ 100000 ∧ d.c.xs.length ≤ 100000 ∧ d.c.table.length ≤ 100000 ∧ d.c.rows.length ≤ 100000 ∧ ∀ r ∈ d.c.rows, r.length ≤ 100000 := fun d hd => hs _ (by rw [← eK.rows]; exact List.mem_map_of_mem hd)
  have hle := ents_le D (fun d hd => by have := congrArg List.length (eK.ok d hd).l.rows; simpa using this)
  rw [eK.rows] at hle
  refine ⟨⟨S6, F6, ⟨hR6, ?_, ?_, ?_, ?_, ?_, ?_, ?_, ?_, ?_, ?_, ?_⟩⟩, ⟨eV.vars (by omega) hnm, fun a n cp h => by injection h with h1 h2 h3; omega, eK.cons (by omega) hs, eG.terms (by omega)⟩, dX.ints (by omega)⟩
  · rw [g0, g1, f0, f1]
    exact All2.append (ents_I eK.ok hsD) ⟨dX.ent (by omega) (by decide) _, trivial⟩
  · rw [gn 4 (by decide) (by decide), gn 5 (by decide) (by decide), f4, f5]
    exact All2.append (ents_T eK.ok (fun d hd => (hsD d hd).1)) ⟨eG.ent (by omega) (by decide) _, trivial⟩
  · rw [gn 6 (by decide) (by decide), gn 7 (by decide) (by decide), f6, f7]
    exact ⟨eV.ent (by omega) (by decide) _, trivial⟩
  · rw [gn 16 (by decide) (by decide), gn 17 (by decide) (by decide), f16, f17]
    exact ents_L eK.ok (fun d hd => (hsD d hd).2.2.2.1)
  · rw [gn 18 (by decide) (by decide), gn 19 (by decide) (by decide), f18, f19]
    exact ⟨eK.ent (by omega) (by decide) _, trivial⟩
  · rw [g0, f0]; simp only [List.length_append, List.length_cons, List.length_nil]; omega
  · rw [gn 4 (by decide) (by decide), f4]; simp only [List.length_append, List.length_cons, List.length_nil, List.length_map]; omega
  · rw [gn 6 (by decide) (by decide), f6]; simp
  · rw [gn 16 (by decide) (by decide), f16]; simp only [List.length_map]; omega
  · rw [gn 18 (by decide) (by decide), f18]; simp
  · intro j a0 a1 a4 a5 a6 a7 a16 a17 a18 a19
    rw [gn j a0 a1]; exact fn j a0 a1 a4 a5 a6 a7 a16 a17 a18 a19
end Go.Proofs.YtjanpglnahagdaaGreatDoor

namespace Go.Proofs.YtjanpglnahagdaaGreatDoor
open Go.RowKit

/-- What Model leaves. -/
structure LaidQ (base R : Nat) (m : Md.Mo) (bV bK bG : Nat) (w : World) : Prop where
  hold : ∃ S F, HoldOkM base R S F w
  mo : MoAt w m (.slice (some ⟨bV, 0, none⟩) m.vars.length (m.vars.length + 40)) (.slice (some ⟨bK, 0, none⟩) m.cons.length (m.cons.length + 40)) (.slice (some ⟨bG, 0, none⟩) m.goal.length (m.goal.length + 40))
theorem LaidQ.below {base R : Nat} {m : Md.Mo} {bV bK bG : Nat} {w w' : World} (h : LaidQ base R m bV bK bG w) (hb : Below w.heap.size w w') : LaidQ base R m bV bK bG w' := by
  obtain ⟨S, F, hh⟩ := h.hold
  exact ⟨⟨S, F, hh.below hb⟩, h.mo.below hb⟩

theorem laidQ_of {base R : Nat} {S5 : Lab} {F5 : Nat → List Value} {w5 : World} {m : Md.Mo} {bV bK bG cV cK cG : Nat} {D : List Con1}
    (hcost : costM m ≤ 20000) (hnm : ∀ x ∈ m.vars, x.name.size ≤ maxLen)
    (hR5 : RoomAt ety base R S5 F5 w5) (eV : DataV S5 w5 bV m.vars 40) (eK : DataK S5 w5 bK m.cons D 40) (eG : DataT S5 w5 bG m.goal 40)
    (f0 : F5 0 = D.flatMap Con1.entI) (f1 : F5 1 = D.flatMap Con1.atI) (f4 : F5 4 = D.map Con1.entT ++ [.slice (some ⟨bG, 0, none⟩) (m.goal.length + 40) cG]) (f5 : F5 5 = D.map Con1.atT ++ [.int .i64 (m.goal.length : Int)])
    (f6 : F5 6 = [.slice (some ⟨bV, 0, none⟩) (m.vars.length + 40) cV]) (f7 : F5 7 = [.int .i64 (m.vars.length : Int)]) (f16 : F5 16 = D.map Con1.entL) (f17 : F5 17 = D.map Con1.atL) (f18 : F5 18 = [.slice (some ⟨bK, 0, none⟩) (m.cons.length + 40) cK]) (f19 : F5 19 = [.int .i64 (m.cons.length : Int)])
    (fn : ∀ j, j ≠ 0 → j ≠ 1 → j ≠ 4 → j ≠ 5 → j ≠ 6 → j ≠ 7 → j ≠ 16 → j ≠ 17 → j ≠ 18 → j ≠ 19 → F5 j = []) : LaidQ base R m bV bK bG w5 := by
  have hcv := costV_len m.vars
  have hck := costK_len m.cons
  have hcm : costV m.vars + costK m.cons + m.goal.length ≤ 20000 := by unfold costM at hcost; omega
  have hs : ∀ c ∈ m.cons, c.terms.length ≤ 100000 ∧ c.xs.length ≤ 100000 ∧ c.table.length ≤ 100000 ∧ c.rows.length ≤ 100000 ∧ ∀ r ∈ c.rows, r.length ≤ 100000 := fun c hc => (costC_bounds (n := 0) (by have := costK_mem hc; omega)).1
  have hsD : ∀ d ∈ D, d.c.terms.length ≤ 100000 ∧ d.c.xs.length ≤ 100000 ∧ d.c.table.length ≤ 100000 ∧ d.c.rows.length ≤ 100000 ∧ ∀ r ∈ d.c.rows, r.length ≤ 100000 := fun d hd => hs _ (by rw [← eK.rows]; exact List.mem_map_of_mem hd)
  have hle := ents_le D (fun d hd => by have := congrArg List.length (eK.ok d hd).l.rows; simpa using this)
  rw [eK.rows] at hle
  refine ⟨⟨S5, F5, ⟨hR5, ?_, ?_, ?_, ?_, ?_, ?_, ?_, ?_, ?_, ?_, ?_⟩⟩, ⟨eV.vars (by omega) hnm, fun a n cp h => by injection h with h1 h2 h3; omega, eK.cons (by omega) hs, eG.terms (by omega)⟩⟩
  · rw [f0, f1]
    exact ents_I eK.ok hsD
  · rw [f4, f5]
    exact All2.append (ents_T eK.ok (fun d hd => (hsD d hd).1)) ⟨eG.ent (by omega) (by decide) _, trivial⟩
  · rw [f6, f7]
    exact ⟨eV.ent (by omega) (by decide) _, trivial⟩
  · rw [f16, f17]
    exact ents_L eK.ok (fun d hd => (hsD d hd).2.2.2.1)
  · rw [f18, f19]
    exact ⟨eK.ent (by omega) (by decide) _, trivial⟩
  · rw [f0]; omega
  · rw [f4]; simp only [List.length_append, List.length_cons, List.length_nil, List.length_map]; omega
  · rw [f6]; simp
  · rw [f16]; simp only [List.length_map]; omega
  · rw [f18]; simp
  · exact fn
end Go.Proofs.YtjanpglnahagdaaGreatDoor
