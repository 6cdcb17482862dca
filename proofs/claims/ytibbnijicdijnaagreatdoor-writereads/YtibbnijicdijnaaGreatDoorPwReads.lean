/-
  WriteReads's walk.
-/
import Derived.Test.YtibbnijicdijnaaGreatDoorJ50
import Derived.Deep.CutRange
import Derived.Deep.CutBlock
namespace Go.Proofs.YtibbnijicdijnaaGreatDoor
open Go.RowKit

/-- How a call of the script ends. -/
def SwR (B b : Nat) (ov goal : Bool) (last : Int) (k6 : Bool) (M : Nat) (V : World) (v12 v13 v14 : Value) (wx : World) : Prop := ∃ n r D' last' ov' ad, v12 = .int .i64 n ∧ v13 = .int .i64 r ∧ v14 = .bool ad ∧ Kw B V wx ∧ LgD B b D' ov' last' goal wx ∧ tot (D'.map lnT) ≤ M ∧ ((r = 161 ∧ ov = true ∧ n = 0 ∧ last' = last ∧ ov' = true) ∨ (r = 160 ∧ ov = false ∧ n = 0 ∧ last' = last ∧ ov' = false) ∨ (r = 0 ∧ ov = false ∧ ad = true ∧ n = last + 1 ∧ last' = last + 1 ∧ ov' = false ∧ k6 = false) ∨ (r = 0 ∧ ov = false ∧ ad = false ∧ n = 0 ∧ last' = last ∧ ov' = k6))
theorem sw_mt {B b : Nat} {D : List SL} {ov goal ad : Bool} {last : Int} {d : SL} {M : Nat} {V w' : World} {n r : Int} {D' : List SL} {last' : Int} (k1 : Kw B V w') (k2 : LgD B b D' ov last' goal w') (k3 : (r = 0 ∧ ov = false ∧ D' = D ++ [d] ∧ n = (if ad = true then last + 1 else 0) ∧ last' = (if ad = true then last + 1 else last)) ∨ (r = 160 ∧ (ov = false ∧ Bad [d]) ∧ D' = D ∧ n = 0 ∧ last' = last) ∨ (r = 161 ∧ ov = true ∧ D' = D ∧ n = 0 ∧ last' = last)) (h1 : tot (D.map lnT) ≤ M) (h2 : tot ((D ++ [d]).map lnT) ≤ M) : SwR B b ov goal last false M V (.int .i64 n) (.int .i64 r) (.bool ad) w' := by
  rcases k3 with ⟨e1, e2, e3, e4, e5⟩ | ⟨e1, e2, e3, e4, e5⟩ | ⟨e1, e2, e3, e4, e5⟩
  · subst e3
    refine ⟨n, r, _, last', ov, ad, rfl, rfl, rfl, k1, k2, h2, ?_⟩
    cases ad with
    | true => exact .inr (.inr (.inl ⟨e1, e2, rfl, e4, e5, e2, rfl⟩))
    | false => exact .inr (.inr (.inr ⟨e1, e2, rfl, e4, e5, e2⟩))
  · subst e3
    exact ⟨n, r, _, last', ov, ad, rfl, rfl, rfl, k1, k2, h1, .inr (.inl ⟨e1, e2.1, e4, e5, e2.1⟩)⟩
  · subst e3
    exact ⟨n, r, _, last', ov, ad, rfl, rfl, rfl, k1, k2, h1, .inl ⟨e1, e2, e4, e5, e2⟩⟩
theorem sw_ly {B b : Nat} {D : List SL} {ov goal : Bool} {last : Int} {d : SL} {M : Nat} {V w' : World} {r : Int} {D' : List SL} (k1 : Kw B V w') (k2 : LgD B b D' ov last goal w') (k3 : (r = 0 ∧ ov = false ∧ D' = D ++ [d]) ∨ (r = 160 ∧ (ov = false ∧ Bad [d]) ∧ D' = D) ∨ (r = 161 ∧ ov = true ∧ D' = D)) (h1 : tot (D.map lnT) ≤ M) (h2 : tot ((D ++ [d]).map lnT) ≤ M) : SwR B b ov goal last false M V (.int .i64 0) (.int .i64 r) (.bool false) w' := by
  refine sw_mt (D := D) (d := d) (ad := false) k1 k2 ?_ h1 h2
  rcases k3 with ⟨e1, e2, e3⟩ | ⟨e1, e2, e3⟩ | ⟨e1, e2, e3⟩
  · exact .inl ⟨e1, e2, e3, rfl, rfl⟩
  · exact .inr (.inl ⟨e1, e2, e3, rfl, rfl⟩)
  · exact .inr (.inr ⟨e1, e2, e3, rfl, rfl⟩)
theorem sw_fi {B b : Nat} {D ds : List SL} {ov ov' goal : Bool} {last : Int} {M : Nat} {V w' : World} {r : Int} {D' : List SL} (k1 : Kw B V w') (k2 : LgD B b D' ov' last goal w') (k3 : (r = 0 ∧ ov = false ∧ D' = D ++ ds ∧ ov' = true) ∨ (r = 160 ∧ (ov = false ∧ Bad ds) ∧ D' = D ∧ ov' = false) ∨ (r = 161 ∧ ov = true ∧ D' = D ∧ ov' = true)) (h1 : tot (D.map lnT) ≤ M) (h2 : tot ((D ++ ds).map lnT) ≤ M) : SwR B b ov goal last true M V (.int .i64 0) (.int .i64 r) (.bool false) w' := by
  rcases k3 with ⟨e1, e2, e3, e4⟩ | ⟨e1, e2, e3, e4⟩ | ⟨e1, e2, e3, e4⟩
  · subst e3
    exact ⟨0, r, _, last, ov', false, rfl, rfl, rfl, k1, k2, h2, .inr (.inr (.inr ⟨e1, e2, rfl, rfl, rfl, e4⟩))⟩
  · subst e3
    exact ⟨0, r, _, last, ov', false, rfl, rfl, rfl, k1, k2, h1, .inr (.inl ⟨e1, e2.1, rfl, rfl, e4⟩)⟩
  · subst e3
    exact ⟨0, r, _, last, ov', false, rfl, rfl, rfl, k1, k2, h1, .inl ⟨e1, e2, rfl, rfl, e4⟩⟩
theorem new_tot {m : Int} {D : List SL} (h1 : I4 m) (h : D = [headS, countS m] ∨ (Bad [headS, countS m] ∧ D = [])) : tot (D.map lnT) ≤ 2000 := by
  have hs := itoa_short h1
  have i1 : SlI headS := sli_nil rfl rfl rfl
  have i2 : SlI (countS m) := sli_nil rfl rfl rfl
  have l1 := lnW_fine headS i1
  have l2 := lnW_fine (countS m) i2
  have b1 : stB headS = 4 := rfl
  have b2 : stB (countS m) = (Lib.itoa m).length + 4 := by unfold stB countS SL.zero; simp [tot]
  have n1 : tot headS.ids = 0 := rfl
  have n2 : tot (countS m).ids = 0 := rfl
  have t1 := lnT_tot headS
  have t2 := lnT_tot (countS m)
  have e0 : tot [] = 0 := rfl
  rcases h with rfl | ⟨_, rfl⟩
  · simp only [List.map_cons, List.map_nil, tot_cons]
    omega
  · simp only [List.map_nil]
    omega
theorem Hid.of {p : Prop} (h : p) : Hid p := h
/-- The rounds' state. -/
structure RdS (B b m : Nat) (goal : Bool) (os : List OpD) (i : Nat) (D : List SL) (ov : Bool) (last : Int) (w wr : World) : Prop where
  l : LgD B b D ov last goal wr
  t : tot (D.map lnT) ≤ 2000 + i * 2000 + 25 * fewS (os.take i)
  n0 : 0 ≤ last
  n1 : last ≤ (m : Int) + i
  b : Below w.heap.size w wr
theorem few_le (os : List OpD) (i : Nat) : fewS (os.take i) ≤ fewS os := by
  unfold fewS
  conv => rhs; rw [← List.take_append_drop i os]
  rw [List.map_append, List.sum_append]
  omega

set_option maxRecDepth 20000 in
set_option maxHeartbeats 8000000 in
theorem reads_any (rows : Int) (goal : Bool) (os : List OpD) (v : Value) (w : World) (hR : OpsR w v os) (hI : ∀ o ∈ os, OdI o) (hM : ∀ o ∈ os, OdM o) (hr : I64 rows) (hg : Gl w) (h12 : 12 ≤ w.heap.size) : Calls Tryz.prog 6 #[.int .i64 rows, .bool goal, v] w fun e w' => e = .returned (.bool true) ∧ Below w.heap.size w w' := by
  obtain ⟨a, c, rfl, hn, _⟩ := id hR
  have HR : Hid (OpsR w (.slice a os.length c) os) := hR
  have HI : Hid (∀ o ∈ os, OdI o) := hI
  have HKn : Hid (Calls Tryz.prog 20 #[] w fun e w' => e = .returned (.bool true) ∧ Below w.heap.size w w') := wknown_any w hg h12
  have HG : Hid (∀ w', Below w.heap.size w w' → Gl w' ∧ 12 ≤ w'.heap.size) := fun w' hb => ⟨hg.to hb h12, Nat.le_trans h12 hb.size⟩
  have HNum : Hid (∀ n w', Calls Tryz.prog 31 #[.int .i64 n] w' fun e w2 => e = .returned (.int .i64 n) ∧ w2 = w') := wnum_any
  have HFw : Hid (∀ w', Below w.heap.size w w' → Calls Tryz.prog 21 #[.slice a os.length c] w' (FwO os w')) := fun w' hb => few_any os _ w' (hR.below hb) hM
  have Hr : Hid (I64 rows) := hr
  clear hR hI hM hg h12 hr
  go_enter Tryz.func6, Tryz.ntmps6
  go_wp2_with fail
  refine calls_at HKn.out (by with_reducible rfl) (by with_reducible rfl) ?_
  rintro e w0 ⟨rfl, hb0⟩
  have HB0 : Hid (Below w.heap.size w w0) := hb0
  clear hb0 HKn
  go_wp2_with fail
  refine calls_at (HFw.out w0 HB0.out) (by with_reducible rfl) (by with_reducible rfl) ?_
  rintro e w1 ⟨bo, rfl, hfew, hb1⟩
  have HB1 : Hid (Below w.heap.size w w1) := bl_next HB0.out hb1
  have HFe : Hid (bo = true → fewS os ≤ 20000) := hfew
  clear hb1 hfew HFw
  cases bo with
  | false =>
    clear HFe
    go_wp2_with fail
    go_ret
    exact ⟨rfl, HB1.out⟩
  | true =>
  have hfs : fewS os ≤ 20000 := HFe.out rfl
  have HFs : Hid (fewS os ≤ 20000) := hfs
  clear HFe hfs
  by_cases h60 : (60 : Int) < (os.length : Int)
  · go_wp2_with fail
    go_ret
    exact ⟨rfl, HB1.out⟩
  by_cases hbig : 1152921504606846976 < rows
  · go_wp2_with fail
    go_ret
    exact ⟨rfl, HB1.out⟩
  obtain ⟨m, hm⟩ : ∃ m : Nat, max rows 0 = (m : Int) := ⟨(max rows 0).toNat, by omega⟩
  have hm60 : m ≤ 1152921504606846976 := by omega
  have HNw : Hid (Calls Tryz.prog 22 #[.int .i64 rows, .bool goal] w1 (NwO (m : Int) goal w1)) := new_log rows m goal w1 hm ⟨by omega, by omega⟩ (HG.out w1 HB1.out).1 (HG.out w1 HB1.out).2
  have hwr : wrap64 ((m : Int) + 1) = (m : Int) + 1 := by unfold wrap64; omega
  go_wp2_with fail
  refine calls_at HNw.out (by with_reducible rfl) (by with_reducible rfl) ?_
  rintro e w2 ⟨D0, rfl, hb2, hL2, hq⟩
  have hT0 := new_tot (m := m) ⟨by omega, by omega⟩ hq
  have HS0 : Hid (RdS w1.heap.size w1.heap.size m goal os 0 D0 false m w w2) := ⟨hL2, by simp only [Nat.zero_mul, List.take_zero, fewS, List.map_nil, List.sum_nil]; omega, by omega, by omega, bl_next HB1.out hb2⟩
  have HB12 : Hid (12 ≤ w1.heap.size) := (HG.out w1 HB1.out).2
  clear hb2 hL2 hq hT0 HNw
  obtain ⟨b, hb⟩ : ∃ b, w1.heap.size = b := ⟨_, rfl⟩
  have HBb : Hid (w.heap.size ≤ b) := by rw [← hb]; exact HB1.out.size
  rw [hb] at HS0 HB12
  rw [hb]
  clear hb HB1 HB0
  go_wp2_with fail
  go_loopw [8, 9, 10] (fun v8 v9 v10 wr => ∃ (i : Nat) (D : List SL) (last : Int) (ov : Bool), v8 = .int .i64 (last + 1) ∧ v9 = .bool ov ∧ v10 = .int .i64 (i : Int) ∧ i ≤ os.length ∧ Hid (RdS b b m goal os i D ov last w wr)) (fun _ _ v10 _ => os.length - (intOf v10).toNat)
  case atStart => exact ⟨0, D0, m, false, rfl, rfl, rfl, Nat.zero_le _, HS0.out⟩
  case round =>
    clear HS0 hm hwr
    obtain ⟨i, D, last, ov, rfl, rfl, rfl, hi, HS⟩ := hrel
    by_cases hin : i < os.length
    case neg =>
      have hiI : ¬ (i : Int) < (os.length : Int) := by omega
      have HE : Hid (Below w.heap.size w wr) := HS.out.b
      go_wp2_with fail
      go_ret
      exact ⟨rfl, HE.out⟩
    have hiI : (i : Int) < (os.length : Int) := by omega
    obtain ⟨a', c', z1, _, z3⟩ := HR.out.below HS.out.b
    obtain ⟨rfl, _, rfl⟩ : a = a' ∧ os.length = os.length ∧ c = c' := by simpa using z1
    obtain ⟨g, off, vp, vo, vl, rfl, hgl, hsl, hce⟩ := z3 i hin
    have hts := fewS_snoc os i hin
    have hoi := HI.out os[i] (List.getElem_mem hin)
    have hfl := few_le os (i + 1)
    obtain ⟨o, ho⟩ : ∃ o, os[i] = o := ⟨_, rfl⟩
    rw [ho] at hsl hce hts hoi
    obtain ⟨pa, pc, rfl, _, _⟩ := id hsl.p
    obtain ⟨qa, qc, rfl, _, _⟩ := id hsl.q
    obtain ⟨la, lc, rfl, _, _⟩ := id hsl.l
    have q0 : wr.cell? ⟨g, off + i * 10, none⟩ = some (.int .i64 o.kind) := hce 0 (by omega)
    have q1 : wr.cell? ⟨g, off + i * 10 + 1, none⟩ = some (.bool o.sec) := hce 1 (by omega)
    have q2 : wr.cell? ⟨g, off + i * 10 + 2, none⟩ = some (.slice pa o.pcs.length pc) := hce 2 (by omega)
    have q3 : wr.cell? ⟨g, off + i * 10 + 3, none⟩ = some (.string (txtOf o.deg)) := hce 3 (by omega)
    have q4 : wr.cell? ⟨g, off + i * 10 + 4, none⟩ = some (.slice qa o.ops.length qc) := hce 4 (by omega)
    have q5 : wr.cell? ⟨g, off + i * 10 + 5, none⟩ = some (.slice la o.l.length lc) := hce 5 (by omega)
    have q6 : wr.cell? ⟨g, off + i * 10 + 6, none⟩ = some (.int .i64 o.a) := hce 6 (by omega)
    have q7 : wr.cell? ⟨g, off + i * 10 + 7, none⟩ = some (.int .i64 o.b) := hce 7 (by omega)
    have q8 : wr.cell? ⟨g, off + i * 10 + 8, none⟩ = some (.int .i64 o.c) := hce 8 (by omega)
    have q9 : wr.cell? ⟨g, off + i * 10 + 9, none⟩ = some (.int .i64 o.d) := hce 9 (by omega)
    obtain ⟨V, hV⟩ : ∃ V, wr.alloc (.cells #[.int .i64 o.kind, .bool o.sec, .slice pa o.pcs.length pc, .string (txtOf o.deg), .slice qa o.ops.length qc, .slice la o.l.length lc, .int .i64 o.a, .int .i64 o.b, .int .i64 o.c, .int .i64 o.d] 61) = V := ⟨_, rfl⟩
    have hbV : Below wr.heap.size wr V := by rw [← hV]; exact (Below.refl _ _).alloc (Nat.le_refl _) _
    have gV : V.heap[wr.heap.size]? = some (.cells #[.int .i64 o.kind, .bool o.sec, .slice pa o.pcs.length pc, .string (txtOf o.deg), .slice qa o.ops.length qc, .slice la o.l.length lc, .int .i64 o.a, .int .i64 o.b, .int .i64 o.c, .int .i64 o.d] 61 (0, 0)) := by rw [← hV]; exact heap_alloc_new wr _
    have HgV : Hid (V.heap[wr.heap.size]? = some (.cells #[.int .i64 o.kind, .bool o.sec, .slice pa o.pcs.length pc, .string (txtOf o.deg), .slice qa o.ops.length qc, .slice la o.l.length lc, .int .i64 o.a, .int .i64 o.b, .int .i64 o.c, .int .i64 o.d] 61 (0, 0))) := gV
    have HSV : Hid (LgD b b D ov last goal V) := HS.out.l.below hbV
    have HBV : Hid (Below w.heap.size w V) := bl_next HS.out.b hbV
    have HOd : Hid (OdR V o (.slice pa o.pcs.length pc) (.slice qa o.ops.length qc) (.slice la o.l.length lc)) := hsl.below hbV
    have HOi : Hid (OdI o) := hoi
    have HW : Hid (fewW o ≤ 20000 ∧ fewS (os.take (i + 1)) = fewS (os.take i) + fewW o ∧ tot (D.map lnT) ≤ 8000000) := by
      have h1 := HFs.out
      have h2 := HS.out.t
      have h3 := few_le os i
      exact ⟨by omega, hts, by omega⟩
    have HLl : Hid (o.l.length ≤ 1000000) := by
      have h1 := HW.out.1
      unfold fewW at h1
      show _ ≤ _
      omega
    have HTm : Hid (tot (D.map lnT) ≤ 2000 + (i + 1) * 2000 + 25 * fewS (os.take (i + 1))) := by
      have h1 := HS.out.t
      have h2 := HW.out.2.1
      show _ ≤ _
      rw [h2]
      omega
    have HTn : Hid (∀ x, x ≤ tot (D.map lnT) + 2000 + 25 * fewW o → x ≤ 2000 + (i + 1) * 2000 + 25 * fewS (os.take (i + 1))) := fun x hx => by
      have h1 := HS.out.t
      have h2 := HW.out.2.1
      rw [h2]
      omega
    have HLt : Hid (0 ≤ last ∧ last ≤ 2000000000000000000) := ⟨HS.out.n0, by have := HS.out.n1; omega⟩
    have x0 : V.cell? ⟨wr.heap.size, 0, none⟩ = some (.int .i64 o.kind) := cell_of gV 0
    have x1 : V.cell? ⟨wr.heap.size, 1, none⟩ = some (.bool o.sec) := cell_of gV 1
    have x2 : V.cell? ⟨wr.heap.size, 2, none⟩ = some (.slice pa o.pcs.length pc) := cell_of gV 2
    have x3 : V.cell? ⟨wr.heap.size, 3, none⟩ = some (.string (txtOf o.deg)) := cell_of gV 3
    have x4 : V.cell? ⟨wr.heap.size, 4, none⟩ = some (.slice qa o.ops.length qc) := cell_of gV 4
    have x5 : V.cell? ⟨wr.heap.size, 5, none⟩ = some (.slice la o.l.length lc) := cell_of gV 5
    have x6 : V.cell? ⟨wr.heap.size, 6, none⟩ = some (.int .i64 o.a) := cell_of gV 6
    have x7 : V.cell? ⟨wr.heap.size, 7, none⟩ = some (.int .i64 o.b) := cell_of gV 7
    have x8 : V.cell? ⟨wr.heap.size, 8, none⟩ = some (.int .i64 o.c) := cell_of gV 8
    have x9 : V.cell? ⟨wr.heap.size, 9, none⟩ = some (.int .i64 o.d) := cell_of gV 9
    have HLn : Hid (last ≤ (m : Int) + ((i + 1 : Nat) : Int)) := by have := HS.out.n1; show _ ≤ _; omega
    obtain ⟨kd, hkd⟩ : ∃ kd : Int, o.kind = kd := ⟨_, rfl⟩
    rw [hkd] at q0 x0 HgV hV
    clear z1 z3 hgl hsl hce hts hoi hfl ho gV hbV hkd
    go_upto_block 2 with fail
    go_cut [12, 13, 14] from 41 to 203 (fun v12 v13 v14 wx => SwR b b ov goal last (kd == 6) (2000 + (i + 1) * 2000 + 25 * fewS (os.take (i + 1))) V v12 v13 v14 wx)
    case first =>
      as_aux_lemma =>
        clear q0 q1 q2 q3 q4 q5 q6 q7 q8 q9 hV HNum HS
        by_cases k1 : kd = 1
        · as_aux_lemma =>
            subst k1
            have HC := Hid.of (wrup_any o.pcs o.deg _ o.l _ V HSV.out HOd.out.p HOd.out.l HOi.out.l HLl.out (fit_rup o HOi.out HW.out.2.2 HW.out.1).1 HLt.out.1 HLt.out.2 (HG.out V HBV.out).1 HB12.out)
            go_wp2_with fail
            refine calls_at HC.out (by with_reducible rfl) (by with_reducible rfl) ?_
            rintro e w9 ⟨n, r, D2, last2, rfl, k1, k2, k3⟩
            have H1 : Hid (Kw b V w9) := k1
            have H2 := Hid.of k2
            have H3 := Hid.of k3
            clear k1 k2 k3 HC
            go_wp2_with fail
            go_meet
            exact sw_mt (ad := true) H1.out H2.out H3.out HTm.out (HTn.out _ (fit_rup o HOi.out HW.out.2.2 HW.out.1).2)
        by_cases k2 : kd = 2
        · as_aux_lemma =>
            subst k2
            have HC := Hid.of (pol_any o.ops _ V HSV.out HOd.out.q (fit_pol o HOi.out HW.out.2.2 HW.out.1).1 HLt.out.1 HLt.out.2 (HG.out V HBV.out).1 HB12.out)
            go_wp2_with fail
            refine calls_at HC.out (by with_reducible rfl) (by with_reducible rfl) ?_
            rintro e w9 ⟨n, r, D2, last2, rfl, k1, k2, k3⟩
            have H1 : Hid (Kw b V w9) := k1
            have H2 := Hid.of k2
            have H3 := Hid.of k3
            clear k1 k2 k3 HC
            go_wp2_with fail
            go_meet
            exact sw_mt (ad := true) H1.out H2.out H3.out HTm.out (HTn.out _ (fit_pol o HOi.out HW.out.2.2 HW.out.1).2)
        by_cases k3 : kd = 3
        · as_aux_lemma =>
            subst k3
            have HC := Hid.of (soli_any o.l _ V HSV.out HOd.out.l (fit_soli o HOi.out HW.out.2.2 HW.out.1).1 HLt.out.1 HLt.out.2 (HG.out V HBV.out).1 HB12.out)
            go_wp2_with fail
            refine calls_at HC.out (by with_reducible rfl) (by with_reducible rfl) ?_
            rintro e w9 ⟨n, r, D2, last2, rfl, k1, k2, k3⟩
            have H1 : Hid (Kw b V w9) := k1
            have H2 := Hid.of k2
            have H3 := Hid.of k3
            clear k1 k2 k3 HC
            go_wp2_with fail
            go_meet
            exact sw_mt (ad := goal) H1.out H2.out H3.out HTm.out (HTn.out _ (fit_soli o HOi.out HW.out.2.2 HW.out.1).2)
        by_cases k9 : kd = 9
        · as_aux_lemma =>
            subst k9
            have HC := Hid.of (solx_any o.l _ V HSV.out HOd.out.l (fit_solx o HOi.out HW.out.2.2 HW.out.1).1 HLt.out.1 HLt.out.2 (HG.out V HBV.out).1 HB12.out)
            go_wp2_with fail
            refine calls_at HC.out (by with_reducible rfl) (by with_reducible rfl) ?_
            rintro e w9 ⟨n, r, D2, last2, rfl, k1, k2, k3⟩
            have H1 : Hid (Kw b V w9) := k1
            have H2 := Hid.of k2
            have H3 := Hid.of k3
            clear k1 k2 k3 HC
            go_wp2_with fail
            go_meet
            exact sw_mt (ad := true) H1.out H2.out H3.out HTm.out (HTn.out _ (fit_solx o HOi.out HW.out.2.2 HW.out.1).2)
        by_cases k10 : kd = 10
        · as_aux_lemma =>
            subst k10
            have HC := Hid.of (wsame_any o.a o.pcs o.deg _ V HSV.out HOd.out.p HOi.out.a (fit_same o HOi.out HW.out.2.2 HW.out.1).1 (HG.out V HBV.out).1 HB12.out)
            go_wp2_with fail
            refine calls_at HC.out (by with_reducible rfl) (by with_reducible rfl) ?_
            rintro e w9 ⟨r, D2, rfl, k1, k2, k3⟩
            have H1 : Hid (Kw b V w9) := k1
            have H2 := Hid.of k2
            have H3 := Hid.of k3
            clear k1 k2 k3 HC
            go_wp2_with fail
            go_meet
            exact sw_ly H1.out H2.out H3.out HTm.out (HTn.out _ (fit_same o HOi.out HW.out.2.2 HW.out.1).2)
        by_cases k4 : kd = 4
        · as_aux_lemma =>
            subst k4
            have HC := Hid.of (wdel_any o.l _ V HSV.out HOd.out.l HOi.out.l HLl.out (fit_del o HOi.out HW.out.2.2 HW.out.1).1 (HG.out V HBV.out).1 HB12.out)
            go_wp2_with fail
            refine calls_at HC.out (by with_reducible rfl) (by with_reducible rfl) ?_
            rintro e w9 ⟨r, D2, rfl, k1, k2, k3⟩
            have H1 : Hid (Kw b V w9) := k1
            have H2 := Hid.of k2
            have H3 := Hid.of k3
            clear k1 k2 k3 HC
            go_wp2_with fail
            go_meet
            exact sw_ly H1.out H2.out H3.out HTm.out (HTn.out _ (fit_del o HOi.out HW.out.2.2 HW.out.1).2)
        by_cases k5 : kd = 5
        · as_aux_lemma =>
            subst k5
            have HC := Hid.of (note_any V HSV.out (fit_note o HW.out.2.2 HW.out.1).1 (HG.out V HBV.out).1 HB12.out)
            go_wp2_with fail
            refine calls_at HC.out (by with_reducible rfl) (by with_reducible rfl) ?_
            rintro e w9 ⟨r, D2, rfl, k1, k2, k3⟩
            have H1 : Hid (Kw b V w9) := k1
            have H2 := Hid.of k2
            have H3 := Hid.of k3
            clear k1 k2 k3 HC
            go_wp2_with fail
            go_meet
            exact sw_ly H1.out H2.out H3.out HTm.out (HTn.out _ (fit_note o HW.out.2.2 HW.out.1).2)
        by_cases k6 : kd = 6
        · as_aux_lemma =>
            subst k6
            have HC := Hid.of (wend_any o.a o.b o.c o.d V HSV.out HOi.out.b HOi.out.c HOi.out.d (fit_end o HOi.out HW.out.2.2 HW.out.1).1 (HG.out V HBV.out).1 HB12.out)
            go_wp2_with fail
            refine calls_at HC.out (by with_reducible rfl) (by with_reducible rfl) ?_
            rintro e w9 ⟨r, D2, ov2, rfl, k1, k2, k3⟩
            have H1 : Hid (Kw b V w9) := k1
            have H2 := Hid.of k2
            have H3 := Hid.of k3
            clear k1 k2 k3 HC
            go_wp2_with fail
            go_meet
            exact sw_fi H1.out H2.out H3.out HTm.out (HTn.out _ (fit_end o HOi.out HW.out.2.2 HW.out.1).2)
        have hnk : ¬ kd = 6 := k6
        go_wp2_with fail
        go_roundw
        case rel => exact ⟨i + 1, D, last, ov, rfl, rfl, by go_num, hin, HSV.out, HTm.out, HLt.out.1, HLn.out, HBV.out⟩
        case measure => simp [intOf]; omega
    case rest =>
      as_aux_lemma =>
        obtain ⟨n, r, D2, last2, ov2, ad, rfl, rfl, rfl, k1, k2, k3, k4⟩ := hcut
        have hb6 := k1.other _ _ _ _ HgV.out (by decide) (by decide)
        have c0 : wc.cell? ⟨wr.heap.size, 0, none⟩ = some (.int .i64 kd) := cell_of hb6 0
        have hl2 : last2 = last ∨ last2 = last + 1 := by
          rcases k4 with ⟨_, _, _, h, _⟩ | ⟨_, _, _, h, _⟩ | ⟨_, _, _, _, h, _⟩ | ⟨_, _, _, _, h, _⟩
          · exact .inl h
          · exact .inl h
          · exact .inr h
          · exact .inl h
        have hn2 : 0 ≤ last2 ∧ last2 ≤ 2000000000000000000 ∧ last2 ≤ (m : Int) + ((i + 1 : Nat) : Int) := by
          have h1 := HLt.out
          have h2 := HS.out.n1
          have h3 := h60
          omega
        have HBq : Hid (Below w.heap.size w wc) := HBV.out.trans (k1.low.mono HBb.out)
        have HTx : Hid (Calls Tryz.prog 32 #[.pointer (some ⟨b, 0, none⟩)] wc fun e w' => e = .returned (.string (txtOf (txt (D2.map lnT)))) ∧ w' = wc) := wtext_any wc k2.at_
        have HRd : Hid (Calls Tryz.prog 15 #[.string (txtOf (txt (D2.map lnT)))] wc fun e w' => ∃ a c, e = .returned (.tuple #[.slice a D2.length c, .nilIface]) ∧ StsR w' (.slice a D2.length c) D2 ∧ Below wc.heap.size wc w') := read_right_log (fun d hd => by
          have h1 : er (lnT d) = 0 := by show (parseP (lnT d)).2 = 0; rw [k2.ok d hd]
          have h2 : gd (lnT d) = d := by show (parseP (lnT d)).1 = d; rw [k2.ok d hd]
          obtain ⟨L, hL, _⟩ := er_right h1
          rw [h2] at hL
          exact ⟨L, hL⟩) k2.tot wc (HG.out wc HBq.out).1 (HG.out wc HBq.out).2
        have HSt : Hid (∀ w', Below wc.heap.size wc w' → Calls Tryz.prog 33 #[.pointer (some ⟨b, 0, none⟩)] w' fun e w'' => ∃ a c, e = .returned (.slice a D2.length c) ∧ StsR w'' (.slice a D2.length c) D2 ∧ Below w'.heap.size w' w'') := fun w' hb => wsteps_any w' (k2.below hb) (HG.out w' (bl_next HBq.out hb)).1 (HG.out w' (bl_next HBq.out hb)).2
        have HNx : Hid (∀ w', Below wc.heap.size wc w' → Calls Tryz.prog 34 #[.pointer (some ⟨b, 2, none⟩)] w' fun e w'' => e = .returned (.int .i64 (last2 + 1)) ∧ w'' = w') := fun w' hb => wnext_any w' (k2.below hb).at_ hn2.1 hn2.2.1
        have HEn : Hid (∀ w', Below wc.heap.size wc w' → RdS b b m goal os (i + 1) D2 ov2 last2 w w') := fun w' hb => ⟨k2.below hb, k3, hn2.1, hn2.2.2, bl_next HBq.out hb⟩
        have hwr2 : wrap64 (last + 1 + 1) = last + 1 + 1 := by have h1 := HLt.out; unfold wrap64; omega
        have hcs : (r = 161 ∧ ov = true ∧ n = 0 ∧ last2 = last ∧ ov2 = true) ∨ (r = 160 ∧ ov = false ∧ n = 0 ∧ last2 = last ∧ ov2 = false ∧ kd = 6) ∨ (r = 160 ∧ ov = false ∧ n = 0 ∧ last2 = last ∧ ov2 = false ∧ ¬ kd = 6) ∨ (r = 0 ∧ ov = false ∧ ad = true ∧ n = last + 1 ∧ last2 = last + 1 ∧ ov2 = false ∧ ¬ kd = 6) ∨ (r = 0 ∧ ov = false ∧ ad = false ∧ n = 0 ∧ last2 = last ∧ ov2 = true ∧ kd = 6) ∨ (r = 0 ∧ ov = false ∧ ad = false ∧ n = 0 ∧ last2 = last ∧ ov2 = false ∧ ¬ kd = 6) := by
          by_cases h6 : kd = 6
          · have e6 : (kd == 6) = true := by rw [h6]; rfl
            rw [e6] at k4
            rcases k4 with h | ⟨h1, h2, h3, h4, h5⟩ | ⟨_, _, _, _, _, _, h⟩ | ⟨h1, h2, h3, h4, h5, h7⟩
            · exact .inl h
            · exact .inr (.inl ⟨h1, h2, h3, h4, h5, h6⟩)
            · cases h
            · exact .inr (.inr (.inr (.inr (.inl ⟨h1, h2, h3, h4, h5, h7, h6⟩))))
          · have e6 : (kd == 6) = false := by simpa using h6
            rw [e6] at k4
            rcases k4 with h | ⟨h1, h2, h3, h4, h5⟩ | ⟨h1, h2, h3, h4, h5, h7, _⟩ | ⟨h1, h2, h3, h4, h5, h7⟩
            · exact .inl h
            · exact .inr (.inr (.inl ⟨h1, h2, h3, h4, h5, h6⟩))
            · exact .inr (.inr (.inr (.inl ⟨h1, h2, h3, h4, h5, h7, h6⟩)))
            · exact .inr (.inr (.inr (.inr (.inr ⟨h1, h2, h3, h4, h5, h7, h6⟩))))
        clear k1 k2 k3 k4 hb6 hl2 hn2 q0 q1 q2 q3 q4 q5 q6 q7 q8 q9 x0 x1 x2 x3 x4 x5 x6 x7 x8 x9 hV HgV HSV HOd HOi HW HLl HTm HTn HS HI HR HFs
        rcases hcs with ⟨rfl, rfl, rfl, rfl, rfl⟩ | ⟨rfl, rfl, rfl, rfl, rfl, rfl⟩ | ⟨rfl, rfl, rfl, rfl, rfl, h6⟩ | ⟨rfl, rfl, rfl, rfl, rfl, rfl, h6⟩ | ⟨rfl, rfl, rfl, rfl, rfl, rfl, rfl⟩ | ⟨rfl, rfl, rfl, rfl, rfl, rfl, h6⟩
        all_goals
          as_aux_lemma =>
            go_wp2_with fail
            repeat (refine calls_at (HNum.out _ _) (by with_reducible rfl) (by with_reducible rfl) ?_; rintro e wz ⟨rfl, hwz⟩; rw [hwz]; clear hwz wz; go_wp2_with fail)
            refine calls_at HTx.out (by with_reducible rfl) (by with_reducible rfl) ?_
            rintro e wz ⟨rfl, hwz⟩
            rw [hwz]
            clear hwz wz HTx
            go_wp2_with fail
            refine calls_at HRd.out (by with_reducible rfl) (by with_reducible rfl) ?_
            rintro e w3 ⟨a1, c1, rfl, hs3, hb3⟩
            have HS3 : Hid (StsR w3 (.slice a1 D2.length c1) D2) := hs3
            have HB3 : Hid (Below wc.heap.size wc w3) := hb3
            clear hs3 hb3 HRd
            go_wp2_with fail
            refine calls_at (HSt.out w3 HB3.out) (by with_reducible rfl) (by with_reducible rfl) ?_
            rintro e w4 ⟨a2, c2, rfl, hs4, hb4⟩
            have HS4 : Hid (StsR w4 (.slice a1 D2.length c1) D2 ∧ StsR w4 (.slice a2 D2.length c2) D2) := ⟨HS3.out.below hb4, hs4⟩
            have HB4 : Hid (Below wc.heap.size wc w4) := bl_next HB3.out hb4
            clear hs4 hb4 HSt HS3 HB3
            go_wp2_with fail
            refine calls_at (HNx.out w4 HB4.out) (by with_reducible rfl) (by with_reducible rfl) ?_
            rintro e wz ⟨rfl, hwz⟩
            rw [hwz]
            clear hwz wz HNx
            go_wp2_with fail
            go_loopw [18] (fun jv wy => ∃ j : Nat, jv = .int .i64 (j : Int) ∧ j ≤ D2.length ∧ Hid (Below w4.heap.size w4 wy)) (fun jv _ => D2.length - (intOf jv).toNat)
            case atStart => exact ⟨0, rfl, Nat.zero_le _, Below.refl _ _⟩
            case round =>
              obtain ⟨j, rfl, hj, HBy⟩ := hrel
              rename World => wy
              by_cases hjn : j < D2.length
              case neg =>
                have hjI : ¬ (j : Int) < (D2.length : Int) := by omega
                have HE : Hid (RdS b b m goal os (i + 1) D2 _ _ w wy) := HEn.out wy (bl_next HB4.out HBy.out)
                go_wp2_with fail
                go_roundw
                case rel => exact ⟨i + 1, D2, _, _, rfl, rfl, by go_num, hin, HE⟩
                case measure => simp [intOf]; omega
              have hjI : (j : Int) < (D2.length : Int) := by omega
              obtain ⟨a0, c0', e0, _, hC⟩ := HS4.out.1.below HBy.out
              obtain ⟨rfl, _, rfl⟩ : a1 = a0 ∧ D2.length = D2.length ∧ c1 = c0' := by simpa using e0
              obtain ⟨a0, c0', e0, _, hC2⟩ := HS4.out.2.below HBy.out
              obtain ⟨rfl, _, rfl⟩ : a2 = a0 ∧ D2.length = D2.length ∧ c2 = c0' := by simpa using e0
              obtain ⟨g1, off1, vo, vp, vl, vi, rfl, hgl, hsl, hce⟩ := hC j hjn
              obtain ⟨g2, off2, vo, vp, vl, vi, rfl, hgl2, hsl2, hce2⟩ := hC2 j hjn
              obtain ⟨d, hd⟩ : ∃ d, D2[j] = d := ⟨_, rfl⟩
              rw [hd] at hsl hce hsl2 hce2
              obtain ⟨oa1, oc1, rfl, _, _⟩ := id hsl.o
              obtain ⟨pa1, pc1, rfl, _, _⟩ := id hsl.p
              obtain ⟨la1, lc1, rfl, _, _⟩ := id hsl.l
              obtain ⟨ia1, ic1, rfl, _, _⟩ := id hsl.i
              obtain ⟨oa2, oc2, rfl, _, _⟩ := id hsl2.o
              obtain ⟨pa2, pc2, rfl, _, _⟩ := id hsl2.p
              obtain ⟨la2, lc2, rfl, _, _⟩ := id hsl2.l
              obtain ⟨ia2, ic2, rfl, _, _⟩ := id hsl2.i
              have HH : Hid (∀ w', Below wy.drew.heap.size wy.drew w' → (w'.cell? ⟨g1, off1 + j * 10, none⟩ = some (.int .i64 d.k) ∧ w'.cell? ⟨g1, off1 + j * 10 + 1, none⟩ = some (.string (txtOf d.n)) ∧ w'.cell? ⟨g1, off1 + j * 10 + 2, none⟩ = some (.slice oa1 d.ops.length oc1) ∧ w'.cell? ⟨g1, off1 + j * 10 + 3, none⟩ = some (.slice pa1 d.pcs.length pc1) ∧ w'.cell? ⟨g1, off1 + j * 10 + 4, none⟩ = some (.string (txtOf d.deg)) ∧ w'.cell? ⟨g1, off1 + j * 10 + 5, none⟩ = some (.slice la1 d.lits.length lc1) ∧ w'.cell? ⟨g1, off1 + j * 10 + 6, none⟩ = some (.slice ia1 d.ids.length ic1) ∧ w'.cell? ⟨g1, off1 + j * 10 + 7, none⟩ = some (.int .i64 d.ends) ∧ w'.cell? ⟨g1, off1 + j * 10 + 8, none⟩ = some (.string (txtOf d.low)) ∧ w'.cell? ⟨g1, off1 + j * 10 + 9, none⟩ = some (.string (txtOf d.high))) ∧ (w'.cell? ⟨g2, off2 + j * 10, none⟩ = some (.int .i64 d.k) ∧ w'.cell? ⟨g2, off2 + j * 10 + 1, none⟩ = some (.string (txtOf d.n)) ∧ w'.cell? ⟨g2, off2 + j * 10 + 2, none⟩ = some (.slice oa2 d.ops.length oc2) ∧ w'.cell? ⟨g2, off2 + j * 10 + 3, none⟩ = some (.slice pa2 d.pcs.length pc2) ∧ w'.cell? ⟨g2, off2 + j * 10 + 4, none⟩ = some (.string (txtOf d.deg)) ∧ w'.cell? ⟨g2, off2 + j * 10 + 5, none⟩ = some (.slice la2 d.lits.length lc2) ∧ w'.cell? ⟨g2, off2 + j * 10 + 6, none⟩ = some (.slice ia2 d.ids.length ic2) ∧ w'.cell? ⟨g2, off2 + j * 10 + 7, none⟩ = some (.int .i64 d.ends) ∧ w'.cell? ⟨g2, off2 + j * 10 + 8, none⟩ = some (.string (txtOf d.low)) ∧ w'.cell? ⟨g2, off2 + j * 10 + 9, none⟩ = some (.string (txtOf d.high)))) := fun w' hb => by
                have k1 := fun q hq => (hb.cell (p := ⟨g1, off1 + j * 10 + q, none⟩) hgl).trans (hce q hq)
                have k2 := fun q hq => (hb.cell (p := ⟨g2, off2 + j * 10 + q, none⟩) hgl2).trans (hce2 q hq)
                exact ⟨⟨k1 0 (by omega), k1 1 (by omega), k1 2 (by omega), k1 3 (by omega), k1 4 (by omega), k1 5 (by omega), k1 6 (by omega), k1 7 (by omega), k1 8 (by omega), k1 9 (by omega)⟩, k2 0 (by omega), k2 1 (by omega), k2 2 (by omega), k2 3 (by omega), k2 4 (by omega), k2 5 (by omega), k2 6 (by omega), k2 7 (by omega), k2 8 (by omega), k2 9 (by omega)⟩
              have HSm : Hid (Calls Tryz.prog 19 #[.agg #[.int .i64 d.k, .string (txtOf d.n), .slice oa1 d.ops.length oc1, .slice pa1 d.pcs.length pc1, .string (txtOf d.deg), .slice la1 d.lits.length lc1, .slice ia1 d.ids.length ic1, .int .i64 d.ends, .string (txtOf d.low), .string (txtOf d.high)], .agg #[.int .i64 d.k, .string (txtOf d.n), .slice oa2 d.ops.length oc2, .slice pa2 d.pcs.length pc2, .string (txtOf d.deg), .slice la2 d.lits.length lc2, .slice ia2 d.ids.length ic2, .int .i64 d.ends, .string (txtOf d.low), .string (txtOf d.high)]] wy.drew fun e w' => e = .returned (.bool true) ∧ Below wy.drew.heap.size wy.drew w') := same_eq d _ _ _ _ _ _ _ _ wy.drew (hsl.below (Below.refl _ _).drew) (hsl2.below (Below.refl _ _).drew)
              have HBd : Hid (Below w4.heap.size w4 wy.drew) := HBy.out.drew
              clear hce hce2 hsl hsl2 hC hC2 hd hgl hgl2
              go_wp2_with fail
              refine wp_region_T (fun w' => (w'.cell? ⟨g1, off1 + j * 10, none⟩ = some (.int .i64 d.k) ∧ w'.cell? ⟨g1, off1 + j * 10 + 1, none⟩ = some (.string (txtOf d.n)) ∧ w'.cell? ⟨g1, off1 + j * 10 + 2, none⟩ = some (.slice oa1 d.ops.length oc1) ∧ w'.cell? ⟨g1, off1 + j * 10 + 3, none⟩ = some (.slice pa1 d.pcs.length pc1) ∧ w'.cell? ⟨g1, off1 + j * 10 + 4, none⟩ = some (.string (txtOf d.deg)) ∧ w'.cell? ⟨g1, off1 + j * 10 + 5, none⟩ = some (.slice la1 d.lits.length lc1) ∧ w'.cell? ⟨g1, off1 + j * 10 + 6, none⟩ = some (.slice ia1 d.ids.length ic1) ∧ w'.cell? ⟨g1, off1 + j * 10 + 7, none⟩ = some (.int .i64 d.ends) ∧ w'.cell? ⟨g1, off1 + j * 10 + 8, none⟩ = some (.string (txtOf d.low)) ∧ w'.cell? ⟨g1, off1 + j * 10 + 9, none⟩ = some (.string (txtOf d.high))) ∧ (w'.cell? ⟨g2, off2 + j * 10, none⟩ = some (.int .i64 d.k) ∧ w'.cell? ⟨g2, off2 + j * 10 + 1, none⟩ = some (.string (txtOf d.n)) ∧ w'.cell? ⟨g2, off2 + j * 10 + 2, none⟩ = some (.slice oa2 d.ops.length oc2) ∧ w'.cell? ⟨g2, off2 + j * 10 + 3, none⟩ = some (.slice pa2 d.pcs.length pc2) ∧ w'.cell? ⟨g2, off2 + j * 10 + 4, none⟩ = some (.string (txtOf d.deg)) ∧ w'.cell? ⟨g2, off2 + j * 10 + 5, none⟩ = some (.slice la2 d.lits.length lc2) ∧ w'.cell? ⟨g2, off2 + j * 10 + 6, none⟩ = some (.slice ia2 d.ids.length ic2) ∧ w'.cell? ⟨g2, off2 + j * 10 + 7, none⟩ = some (.int .i64 d.ends) ∧ w'.cell? ⟨g2, off2 + j * 10 + 8, none⟩ = some (.string (txtOf d.low)) ∧ w'.cell? ⟨g2, off2 + j * 10 + 9, none⟩ = some (.string (txtOf d.high)))) (fun _ => True) [] (by kernel_rfl) ⟨HH.out _ (Below.refl _ _), trivial⟩ (fun hHeld => ?_)
              generalize wy.drew = U at hHeld HH HSm HBd ⊢
              refine wpAnyT_takeB (i := 0) (oi := ⟨some 194, .move (.tmp 15), _, _, _, _⟩) (v := ?_) rfl (by kernel_rfl) (by kernel_rfl) (by kernel_rfl) (by kernel_rfl) (fun _ _ _ h => h) (Or.inl ⟨by rfl, ?_⟩) (by assumption) ?_
              rotate_left
              · (intro w hSw; (try dsimp only at hSw); obtain ⟨⟨s0, s1, s2, s3, s4, s5, s6, s7, s8, s9⟩, r0, r1, r2, r3, r4, r5, r6, r7, r8, r9⟩ := hSw; go_simp; try (first | (with_reducible rfl) | exact (wrap_id (by omega) (by omega)).symm))
              try simp only [Act.put, List.setIfInBounds_toArray, List.set_cons_zero, List.set_cons_succ]
              refine wpAnyT_takeB (i := 1) (oi := ⟨some 195, .move (.tmp 18), _, _, _, _⟩) (v := ?_) rfl (by kernel_rfl) (by kernel_rfl) (by kernel_rfl) (by kernel_rfl) (fun _ _ _ h => h) (Or.inl ⟨by rfl, ?_⟩) (by assumption) ?_
              rotate_left
              · (intro w hSw; (try dsimp only at hSw); obtain ⟨⟨s0, s1, s2, s3, s4, s5, s6, s7, s8, s9⟩, r0, r1, r2, r3, r4, r5, r6, r7, r8, r9⟩ := hSw; go_simp; try (first | (with_reducible rfl) | exact (wrap_id (by omega) (by omega)).symm))
              try simp only [Act.put, List.setIfInBounds_toArray, List.set_cons_zero, List.set_cons_succ]
              refine wpAnyT_takeB (i := 2) (oi := ⟨some 196, .indexAddr 22 (.tmp 194) (.tmp 195), _, _, _, _⟩) (v := ?_) rfl (by kernel_rfl) (by kernel_rfl) (by kernel_rfl) (by kernel_rfl) (fun _ _ _ h => h) (Or.inl ⟨by rfl, ?_⟩) (by assumption) ?_
              rotate_left
              · (intro w hSw; (try dsimp only at hSw); obtain ⟨⟨s0, s1, s2, s3, s4, s5, s6, s7, s8, s9⟩, r0, r1, r2, r3, r4, r5, r6, r7, r8, r9⟩ := hSw; go_simp; try (first | (with_reducible rfl) | exact (wrap_id (by omega) (by omega)).symm))
              try simp only [Act.put, List.setIfInBounds_toArray, List.set_cons_zero, List.set_cons_succ]
              refine wpAnyT_takeB (i := 3) (oi := ⟨some 197, .load 45 (.tmp 196), _, _, _, _⟩) (v := ?_) rfl (by kernel_rfl) (by kernel_rfl) (by kernel_rfl) (by kernel_rfl) (fun _ _ _ h => h) (Or.inl ⟨by rfl, ?_⟩) (by assumption) ?_
              rotate_left
              · (intro w hSw; (try dsimp only at hSw); obtain ⟨⟨s0, s1, s2, s3, s4, s5, s6, s7, s8, s9⟩, r0, r1, r2, r3, r4, r5, r6, r7, r8, r9⟩ := hSw; go_simp; try (first | (with_reducible rfl) | exact (wrap_id (by omega) (by omega)).symm))
              try simp only [Act.put, List.setIfInBounds_toArray, List.set_cons_zero, List.set_cons_succ]
              refine wpAnyT_takeB (i := 4) (oi := ⟨some 198, .move (.tmp 17), _, _, _, _⟩) (v := ?_) rfl (by kernel_rfl) (by kernel_rfl) (by kernel_rfl) (by kernel_rfl) (fun _ _ _ h => h) (Or.inl ⟨by rfl, ?_⟩) (by assumption) ?_
              rotate_left
              · (intro w hSw; (try dsimp only at hSw); obtain ⟨⟨s0, s1, s2, s3, s4, s5, s6, s7, s8, s9⟩, r0, r1, r2, r3, r4, r5, r6, r7, r8, r9⟩ := hSw; go_simp; try (first | (with_reducible rfl) | exact (wrap_id (by omega) (by omega)).symm))
              try simp only [Act.put, List.setIfInBounds_toArray, List.set_cons_zero, List.set_cons_succ]
              refine wpAnyT_takeB (i := 5) (oi := ⟨some 199, .move (.tmp 18), _, _, _, _⟩) (v := ?_) rfl (by kernel_rfl) (by kernel_rfl) (by kernel_rfl) (by kernel_rfl) (fun _ _ _ h => h) (Or.inl ⟨by rfl, ?_⟩) (by assumption) ?_
              rotate_left
              · (intro w hSw; (try dsimp only at hSw); obtain ⟨⟨s0, s1, s2, s3, s4, s5, s6, s7, s8, s9⟩, r0, r1, r2, r3, r4, r5, r6, r7, r8, r9⟩ := hSw; go_simp; try (first | (with_reducible rfl) | exact (wrap_id (by omega) (by omega)).symm))
              try simp only [Act.put, List.setIfInBounds_toArray, List.set_cons_zero, List.set_cons_succ]
              refine wpAnyT_takeB (i := 6) (oi := ⟨some 200, .indexAddr 22 (.tmp 198) (.tmp 199), _, _, _, _⟩) (v := ?_) rfl (by kernel_rfl) (by kernel_rfl) (by kernel_rfl) (by kernel_rfl) (fun _ _ _ h => h) (Or.inl ⟨by rfl, ?_⟩) (by assumption) ?_
              rotate_left
              · (intro w hSw; (try dsimp only at hSw); obtain ⟨⟨s0, s1, s2, s3, s4, s5, s6, s7, s8, s9⟩, r0, r1, r2, r3, r4, r5, r6, r7, r8, r9⟩ := hSw; go_simp; try (first | (with_reducible rfl) | exact (wrap_id (by omega) (by omega)).symm))
              try simp only [Act.put, List.setIfInBounds_toArray, List.set_cons_zero, List.set_cons_succ]
              refine wpAnyT_takeB (i := 7) (oi := ⟨some 201, .load 45 (.tmp 200), _, _, _, _⟩) (v := ?_) rfl (by kernel_rfl) (by kernel_rfl) (by kernel_rfl) (by kernel_rfl) (fun _ _ _ h => h) (Or.inl ⟨by rfl, ?_⟩) (by assumption) ?_
              rotate_left
              · (intro w hSw; (try dsimp only at hSw); obtain ⟨⟨s0, s1, s2, s3, s4, s5, s6, s7, s8, s9⟩, r0, r1, r2, r3, r4, r5, r6, r7, r8, r9⟩ := hSw; go_simp; try (first | (with_reducible rfl) | exact (wrap_id (by omega) (by omega)).symm))
              try simp only [Act.put, List.setIfInBounds_toArray, List.set_cons_zero, List.set_cons_succ]
              refine wpAnyT_one (i := 8) (o := ⟨some 202, .call { callee := .value (.func 19), args := #[(.tmp 197), (.tmp 201)], argTypes := #[45, 45] }, _, _, _, _⟩) (by kernel_rfl) rfl (fun K hK => ?_)
              go_simp
              refine calls_at HSm.out (by with_reducible rfl) (by with_reducible rfl) ?_
              rintro e w7 ⟨rfl, hb7⟩
              have HB7 : Hid (Below U.heap.size U w7) := hb7
              clear hb7
              go_wp2_with fail
              have hHeld := (⟨HH.out _ HB7.out, trivial⟩ : _ ∧ True)
              refine hK.out _ _ ⟨hHeld.1, fun _ => trivial⟩ ?_
              clear hK K
              try simp only [Act.put, List.setIfInBounds_toArray, List.set_cons_zero, List.set_cons_succ]
              refine wpAnyT_takeB (i := 9) (oi := ⟨some 203, .unOp .not 4 (.tmp 202), _, _, _, _⟩) (v := ?_) rfl (by kernel_rfl) (by kernel_rfl) (by kernel_rfl) (by kernel_rfl) (fun _ _ _ h => h) (Or.inl ⟨by rfl, ?_⟩) (by assumption) ?_
              rotate_left
              · (intro w hSw; (try dsimp only at hSw); obtain ⟨⟨s0, s1, s2, s3, s4, s5, s6, s7, s8, s9⟩, r0, r1, r2, r3, r4, r5, r6, r7, r8, r9⟩ := hSw; go_simp; try (first | (with_reducible rfl) | exact (wrap_id (by omega) (by omega)).symm))
              try simp only [Act.put, List.setIfInBounds_toArray, List.set_cons_zero, List.set_cons_succ]
              refine wpAnyT_done (by kernel_rfl) ?_ _
              have HB8 : Hid (Below w4.heap.size w4 w7) := bl_next HBd.out HB7.out
              clear hHeld HH HSm HBd HB7
              go_wp2_with fail
              go_roundw
              case rel => exact ⟨j + 1, by go_num, hjn, HB8⟩
              case measure => simp [intOf]; omega
end Go.Proofs.YtibbnijicdijnaaGreatDoor
