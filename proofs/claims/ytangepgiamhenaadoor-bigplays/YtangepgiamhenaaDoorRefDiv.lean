/-
  The document's numbers: DivUp.
-/
import Derived.Test.YtangepgiamhenaaDoorRefMul
import Derived.Test.YtangepgiamhenaaDoorRefAdd
import Derived.Test.YtangepgiamhenaaDoorRefLess
import Derived.Test.YtangepgiamhenaaDoorDivUp
import Derived.Test.YtangepgiamhenaaDoorDivShort
import Derived.Laws.AppendOwnNone
namespace Go.Proofs.YtangepgiamhenaaDoor
open Go.RowKit
open Bn (limbs)

theorem limbs_mono2 {a b n : Nat} (h : a ≤ b) (hb : (limbs b).length ≤ n) : (limbs a).length ≤ n := by
  rw [Bn.limbs_length_le] at *; omega
theorem RowI.below {w w' : World} {b : Nat} {l : List Nat} (h : RowI w b l) (hb : Below w.heap.size w w') (hlt : b < w.heap.size) : RowI w' b l := fun j hj =>
  ⟨(hb.cell (p := ⟨b, j, none⟩) hlt).trans (h j hj).1, (hb.frozen (p := ⟨b, j, none⟩) hlt).trans (h j hj).2⟩
theorem RefAt.shape {w : World} {r : Value} {z : Int} (h : RefAt w r z) : ∃ (b : Bool) (p : Option Addr) (n c : Nat), r = .agg #[.bool b, .slice p n c] := by
  obtain ⟨p, c, h⟩ := h.form
  exact ⟨_, p, _, c, h⟩
/-- A row of the call's own, and one that is read, put together. -/
theorem append_ints {P : Program} {ops : Array Oper} {rest : List Oper} {o : Oper} {a : Act} {Q : Exit → Act → World → Prop} (wr : World) (hgd : o.guard = none) (s x : Operand) (t : TypeId)
    (ho : o.op = .call { callee := .builtin .append, args := #[s, x], argTypes := #[t, t] }) (base : Nat) (i : TypeInfo)
    (ht : P.underlying t = some (.slice 3)) (hi : P.info? 3 = some i) (hz : i.zero = some (.int .i64 0)) (hsize : i.size = 1) (hby : i.bytes = 8)
    (v : Value) (L : List Nat) (hs : a.eval s = v) (hown : wr.ownsRow base 3 1 v L.length (cellsOf L)) (u : Value) (M : List Nat) (hx : a.eval x = u) (hu : IntsAt wr u M)
    (hn : L.length + M.length ≤ 1000000000) (hbase : base ≤ wr.heap.size)
    (h : ∀ v' w', w'.ownsRow base 3 1 v' (L ++ M).length (cellsOf (L ++ M)) → Below base wr w' → wpList P ops Q rest (a.put o.dst v') w') : wpList P ops Q (o :: rest) a wr := by
  rcases hu with ⟨rfl, rfl⟩ | ⟨b, cap, rfl, hlt, hl, hm, hc⟩
  · refine wpList_append_own_none hgd s x t ho base 3 i 1 ht hi v L.length (cellsOf L) hs hown hx ?_
    refine h v wr ?_ (Below.refl _ _)
    rw [List.append_nil]; exact hown
  · refine wpList_append_own _ hgd s x t ho base 3 i (.int .i64 0) 1 8 ht hi hz hsize hby rfl (by decide) v L.length (cellsOf L) hs hown ⟨b, 0, none⟩ M.length cap (cellsOf M) hx (by simp [cellsOf]) ?_ ?_ (by unfold maxLen; omega) (by omega) hbase ?_
    · intro j u hj
      simp only [cellsOf, List.getElem?_map, Option.map_eq_some_iff] at hj
      obtain ⟨d, hd, rfl⟩ := hj
      obtain ⟨hj, rfl⟩ := List.getElem?_eq_some_iff.1 hd
      rw [add_none, Nat.zero_add]; exact hc j hj
    · intro u hu; simp only [cellsOf, List.mem_map] at hu; obtain ⟨d, _, rfl⟩ := hu; rfl
    · intro v' w' h1 h2 _
      refine h v' w' ?_ ((Below.refl base wr).grown h2 hbase (fun g hg => (hown.lt g hg).1))
      rw [List.length_append, show cellsOf (L ++ M) = cellsOf L ++ cellsOf M from by simp [cellsOf]]; exact h1

set_option maxRecDepth 100000 in
set_option maxHeartbeats 600000 in
/-- DivUp, by a number below 1. -/
theorem refDivUp_none (x y : Int) (va vb : Value) (w : World) (ha : RefAt w va x) (hb : RefAt w vb y) (hy : y < 1) :
    Calls Tryd.prog 30 #[va, vb] w fun e w' => ∃ r, e = .returned (.tuple #[r, .bool false]) ∧ RefAt w' r 0 ∧ Below w.heap.size w w' := by
  have HB : Hid (RefAt w vb y) := hb
  obtain ⟨p1, c1, rfl⟩ := ha.form
  obtain ⟨p2, c2, rfl⟩ := hb.form
  have hs : y.sign < 1 := by
    rcases Int.lt_trichotomy y 0 with h | h | h
    · rw [Int.sign_eq_neg_one_of_neg h]; decide
    · rw [h]; decide
    · omega
  generalize decide (x < 0) = d1 at *
  generalize decide (y < 0) = d2 at *
  clear ha hb hy
  go_enter Tryd.func30, Tryd.ntmps30
  go_wp2_with fail
  generalize hW : ((w.alloc (.cells #[.bool d1, .slice p1 (limbs x.natAbs).length c1] 30)).alloc (.cells #[.bool d2, .slice p2 (limbs y.natAbs).length c2] 30)).alloc (.cells #[.bool false, .slice none 0 0] 30) = W
  obtain ⟨hA, hB, hR, hBW, hsz⟩ := three_objs w _ _ _ hW
  clear hW
  refine (refSign_any y _ _ (HB.out.below hBW)).mono ?_
  rintro e w1 ⟨rfl, hb1⟩
  generalize y.sign = sy at *
  have hR3 := (hb1.block (w.heap.size + 1 + 1) (by omega)).trans hR
  obtain ⟨r0, r1, r2, r3⟩ := rbox_facts hR3
  obtain ⟨m0, m1⟩ := rbox_set hR3 (.bool false) (.slice none 0 0)
  go_wp2
  exact bodyPost_ret (v := .tuple #[.agg #[.bool false, .slice none 0 0], .bool false]) (by simp [results, Tryd.results30, go_sem, m0, m1]) rfl ⟨_, rfl, ⟨_, rfl, .inl ⟨rfl, rfl⟩⟩, ((hBW.trans (hb1.mono hBW.size)).setCell (p := ⟨w.heap.size + 1 + 1, 0, none⟩) (by show w.heap.size ≤ w.heap.size + 1 + 1; omega) _).setCell (p := ⟨w.heap.size + 1 + 1, 1, none⟩) (by show w.heap.size ≤ w.heap.size + 1 + 1; omega) _⟩

set_option maxRecDepth 100000 in
set_option maxHeartbeats 4000000 in
/-- DivUp, by a number above 0 (refDivUp_loop). -/
theorem refDivUp_any (x y : Int) (va vb : Value) (w : World) (ha : RefAt w va x) (hb : RefAt w vb y) (hx : (limbs x.natAbs).length ≤ 1000000) (hyl : (limbs y.natAbs).length ≤ 1000000) (hy : 0 < y) :
    Calls Tryd.prog 30 #[va, vb] w fun e w' => ∃ r, e = .returned (.tuple #[r, .bool true]) ∧ RefAt w' r (divUpI x y) ∧ Below w.heap.size w w' := by
  obtain ⟨i0, hi, hz0, hz1, hz2⟩ := info_parts Tryd.info3
  have HA : Hid (RefAt w va x) := ha
  have HB : Hid (RefAt w vb y) := hb
  obtain ⟨p1, c1, rfl⟩ := ha.form
  obtain ⟨p2, c2, rfl⟩ := hb.form
  have HIa : Hid (∀ w', Below w.heap.size w w' → IntsAt w' (.slice p1 (limbs x.natAbs).length c1) (limbs x.natAbs)) := fun w' hb => (RefAt.ints (HA.out.below hb)).2
  have HIb : Hid (∀ w', Below w.heap.size w w' → IntsAt w' (.slice p2 (limbs y.natAbs).length c2) (limbs y.natAbs)) := fun w' hb => (RefAt.ints (HB.out.below hb)).2
  have hs : y.sign = 1 := Int.sign_eq_one_of_pos hy
  have hxl : Hid ((limbs x.natAbs).length ≤ 1000000) := hx
  obtain ⟨d1, hd1⟩ : ∃ d1, d1 = decide (x < 0) := ⟨_, rfl⟩
  have E1 : Hid (d1 = decide (x < 0)) := hd1
  rw [← hd1]
  generalize decide (y < 0) = d2 at *
  obtain ⟨Y, hY⟩ : ∃ Y, Y = y.natAbs := ⟨_, rfl⟩
  obtain ⟨a, ea⟩ : ∃ a, a = limbs x.natAbs := ⟨_, rfl⟩
  have Ea : Hid (Bn.val a = x.natAbs) := by show _ = _; rw [ea, Bn.val_limbs']
  have hda : ∀ d ∈ a, d < 1000000000 := fun d h => by rw [ea] at h; exact Bn.limbs_lt' h
  have hY0 : 0 < Y := by omega
  have EY : Hid (Y = y.natAbs) := hY
  rw [← hY] at HIb HB hyl ⊢
  rw [← ea] at HIa hx ⊢
  clear ea ha hb hd1 HA hY
  have hmk : ∀ w, (Instr.makeSlice 28 (.int .i64 (a.length : Int)) (.int .i64 (a.length : Int))).run Tryd.prog w = .ok (.slice (some ⟨w.heap.size, 0, none⟩) a.length a.length) (w.alloc (.cells (madeCells #[.int .i64 0] a.length) 3)) :=
    run_make_row (P := Tryd.prog) 28 3 i0 (.int .i64 0) Tryd.underlying28 hi hz0 hz1 rfl .i64 .i64 a.length (by rw [hz2]; omega) (by omega)
  go_enter Tryd.func30, Tryd.ntmps30
  go_wp2_with fail
  generalize hW : ((w.alloc (.cells #[.bool d1, .slice p1 a.length c1] 30)).alloc (.cells #[.bool d2, .slice p2 (limbs Y).length c2] 30)).alloc (.cells #[.bool false, .slice none 0 0] 30) = W
  obtain ⟨hA, hB, hR, hBW, hsz⟩ := three_objs w _ _ _ hW
  clear hW
  refine (refSign_any y _ _ (HB.out.below hBW)).mono ?_
  rintro e w1 ⟨rfl, hb1⟩
  rw [hs]
  have hA1 := (hb1.block w.heap.size (by omega)).trans hA
  have hB1 := (hb1.block (w.heap.size + 1) (by omega)).trans hB
  have hR1 := (hb1.block (w.heap.size + 1 + 1) (by omega)).trans hR
  have hw1 : Below w.heap.size w w1 := hBW.trans (hb1.mono hBW.size)
  have hs1 : w.heap.size + 3 ≤ w1.heap.size := by have := hb1.size; omega
  obtain ⟨k0, k1, _, _⟩ := rbox_facts hA1
  clear hA hB hR hBW hsz hb1 HB hs
  obtain ⟨V, hV⟩ : ∃ V, w1.alloc (.cells (madeCells #[.int .i64 0] a.length) 3) = V := ⟨_, rfl⟩
  have hVW : Below w1.heap.size w1 V := by rw [← hV]; exact (Below.refl _ _).alloc (Nat.le_refl _) _
  have hRow : RowI V w1.heap.size (List.replicate a.length 0) := by rw [← hV]; exact RowI.made w1 _
  have hVs : w1.heap.size < V.heap.size := by rw [← hV]; simp
  have hAV := (hVW.block w.heap.size (by omega)).trans hA1
  have hBV := (hVW.block (w.heap.size + 1) (by omega)).trans hB1
  have hRV := (hVW.block (w.heap.size + 1 + 1) (by omega)).trans hR1
  have HwV : Hid (Below w.heap.size w V) := hw1.trans (hVW.mono hw1.size)
  obtain ⟨a0, a1, _, _⟩ := rbox_facts hAV
  go_wp2_with fail
  clear hV hVW hA1 hB1 hR1 hw1 k0 k1 hmk
  obtain ⟨qb, hqb⟩ : ∃ qb, qb = w1.heap.size := ⟨_, rfl⟩
  rw [← hqb] at hRow hVs hs1
  rw [← hqb]
  clear hqb
  have HR0 : Hid (RowI V qb (List.replicate a.length 0)) := hRow
  clear hRow
  go_loopw [6, 8] (fun rv iv wr => ∃ (k R : Nat) (q : List Nat), iv = .int .i64 ((k : Int) - 1) ∧ k ≤ a.length ∧ IntsAt wr rv (limbs R) ∧ R < Y ∧ Hid (q.length + k = a.length ∧ (∀ d ∈ q, d < 1000000000) ∧ Bn.val (a.drop k) = Y * Bn.val q + R) ∧ RowI wr qb (List.replicate k 0 ++ q) ∧ Below qb V wr) (fun _ iv _ => (intOf iv + 1).toNat)
  case atStart => exact ⟨a.length, 0, [], rfl, Nat.le_refl _, .inl ⟨rfl, rfl⟩, hY0, ⟨by simp, by simp, by rw [List.drop_length]; simp [Bn.val]⟩, by rw [List.append_nil]; exact HR0.out, Below.refl _ _⟩
  case round =>
    obtain ⟨k, R, q, rfl, hk, hIr, hRY, HQ, hrow, hbel⟩ := hrel
    cases k with
    | zero =>
      have hwwr : Below w.heap.size w wr := HwV.out.trans (hbel.mono (by omega))
      have hqw : qb < wr.heap.size := Nat.lt_of_lt_of_le hVs hbel.size
      obtain ⟨p6, c6, hv6, _⟩ := hIr.form
      subst hv6
      have hvq := HQ.out.2.2
      rw [List.drop_zero, Ea.out] at hvq
      have Hq1 : Hid (Bn.val q = x.natAbs / y.natAbs) := by
        show _ = _
        rw [hvq, ← EY.out, Nat.mul_add_div hY0, Nat.div_eq_of_lt hRY, Nat.add_zero]
      have Hq2 : Hid (x.natAbs % y.natAbs = R) := by
        show _ = _
        rw [hvq, ← EY.out, Nat.mul_add_mod, Nat.mod_eq_of_lt hRY]
      have hql : q.length = a.length := by have := HQ.out.1; omega
      obtain ⟨S, hSe⟩ : ∃ S, S = sg d1 (Bn.val q) := ⟨_, rfl⟩
      have ES : Hid (S = sg d1 (Bn.val q)) := hSe
      clear hSe
      have HM : Hid (Calls Tryd.prog 38 #[.bool d1, .slice (some ⟨qb, 0, none⟩) a.length a.length] wr fun e w' => ∃ r, e = .returned r ∧ RefAt w' r S ∧ Below wr.heap.size wr w') := by
        have hI : IntsAt wr (.slice (some ⟨qb, 0, none⟩) q.length q.length) q := .inr ⟨qb, q.length, rfl, hqw, Nat.le_refl _, by unfold maxLen; omega, fun j hj => by have := hrow j (by simpa using hj); simpa using this.1⟩
        rw [hql] at hI
        rw [ES.out]; exact refMade_any d1 q _ wr hI HQ.out.2.1
      obtain ⟨a0, a1, _, _⟩ := rbox_facts ((hbel.block w.heap.size (by omega)).trans hAV)
      have hRw := (hbel.block (w.heap.size + 1 + 1) (by omega)).trans hRV
      have HRl : Hid (((limbs R).length = 0 ↔ R = 0)) := ⟨fun h => Bn.limbs_eq_nil.1 (List.eq_nil_of_length_eq_zero h), fun h => by rw [h]; rfl⟩
      clear hvq hql hrow hIr
      go_wp2_with fail
      refine HM.out.mono ?_
      rintro e w2 ⟨r, rfl, hr, hb2⟩
      obtain ⟨p4, c4, hr4⟩ := hr.form
      subst hr4
      generalize decide (S < 0) = dn at *
      generalize (limbs S.natAbs).length = ln at *
      have hw2 : Below w.heap.size w w2 := hwwr.trans (hb2.mono hwwr.size)
      obtain ⟨W3, hW3⟩ : ∃ W3, w2.alloc (.cells #[.bool dn, .slice p4 ln c4] 30) = W3 := ⟨_, rfl⟩
      have hB3 : Below w2.heap.size w2 W3 := by rw [← hW3]; exact (Below.refl _ _).alloc (Nat.le_refl _) _
      have bO : W3.heap[w2.heap.size]? = some (.cells #[.bool dn, .slice p4 ln c4] 30) := by rw [← hW3]; exact World.alloc_heap_new w2 _
      have hs3 : W3.heap.size = w2.heap.size + 1 := by rw [← hW3]; simp
      have hR2 := (hb2.block (w.heap.size + 1 + 1) (by have := hbel.size; omega)).trans hRw
      have hs2 := hb2.size
      have hbs := hbel.size
      have hR3 := (hB3.block (w.heap.size + 1 + 1) (by omega)).trans hR2
      have hA3 := (hB3.block w.heap.size (by omega)).trans ((hb2.block w.heap.size (by omega)).trans ((hbel.block w.heap.size (by omega)).trans hAV))
      obtain ⟨o0, o1, o2, o3⟩ := rbox_facts bO
      obtain ⟨r0, r1, r2, r3⟩ := rbox_facts hR3
      obtain ⟨f0, f1, _, _⟩ := rbox_facts hA3
      have hfin : Below w.heap.size w W3 := hw2.trans (hB3.mono hw2.size)
      clear a0 a1 HM
      cases d1 with
      | true =>
        have HE : Hid (S = divUpI x y) := by show _ = _; rw [ES.out, Hq1.out]; exact divUp_below hy (of_decide_eq_true E1.out.symm)
        have hr' : RefAt w2 (.agg #[.bool dn, .slice p4 ln c4]) (divUpI x y) := by rw [← HE.out]; exact hr
        obtain ⟨m0, m1⟩ := rbox_set hR3 (.bool dn) (.slice p4 ln c4)
        go_wp2_with fail
        exact bodyPost_ret (v := .tuple #[.agg #[.bool dn, .slice p4 ln c4], .bool true]) (by simp [results, Tryd.results30, go_sem, m0, m1]) rfl ⟨_, rfl, (hr'.below hB3).setBox hR3 _ _, (hfin.setCell (p := ⟨w.heap.size + 1 + 1, 0, none⟩) (by show w.heap.size ≤ w.heap.size + 1 + 1; omega) _).setCell (p := ⟨w.heap.size + 1 + 1, 1, none⟩) (by show w.heap.size ≤ w.heap.size + 1 + 1; omega) _⟩
      | false =>
        have hx0 : ¬ x < 0 := of_decide_eq_false E1.out.symm
        by_cases hR0 : R = 0
        · have hl0 : (limbs R).length = 0 := HRl.out.2 hR0
          have HE : Hid (S = divUpI x y) := by show _ = _; rw [ES.out, Hq1.out]; exact divUp_exact hy E1.out (decide_eq_true (by rw [Hq2.out]; exact hR0))
          have hr' : RefAt w2 (.agg #[.bool dn, .slice p4 ln c4]) (divUpI x y) := by rw [← HE.out]; exact hr
          obtain ⟨m0, m1⟩ := rbox_set hR3 (.bool dn) (.slice p4 ln c4)
          go_wp2_with fail
          exact bodyPost_ret (v := .tuple #[.agg #[.bool dn, .slice p4 ln c4], .bool true]) (by simp [results, Tryd.results30, go_sem, m0, m1]) rfl ⟨_, rfl, (hr'.below hB3).setBox hR3 _ _, (hfin.setCell (p := ⟨w.heap.size + 1 + 1, 0, none⟩) (by show w.heap.size ≤ w.heap.size + 1 + 1; omega) _).setCell (p := ⟨w.heap.size + 1 + 1, 1, none⟩) (by show w.heap.size ≤ w.heap.size + 1 + 1; omega) _⟩

        · have hl0 : (0 : Int) < ((limbs R).length : Int) := by
            rcases Nat.eq_zero_or_pos (limbs R).length with h | h
            · exact absurd (HRl.out.1 h) hR0
            · omega
          have HE : Hid (S + 1 = divUpI x y) := by show _ = _; rw [ES.out, Hq1.out]; exact divUp_above hy hx0 (by rw [Hq2.out]; exact hR0)
          have hr3 : RefAt W3 (.agg #[.bool dn, .slice p4 ln c4]) S := hr.below hB3
          have hSl : (limbs S.natAbs).length ≤ 1000000 := by
            rw [ES.out, sg_abs, Hq1.out]
            exact limbs_mono2 (Nat.div_le_self _ _) hxl.out
          have HAd : Hid (∀ w4 vo, Below W3.heap.size W3 w4 → RefAt w4 vo 1 → Calls Tryd.prog 24 #[.agg #[.bool dn, .slice p4 ln c4], vo] w4 fun e w' => ∃ r, e = .returned r ∧ RefAt w' r (divUpI x y) ∧ Below w4.heap.size w4 w') := fun w4 vo h hv => by
            have := refAdd_any S 1 _ _ w4 (hr3.below h) hv hSl one_len
            rw [HE.out] at this; exact this
          clear hr r0 r1 r2 r3 f1
          go_wp2_with fail
          clear hW3
          go_region_with (first
            | (go_at_call 15; refine calls_at (refOf_any 1 _ (by decide) (by decide)) (by with_reducible rfl) (by with_reducible rfl) ?_; rintro e w4 ⟨vo, rfl, hro, hb4⟩; obtain ⟨bo, po, no, co, hvo⟩ := hro.shape; subst hvo; obtain ⟨g0, g1, _, _⟩ := rbox_facts ((hb4.block w2.heap.size (by show w2.heap.size < W3.heap.size; omega)).trans bO); have hb34 : Below W3.heap.size W3 w4 := (Below.refl W3.heap.size W3).drew.trans hb4)
            | (go_at_call 24; refine calls_at (HAd.out w4 _ hb34 hro) (by with_reducible rfl) (by with_reducible rfl) ?_; rintro e w5 ⟨r5, rfl, hr5, hb5⟩; obtain ⟨p5, c5, hv5⟩ := hr5.form; subst hv5; have hb35 : Below W3.heap.size W3 w5 := hb34.trans (hb5.mono hb34.size); have bO5 := (hb35.block w2.heap.size (by omega)).trans bO; obtain ⟨t0, t1, t2, t3⟩ := rbox_facts bO5))
          all_goals
            generalize decide (divUpI x y < 0) = d5 at *
            generalize (limbs (divUpI x y).natAbs).length = l5 at *
            obtain ⟨W6, hW6⟩ : ∃ W6, (w5.setCell ⟨w2.heap.size, 0, none⟩ (.bool d5)).setCell ⟨w2.heap.size, 1, none⟩ (.slice p5 l5 c5) = W6 := ⟨_, rfl⟩
            obtain ⟨s0, s1⟩ := rbox_set bO5 (.bool d5) (.slice p5 l5 c5)
            have hr6 := hr5.setBox bO5 d5 (.slice p5 l5 c5)
            have hfin5 : Below w.heap.size w w5 := hfin.trans (hb35.mono hfin.size)
            have hfin6 : Below w.heap.size w W6 := by rw [← hW6]; exact (hfin5.setCell (p := ⟨w2.heap.size, 0, none⟩) (by show w.heap.size ≤ w2.heap.size; omega) _).setCell (p := ⟨w2.heap.size, 1, none⟩) (by show w.heap.size ≤ w2.heap.size; omega) _
            have hR6 : W6.heap[w.heap.size + 1 + 1]? = some (.cells #[.bool false, .slice none 0 0] 30) := by
              rw [← hW6]
              refine (Below.heap_setCell _ ⟨w2.heap.size, 1, none⟩ _ _ (by show w.heap.size + 1 + 1 ≠ w2.heap.size; omega)).trans ((Below.heap_setCell _ ⟨w2.heap.size, 0, none⟩ _ _ (by show w.heap.size + 1 + 1 ≠ w2.heap.size; omega)).trans ((hb35.block _ (by omega)).trans hR3))
            rw [hW6] at s0 s1 hr6
            obtain ⟨r0, r1, r2, r3⟩ := rbox_facts hR6
            obtain ⟨m0, m1⟩ := rbox_set hR6 (.bool d5) (.slice p5 l5 c5)
            have hr7 := hr6.setBox hR6 d5 (.slice p5 l5 c5)
            clear hr5 hr6
            go_wp2_with fail
            exact bodyPost_ret (v := .tuple #[.agg #[.bool d5, .slice p5 l5 c5], .bool true]) (by simp [results, Tryd.results30, go_sem, m0, m1]) rfl ⟨_, rfl, hr7, (hfin6.setCell (p := ⟨w.heap.size + 1 + 1, 0, none⟩) (by show w.heap.size ≤ w.heap.size + 1 + 1; omega) _).setCell (p := ⟨w.heap.size + 1 + 1, 1, none⟩) (by show w.heap.size ≤ w.heap.size + 1 + 1; omega) _⟩
    | succ j =>
      have hj : j < a.length := by omega
      have hwwr : Below w.heap.size w wr := HwV.out.trans (hbel.mono (by omega))
      have hqw : qb < wr.heap.size := Nat.lt_of_lt_of_le hVs hbel.size
      obtain ⟨a0, a1, _, _⟩ := rbox_facts ((hbel.block w.heap.size (by omega)).trans hAV)
      obtain ⟨ba, rfl, hca⟩ := ints_at (HIa.out wr hwwr) rfl hj
      have hxb := lAt_lt hda j
      obtain ⟨x0, hx0⟩ : ∃ x0, x0 = lAt a j := ⟨_, rfl⟩
      have HX0 : Hid (Bn.val (a.drop j) = x0 + 1000000000 * Bn.val (a.drop (j + 1))) := by show _ = _; rw [hx0, lAt_get hj]; exact val_at a j hj
      rw [← hx0] at hca hxb
      clear hx0
      have hjI : (j : Int) < (a.length : Int) := by omega
      obtain ⟨W2, hW2⟩ : ∃ W2, wr.alloc (.cells #[.int .i64 (x0 : Int)] 3) = W2 := ⟨_, rfl⟩
      have hb2 : Below wr.heap.size wr W2 := by rw [← hW2]; exact (Below.refl _ _).alloc (Nat.le_refl _) _
      have hs2 : wr.heap.size < W2.heap.size := by rw [← hW2]; simp
      have hown : W2.ownsRow wr.heap.size 3 1 (.slice (some ⟨wr.heap.size, 0, none⟩) [x0].length 1) [x0].length (cellsOf [x0]) := by
        rw [← hW2]; exact World.ownsRow_lit wr #[.int .i64 (x0 : Int)] 1 (Nat.le_refl _) (by decide) rfl
      have hIr2 : IntsAt W2 u6 (limbs R) := hIr.below hb2
      have hRl : (limbs R).length ≤ 1000001 := by
        have := limbs_mono2 (Nat.le_of_lt hRY) hyl; omega
      go_wp2_with (at_builtin; refine append_ints W2 rfl _ _ 28 rfl wr.heap.size i0 Tryd.underlying28 hi hz0 hz1 hz2 _ [x0] (by rfl) hown u6 (limbs R) (by rfl) hIr2 (by simp; omega) (Nat.le_of_lt hs2) ?_; intro v3 w3 hown3 hb3)
      obtain ⟨R', hR'⟩ : ∃ R', R' = x0 + 1000000000 * R := ⟨_, rfl⟩
      have hLd : ∀ d ∈ [x0] ++ limbs R, d < 1000000000 := fun d hd => by
        rcases List.mem_append.1 hd with h | h
        · rw [List.mem_singleton.1 h]; exact hxb
        · exact Bn.limbs_lt' h
      have HT : Hid (trim ([x0] ++ limbs R) = limbs R') := by
        show _ = _
        rw [trim_eq _ hLd, Bn.val_append, Bn.val_limbs', hR']; simp [Bn.val]
      have hb23 : Below wr.heap.size wr w3 := hb2.trans hb3
      have hv3 : ∀ g, v3.ownBlock = some g → wr.heap.size ≤ g := fun g hg => (hown3.lt g hg).1
      refine (refSize_any _ v3 w3 (IntsAt.of_owns hown3) hLd).mono ?_
      rintro e w4 ⟨v4, rfl, hI4, rfl, hob4⟩
      rw [HT.out] at hI4
      have hne4 : v4.ownBlock ≠ some qb := fun h => by rw [hob4] at h; have := hv3 _ h; omega
      have hR'b : R' < 1000000000 * Y := by omega
      have HR' : Hid (R' = x0 + 1000000000 * R) := hR'
      obtain ⟨p4, c4, hv4, _⟩ := hI4.form
      subst hv4
      have HI4 : Hid (∀ w5, Below w4.heap.size w4 w5 → IntsAt w5 (.slice p4 (limbs R').length c4) (limbs R')) := fun w5 h => hI4.below h
      have hw4 : Below w.heap.size w w4 := hwwr.trans (hb23.mono hwwr.size)
      have hbq4 : Below qb V w4 := hbel.trans (hb23.mono (Nat.le_of_lt hqw))
      have hrow4 := hrow.below hb23 hqw
      have hB4 := (hbq4.block (w.heap.size + 1) (by omega)).trans hBV
      have hqw4 : qb < w4.heap.size := Nat.lt_of_lt_of_le hqw hb23.size
      clear hR' hLd hv3 hown3 hown hIr2 hIr hb2 hs2 hW2 hI4 hob4 hb3 hb23 hbel hrow hwwr hqw a0 a1 hca HT
      go_wp2_with fail
      go_loopw [10, 11] (fun lv hv wr' => ∃ lo hi : Nat, lv = .int .i64 (lo : Int) ∧ hv = .int .i64 (hi : Int) ∧ lo ≤ hi ∧ hi ≤ 999999999 ∧ lo * Y ≤ R' ∧ R' < (hi + 1) * Y ∧ Below w4.heap.size w4 wr') (fun lv hv _ => (intOf hv - intOf lv).toNat)
      case atStart => exact ⟨0, 999999999, rfl, rfl, by omega, by omega, by omega, by omega, Below.refl _ _⟩
      case round =>
        obtain ⟨lo, hi', rfl, rfl, h1, h2, h3, h4, h5⟩ := hrel
        obtain ⟨b0, b1, _, _⟩ := rbox_facts ((h5.block (w.heap.size + 1) (by omega)).trans hB4)
        have HTm : Hid (∀ (mid : Nat) (w5 : World), mid < 1000000000 → Below w4.heap.size w4 w5 → Calls Tryd.prog 63 #[.slice p2 (limbs Y).length c2, .int .i64 (mid : Int)] w5 fun e w6 => ∃ v, e = .returned v ∧ IntsAt w6 v (limbs (Y * mid)) ∧ Below w5.heap.size w5 w6) := fun mid w5 hm h => by
          have := times_any (limbs Y) mid _ w5 (HIb.out w5 (hw4.trans (h.mono hw4.size))) (fun d h => Bn.limbs_lt' h) hm (by omega)
          rw [Bn.val_limbs'] at this; exact this
        by_cases hlh : lo < hi'
        · have hlhI : (lo : Int) < (hi' : Int) := by omega
          obtain ⟨mid, hmid⟩ : ∃ mid, mid = (lo + hi' + 1) / 2 := ⟨_, rfl⟩
          have hm1 : lo < mid ∧ mid ≤ hi' := by omega
          have hmI : ((lo : Int) + (hi' : Int) + 1) / 2 = (mid : Int) := by omega
          clear hmid
          have hcc : ∃ cc : Int, cmpI ((Y * mid : Nat) : Int) (R' : Int) = cc := ⟨_, rfl⟩
          obtain ⟨cc, hcc⟩ := hcc
          have Ecc : Hid (cmpI ((Y * mid : Nat) : Int) (R' : Int) = cc) := hcc
          by_cases hle : Y * mid ≤ R'
          · have hc0 : cc ≤ 0 := by
              rw [← hcc]
              rcases Nat.lt_or_ge (Y * mid) R' with h | h
              · rw [cmpI_lt (by omega)]; decide
              · rw [cmpI_eq (by omega) (by omega)]; decide
            clear hcc
            have Hle : Hid (mid * Y ≤ R') := by rw [Nat.mul_comm]; exact hle
            clear hle
            go_wp2_with (first
              | (go_at_call 63; refine calls_at (HTm.out mid _ (by omega) h5) (by with_reducible rfl) (by with_reducible rfl) ?_; rintro e w6 ⟨v6, rfl, hI6, hb6⟩; obtain ⟨p6, c6, hv6, _⟩ := hI6.form; subst hv6)
              | (go_at_call 54; refine calls_at (sizes_any (Y * mid) R' _ _ _ hI6 (HI4.out _ (h5.trans (hb6.mono h5.size)))) (by with_reducible rfl) (by with_reducible rfl) ?_; rintro e w7 ⟨rfl, hb7⟩; rw [Ecc.out]))
            have hb57 : Below w4.heap.size w4 w7 := (h5.trans (hb6.mono h5.size)).trans (hb7.mono (Nat.le_trans h5.size hb6.size))
            exact ⟨⟨mid, hi', rfl, rfl, by omega, h2, Hle.out, h4, hb57⟩, by simp [intOf]; omega⟩
          · have hc1 : cc = 1 := by rw [← hcc]; exact cmpI_gt (by omega)
            subst hc1
            clear hcc
            have Hgt : Hid (R' < (mid - 1 + 1) * Y) := by
              show _ < _
              rw [Nat.sub_add_cancel (by omega), Nat.mul_comm]; omega
            clear hle
            go_wp2_with (first
              | (go_at_call 63; refine calls_at (HTm.out mid _ (by omega) h5) (by with_reducible rfl) (by with_reducible rfl) ?_; rintro e w6 ⟨v6, rfl, hI6, hb6⟩; obtain ⟨p6, c6, hv6, _⟩ := hI6.form; subst hv6)
              | (go_at_call 54; refine calls_at (sizes_any (Y * mid) R' _ _ _ hI6 (HI4.out _ (h5.trans (hb6.mono h5.size)))) (by with_reducible rfl) (by with_reducible rfl) ?_; rintro e w7 ⟨rfl, hb7⟩; rw [Ecc.out]))
            have hb57 : Below w4.heap.size w4 w7 := (h5.trans (hb6.mono h5.size)).trans (hb7.mono (Nat.le_trans h5.size hb6.size))
            exact ⟨⟨lo, mid - 1, rfl, by rw [show ((mid : Int) - 1) = ((mid - 1 : Nat) : Int) from by omega], by omega, by omega, h3, Hgt.out, hb57⟩, by simp [intOf]; omega⟩
        · obtain rfl : lo = hi' := by omega
          have hlt : ¬ (lo : Int) < (lo : Int) := by omega
          have hrow5 := hrow4.below h5 hqw4
          have hj5 : j < (List.replicate (j + 1) 0 ++ q).length := by simp; omega
          obtain ⟨co, fo⟩ := hrow5 j hj5
          have hset := hrow5.set (k := j) (n := lo) (u := (lo : Int)) hj5 rfl
          have hlist : (List.replicate (j + 1) 0 ++ q).set j lo = List.replicate j 0 ++ lo :: q := by
            rw [List.replicate_succ', List.append_assoc, List.set_append_right _ _ (by simp)]
            simp
          rw [hlist] at hset
          obtain ⟨W5, hW5⟩ : ∃ W5, wr.setCell ⟨qb, j, none⟩ (.int .i64 (lo : Int)) = W5 := ⟨_, rfl⟩
          rw [hW5] at hset
          have hw5 : Below w.heap.size w W5 := by rw [← hW5]; exact (hw4.trans (h5.mono hw4.size)).setCell (p := ⟨qb, j, none⟩) (by show w.heap.size ≤ qb; omega) _
          have hq5 : Below qb V W5 := by rw [← hW5]; exact (hbq4.trans (h5.mono (Nat.le_of_lt hqw4))).setCell (p := ⟨qb, j, none⟩) (Nat.le_refl _) _
          have hI5 : IntsAt W5 (.slice p4 (limbs R').length c4) (limbs R') := by rw [← hW5]; exact (HI4.out _ h5).setCell (p := ⟨qb, j, none⟩) hne4 _
          have hs5 : qb < W5.heap.size := by rw [← hW5]; simp [World.setCell]; exact Nat.lt_of_lt_of_le hqw4 h5.size
          obtain ⟨b0, b1, _, _⟩ := rbox_facts ((hq5.block (w.heap.size + 1) (by omega)).trans hBV)
          have HT5 : Hid (∀ w5, Below W5.heap.size W5 w5 → Calls Tryd.prog 63 #[.slice p2 (limbs Y).length c2, .int .i64 (lo : Int)] w5 fun e w6 => ∃ v, e = .returned v ∧ IntsAt w6 v (limbs (Y * lo)) ∧ Below w5.heap.size w5 w6) := fun w5 h => by
            have := times_any (limbs Y) lo _ w5 (HIb.out w5 (hw5.trans (h.mono hw5.size))) (fun d h => Bn.limbs_lt' h) (by omega) (by omega)
            rw [Bn.val_limbs'] at this; exact this
          have hYlo : Y * lo ≤ R' := by rw [Nat.mul_comm]; exact h3
          have hR'l : (limbs R').length ≤ 2000001 := by
            have h6 : R' ≤ 1000000000 * Y := by omega
            refine limbs_mono2 h6 ?_
            have h7 := (Bn.limbs_length_le Y _).1 (Nat.le_refl (limbs Y).length)
            have : (limbs (1000000000 * Y)).length ≤ (limbs Y).length + 1 := by
              rw [Bn.limbs_length_le, Nat.pow_succ, Nat.mul_comm]
              exact Nat.mul_lt_mul_of_pos_right h7 (by decide)
            omega
          have HR5 : Hid (RowI W5 qb (List.replicate j 0 ++ lo :: q)) := hset
          have HI5 : Hid (IntsAt W5 (.slice p4 (limbs R').length c4) (limbs R')) := hI5
          have hco0 : ((List.replicate (j + 1) 0 ++ q)[j]'hj5) = 0 := by
            rw [List.getElem_append_left (by simp)]; simp
          rw [hco0] at co
          clear hset hI5 hlist hco0 hrow5 hrow4 h5 HI4 HTm hB4
          go_wp2_with fail
          refine (HT5.out W5 (Below.refl _ _)).mono ?_
          rintro e w6 ⟨v6, rfl, hI6, hb6⟩
          obtain ⟨p6, c6, hv6, _⟩ := hI6.form
          subst hv6
          have HL6 := less_any (limbs R') (limbs (Y * lo)) _ _ w6 (HI5.out.below hb6) hI6 (fun d h => Bn.limbs_lt' h) (fun d h => Bn.limbs_lt' h) (by omega) (limbs_len_mono hYlo) (by rw [Bn.val_limbs', Bn.val_limbs']; exact hYlo)
          rw [Bn.val_limbs', Bn.val_limbs'] at HL6
          have HL7 : Hid (Calls Tryd.prog 55 #[.slice p4 (limbs R').length c4, .slice p6 (limbs (Y * lo)).length c6] w6 fun e w' => ∃ v, e = .returned v ∧ SizeAt w' v (R' - Y * lo) ∧ Below w6.heap.size w6 w') := HL6
          clear HL6
          go_wp2_with fail
          refine HL7.out.mono ?_
          rintro e w7 ⟨v7, rfl, ⟨l7, hI7, hl7, hv7⟩, hb7⟩
          have HS7 : Hid (Calls Tryd.prog 62 #[v7] w7 fun e w' => ∃ v', e = .returned v' ∧ IntsAt w7 v' (limbs (R' - Y * lo)) ∧ w' = w7) := by
            refine (refSize_any l7 v7 w7 hI7 hl7).mono ?_
            rintro e w' ⟨v', h1, h2, h3, _⟩
            rw [trim_eq _ hl7, hv7] at h2
            exact ⟨v', h1, h2, h3⟩
          obtain ⟨p7, c7, hv7', _⟩ := hI7.form
          subst hv7'
          clear hI7 hl7 hv7
          go_wp2_with fail
          refine HS7.out.mono ?_
          rintro e w8 ⟨v8, rfl, hI8, rfl⟩
          have hb58 : Below W5.heap.size W5 w8 := hb6.trans (hb7.mono hb6.size)
          have HST : Hid (Bn.val (a.drop j) = Y * Bn.val (lo :: q) + (R' - Y * lo)) := by
            show _ = _
            rw [HX0.out]
            exact short_step HQ.out.2.2 (by have := HR'.out; omega)
          go_wp2
          refine ⟨⟨j, R' - Y * lo, lo :: q, rfl, by omega, hI8, ?_, ⟨by have := HQ.out.1; simp; omega, fun d hd => ?_, HST.out⟩, HR5.out.below hb58 hs5, hq5.trans (hb58.mono (Nat.le_of_lt hs5))⟩, by simp [intOf]⟩
          · rw [Nat.add_mul, Nat.mul_comm lo Y] at h4; omega
          · rcases List.mem_cons.1 hd with rfl | hd
            · omega
            · exact HQ.out.2.1 d hd
end Go.Proofs.YtangepgiamhenaaDoor
