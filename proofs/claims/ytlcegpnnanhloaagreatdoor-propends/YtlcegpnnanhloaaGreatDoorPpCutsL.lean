/-
  Package prop: what goes of all variables.
-/
import Derived.Test.YtlcegpnnanhloaaGreatDoorJ38
import Derived.Test.YtlcegpnnanhloaaGreatDoorJ34
namespace Go.Proofs.YtlcegpnnanhloaaGreatDoor
open Go.RowKit

/-- Nothing can have gone. -/
def passB (q : Sq) (d : Dm) : Bool := (q.ts.length == 0) && (inB q.lo q.hi d.lo && inB q.lo q.hi d.hi)
def cutOf (Q : List Sq) (D : List Dm) (k : Nat) : List Ct := match Q[k]?, D[k]? with
  | some q, some d => if passB q d then [] else q.cutsL (k : Int) d.all
  | _, _ => []
def cutsUpto (Q : List Sq) (D : List Dm) : Nat → List Ct
  | 0 => []
  | k + 1 => cutsUpto Q D k ++ cutOf Q D k
theorem cutOf_eq {Q : List Sq} {D : List Dm} {k : Nat} (h1 : k < Q.length) (h2 : k < D.length) : cutOf Q D k = if passB Q[k] D[k] then [] else Q[k].cutsL (k : Int) D[k].all := by
  unfold cutOf
  rw [List.getElem?_eq_getElem h1, List.getElem?_eq_getElem h2]
theorem dAll_in {d : Dm} (h : d.Ok) : ∀ v ∈ d.all, -2000000000 ≤ v ∧ v ≤ 2000000000 := fun v hv => by
  unfold Dm.all dAll dVals at hv
  rw [List.mem_filter, List.mem_map] at hv
  obtain ⟨⟨j, hj, rfl⟩, _⟩ := hv
  have h1 := List.mem_range.1 hj
  have := dN_le d.a d.b
  have := bLow_lo d.a d.b
  have := h.f1
  have := h.f2
  omega
theorem dAll_len (d : Dm) : d.all.length ≤ 96 := Nat.le_trans (dVals_len _ _ _ _) (dN_le _ _)
theorem endsL_len (x : Int) (vs kept : List Int) : (endsL x vs kept).length ≤ 2 := by
  unfold endsL
  rw [List.length_append]
  split <;> split <;> simp
theorem cutsL_len (q : Sq) (x : Int) (vs : List Int) : (q.cutsL x vs).length ≤ vs.length + 2 := by
  unfold Sq.cutsL
  split
  · have := endsL_len x vs (q.kept vs); omega
  · have := gone_len q x vs; omega
theorem cutOf_len (Q : List Sq) (D : List Dm) (k : Nat) : (cutOf Q D k).length ≤ 98 := by
  unfold cutOf
  split
  · split
    · simp
    · rename_i q d _ _ _
      have := cutsL_len q (k : Int) d.all
      have := dAll_len d
      omega
  · simp
theorem cutsUpto_len (Q : List Sq) (D : List Dm) (k : Nat) : (cutsUpto Q D k).length ≤ 98 * k := by
  induction k with
  | zero => simp [cutsUpto]
  | succ k ih =>
    have := cutOf_len Q D k
    show (cutsUpto Q D k ++ cutOf Q D k).length ≤ _
    rw [List.length_append]
    omega
theorem own_type3 {w : World} {B : Nat} {e t : TypeId} {sz : Nat} {v : Value} {n : Nat} {xs : List Value} {k : Nat} {cs : Array Value} {f : Nat × Nat} (h : w.ownsRow B e sz v n xs) (hk : w.heap[k]? = some (.cells cs t f)) (hne : t ≠ e) : v.ownBlock ≠ some k := fun ho => by
  rcases h.2 with ⟨rfl, _⟩ | ⟨q, cap, cur, rfl, _, hc, _⟩
  · cases ho
  · injection ho with ho
    subst ho
    rw [hk] at hc
    injection hc with hc
    injection hc with _ e2 _
    exact hne e2
theorem cts_src {w : World} {B : Nat} {v : Value} {L : List Ct} (h : w.ownsRow B 46 3 v L.length (cts L)) : SrcAt w v L.length 3 (cts L) := by
  have h1 : ∀ u ∈ cts L, u.oneCell' = true := by
    intro u hu
    unfold cts at hu
    rw [List.mem_flatMap] at hu
    obtain ⟨d, _, hu⟩ := hu
    simp only [Ct.cells, List.mem_cons, List.not_mem_nil, or_false] at hu
    rcases hu with rfl | rfl | rfl <;> rfl
  rcases h.2 with ⟨rfl, hn⟩ | ⟨g, cap, cur, rfl, _, e3, _, _, _, e7⟩
  · exact ⟨none, 0, by rw [hn], by rw [cts_len], h1, (fun _ => hn), fun ad ha => by cases ha⟩
  · refine ⟨_, cap, rfl, by rw [cts_len], h1, (fun hn => by cases hn), fun ad ha j u hj => ?_⟩
    injection ha with ha
    subst ha
    rw [addr_none, Nat.zero_add, cell_of e3]
    have hj2 : j < L.length * 3 := by
      have := (List.getElem?_eq_some_iff.1 hj).1
      rwa [cts_len] at this
    have : (cur.toList.take (L.length * 3))[j]? = some u := by rw [e7]; exact hj
    rw [List.getElem?_take, if_pos hj2] at this
    simpa using this

set_option maxRecDepth 10000 in
set_option maxHeartbeats 4000000 in
theorem leftCuts_any (B lp g p : Nat) (nv mv : Value) (s : St) (S : List Sv) (w : World) (h : LfAt B lp g p nv mv s S w) (hts : ∀ q ∈ S, q.ts.length ≤ 9223372036854775807) : Calls Tryz.prog 30 #[.pointer (some ⟨lp, 0, none⟩)] w (CsOut (cutsUpto (S.map Sv.q) s.now S.length) w) := by
  have hn : S.length ≤ 32 := by rw [h.len]; obtain ⟨_, h1⟩ := h.st; exact h1.n32
  have hgood := h.good
  have c1 : w.cell? ⟨lp, 1, none⟩ = some (.slice (some ⟨g, 0, none⟩) S.length S.length) := cell_of h.box 1
  have HL : Hid (∀ w', Below w.heap.size w w' → LfAt B lp g p nv mv s S w') := fun w' hb => h.below hb
  have HX : Hid (∀ k, k < S.length → k < s.now.length) := fun k hk => by rw [← h.len]; exact hk
  have HGo : Hid (∀ d ∈ s.now, d.Ok) := hgood
  have HTs : Hid (∀ q ∈ S, q.ts.length ≤ 9223372036854775807) := hts
  clear h hgood hts
  go_enter Tryz.func30, Tryz.ntmps30
  go_wp2_with fail
  clear c1
  go_loopw [3, 11] (fun ov iv wr => ∃ (k : Nat), iv = .int .i64 (k : Int) ∧ k ≤ S.length ∧ Hid (wr.ownsRow w.heap.size 46 3 ov (cutsUpto (S.map Sv.q) s.now k).length (cts (cutsUpto (S.map Sv.q) s.now k))) ∧ Hid (Below w.heap.size w wr)) (fun _ iv _ => S.length - (intOf iv).toNat)
  case atStart => exact ⟨0, rfl, Nat.zero_le _, World.ownsRow_nil _ _ _ _, Below.refl _ _⟩
  case round =>
  obtain ⟨k, rfl, hk, HO, HBr⟩ := hrel
  obtain ⟨oa, oc, rfl⟩ := own_slice HO.out
  by_cases hkn : k < S.length
  · have hkI : (k : Int) < (S.length : Int) := by omega
    have hkD := HX.out k hkn
    obtain ⟨f0, f1, f2⟩ := (HL.out wr HBr.out).cell k hkn
    have hok := HGo.out s.now[k] (List.getElem_mem hkD)
    have hco : cutsUpto (S.map Sv.q) s.now (k + 1) = cutsUpto (S.map Sv.q) s.now k ++ (if passB S[k].q s.now[k] then [] else S[k].q.cutsL (k : Int) s.now[k].all) := by
      show cutsUpto (S.map Sv.q) s.now k ++ cutOf (S.map Sv.q) s.now k = _
      rw [cutOf_eq (by rw [List.length_map]; exact hkn) hkD, List.getElem_map]
    have hlen := cutsUpto_len (S.map Sv.q) s.now k
    obtain ⟨fs, hofs, htfs⟩ := (HL.out wr HBr.out).tests k hkn
    have hlt := HTs.out S[k] (List.getElem_mem hkn)
    have HLo : Hid (∀ w', Below wr.heap.size wr w' → Calls Tryz.prog 55 #[.pointer (some ⟨p, 0, none⟩), .int .i64 (k : Int)] w' fun e w2 => e = .returned (.int .i64 s.now[k].lo) ∧ Below w'.heap.size w' w2) := fun w' hb => ((HL.out wr HBr.out).below hb).los k hkD (Below.refl _ _)
    have HHi : Hid (∀ w', Below wr.heap.size wr w' → Calls Tryz.prog 56 #[.pointer (some ⟨p, 0, none⟩), .int .i64 (k : Int)] w' fun e w2 => e = .returned (.int .i64 s.now[k].hi) ∧ Below w'.heap.size w' w2) := fun w' hb => ((HL.out wr HBr.out).below hb).his k hkD (Below.refl _ _)
    have HVl : Hid (∀ w', Below wr.heap.size wr w' → Calls Tryz.prog 18 #[.pointer (some ⟨p, 0, none⟩), .int .i64 (k : Int)] w' (VsOut s.now[k].all w')) := fun w' hb => ((HL.out wr HBr.out).below hb).vals k hkD (Below.refl _ _)
    have hal := dAll_len s.now[k]
    have hai := dAll_in hok
    have HBs : Hid (B ≤ wr.heap.size) := (HL.out wr HBr.out).size
    have HLc : Hid (∀ w', Below wr.heap.size wr w' → w'.cell? ⟨lp, 0, none⟩ = some (.pointer (some ⟨p, 0, none⟩))) := fun w' hb => cell_of ((HL.out wr HBr.out).below hb).box 0
    obtain ⟨q, hq⟩ : ∃ q, S[k].q = q := ⟨_, rfl⟩
    have hqlo : S[k].lo = q.lo := by rw [← hq]; rfl
    have hqhi : S[k].hi = q.hi := by rw [← hq]; rfl
    have hqts : S[k].ts = q.ts := by rw [← hq]; rfl
    rw [hqlo] at f0
    rw [hqhi] at f1
    rw [hqts] at hofs htfs hlt
    rw [hq] at hco
    obtain ⟨ta, tc, htv⟩ := own_slice hofs
    rw [htv] at f2 hofs
    obtain ⟨d, hd⟩ : ∃ d, s.now[k] = d := ⟨_, rfl⟩
    rw [hd] at hco HLo HHi HVl hal hai
    obtain ⟨CL, hCL⟩ : ∃ l, cutsUpto (S.map Sv.q) s.now k = l := ⟨_, rfl⟩
    rw [hCL] at hco HO hlen ⊢
    have HN : Hid (cutsUpto (S.map Sv.q) s.now (k + 1) = CL ++ (if passB q d then [] else q.cutsL (k : Int) d.all)) := hco
    have HSc : Hid (∀ (w' : World) (vv : Value), Below wr.heap.size wr w' → IntsAt w' vv d.all → Calls Tryz.prog 57 #[.agg #[.int .i64 q.lo, .int .i64 q.hi, .slice ta q.ts.length tc], .int .i64 (k : Int), vv] w' (CsOut (q.cutsL (k : Int) d.all) w')) := fun w' vv hb hi => staysCuts_any B q _ fs (k : Int) vv d.all w' (own_below hofs hb) (htfs.kq (Kq.of_below hb HBs.out)) (Nat.le_trans HBs.out hb.size) hlt hi (by omega) hai
    have HIs : Hid (∀ w', Calls Tryz.prog 53 #[.agg #[.int .i64 q.lo, .int .i64 q.hi, .slice ta q.ts.length tc]] w' fun e w2 => e = .returned (.bool (q.ts.length == 0)) ∧ Below w'.heap.size w' w2) := fun w' => isI_any q.lo q.hi ta q.ts.length tc w'
    have HWi : Hid (∀ (v : Int) w', Calls Tryz.prog 54 #[.agg #[.int .i64 q.lo, .int .i64 q.hi], .int .i64 v] w' fun e w2 => e = .returned (.bool (inB q.lo q.hi v)) ∧ Below w'.heap.size w' w2) := fun v w' => withinB_any q.lo q.hi v w'
    obtain ⟨V, hV⟩ : ∃ V, wr.alloc (.cells #[.int .i64 q.lo, .int .i64 q.hi, .slice ta q.ts.length tc] 105) = V := ⟨_, rfl⟩
    have hbV : Below wr.heap.size wr V := by rw [← hV]; exact (Below.refl _ _).alloc (Nat.le_refl _) _
    have gV : V.heap[wr.heap.size]? = some (.cells #[.int .i64 q.lo, .int .i64 q.hi, .slice ta q.ts.length tc] 105 (0, 0)) := by rw [← hV]; exact heap_alloc_new wr _
    have hltV := (Array.getElem?_eq_some_iff.1 gV).1
    have HC : Hid (∀ w', Below V.heap.size V w' → w'.cell? ⟨wr.heap.size, 0, none⟩ = some (.int .i64 q.lo) ∧ w'.cell? ⟨wr.heap.size, 1, none⟩ = some (.int .i64 q.hi) ∧ w'.cell? ⟨wr.heap.size, 2, none⟩ = some (.slice ta q.ts.length tc) ∧ w'.cell? ⟨lp, 0, none⟩ = some (.pointer (some ⟨p, 0, none⟩))) := fun w' hb => ⟨cell_of ((hb.block _ hltV).trans gV) 0, cell_of ((hb.block _ hltV).trans gV) 1, cell_of ((hb.block _ hltV).trans gV) 2, HLc.out w' (hbV.trans (hb.mono hbV.size))⟩
    have HBV : Hid (Below wr.heap.size wr V) := hbV
    have HKeep : Hid (∀ w3 w4, Below V.heap.size V w3 → w3.ownsRow w.heap.size 46 3 (.slice oa CL.length oc) CL.length (cts CL) → w3.grownBy w4 (Value.slice oa CL.length oc).ownBlock → w4.cell? ⟨wr.heap.size, 0, none⟩ = some (.int .i64 q.lo) ∧ w4.cell? ⟨wr.heap.size, 1, none⟩ = some (.int .i64 q.hi) ∧ w4.cell? ⟨wr.heap.size, 2, none⟩ = some (.slice ta q.ts.length tc) ∧ w4.cell? ⟨lp, 0, none⟩ = some (.pointer (some ⟨p, 0, none⟩))) := fun w3 w4 hb ho hg => by
      have b1 := (hb.block _ hltV).trans gV
      have b2 := ((HL.out wr HBr.out).below (hbV.trans (hb.mono hbV.size))).box
      have k1 : w4.heap[wr.heap.size]? = _ := (hg.block _ (Array.getElem?_eq_some_iff.1 b1).1 (fun e => own_type3 ho b1 (by decide) e.symm)).trans b1
      have k2 : w4.heap[lp]? = _ := (hg.block _ (Array.getElem?_eq_some_iff.1 b2).1 (fun e => own_type3 ho b2 (by decide) e.symm)).trans b2
      exact ⟨cell_of k1 0, cell_of k1 1, cell_of k1 2, cell_of k2 0⟩
    obtain ⟨il, hil⟩ : ∃ b, inB q.lo q.hi d.lo = b := ⟨_, rfl⟩
    obtain ⟨ih, hih⟩ : ∃ b, inB q.lo q.hi d.hi = b := ⟨_, rfl⟩
    obtain ⟨i0, hi0⟩ : ∃ b, (q.ts.length == 0) = b := ⟨_, rfl⟩
    obtain ⟨dl, hdl⟩ : ∃ b, d.lo = b := ⟨_, rfl⟩
    obtain ⟨dh, hdh⟩ : ∃ b, d.hi = b := ⟨_, rfl⟩
    have HW1 := HWi.out dl
    have HW2 := HWi.out dh
    rw [hdl] at HLo hil
    rw [hdh] at HHi hih
    rw [hil] at HW1
    rw [hih] at HW2
    rw [hi0] at HIs
    have HW1' : Hid (∀ w', Calls Tryz.prog 54 #[.agg #[.int .i64 q.lo, .int .i64 q.hi], .int .i64 dl] w' fun e w2 => e = .returned (.bool il) ∧ Below w'.heap.size w' w2) := HW1
    have HW2' : Hid (∀ w', Calls Tryz.prog 54 #[.agg #[.int .i64 q.lo, .int .i64 q.hi], .int .i64 dh] w' fun e w2 => e = .returned (.bool ih) ∧ Below w'.heap.size w' w2) := HW2
    have HPs : Hid (passB q d = (i0 && (il && ih))) := by show _ = _; unfold passB; rw [hdl, hdh, hil, hih, hi0]
    clear hbV gV hltV hco hCL hq hqlo hqhi hqts htv hd hil hih hi0 hdl hdh HW1 HW2 HWi hofs htfs hlt hok hai
    go_wp2_with fail
    try rw [hV]
    clear hV f0 f1 f2
    have HBd : Hid (Below V.heap.size V V.drew) := (Below.refl _ _).drew
    go_cut [42] from 16 to 54 (fun s42 wx => s42 = .bool (!(i0 && (il && ih))) ∧ Hid (Below V.heap.size V wx))
    case first =>
      cases i0 with
      | false =>
        refine wp_region_T (fun w' => w'.cell? ⟨wr.heap.size, 0, none⟩ = some (.int .i64 q.lo) ∧ w'.cell? ⟨wr.heap.size, 1, none⟩ = some (.int .i64 q.hi) ∧ w'.cell? ⟨wr.heap.size, 2, none⟩ = some (.slice ta q.ts.length tc) ∧ w'.cell? ⟨lp, 0, none⟩ = some (.pointer (some ⟨p, 0, none⟩))) (fun _ => True) [] (by kernel_rfl) ⟨HC.out _ HBd.out, trivial⟩ (fun hHeld => ?_)
        refine wpAnyT_takeB (i := 0) (oi := ⟨some 16, .load 105 (.tmp 5), _, _, _, _⟩) (v := ?vR5c1x0) rfl (by kernel_rfl) (by kernel_rfl) (by kernel_rfl) (by kernel_rfl) (fun _ _ _ h => h) (Or.inl ⟨by rfl, ?hyR5c1x0⟩) (by assumption) ?restR5c1x0
        case hyR5c1x0 => (intro w hSw; (try dsimp only at hSw); go_simp; try (with_reducible rfl))
        try simp only [Act.put, List.setIfInBounds_toArray, List.set_cons_zero, List.set_cons_succ]
        refine wpAnyT_one (i := 1) (o := ⟨some 17, .call { callee := .value (.func 53), args := #[(.tmp 16)], argTypes := #[105] }, _, _, _, _⟩) (by kernel_rfl) rfl (fun K hK => ?_)
        go_simp
        refine calls_at (HIs.out _) (by with_reducible rfl) (by with_reducible rfl) ?_
        rintro e w2 ⟨rfl, hb2⟩
        go_wp2_with fail
        have HB2 : Hid (Below V.heap.size V w2) := HBd.out.trans hb2
        clear hb2 hHeld
        have hHeld := (⟨HC.out _ HB2.out, trivial⟩ : _ ∧ True)
        refine hK.out _ _ ⟨hHeld.1, fun _ => trivial⟩ ?_
        clear hK K
        refine wpAnyT_takeB (i := 2) (oi := ⟨some 18, .unOp .not 4 (.tmp 17), _, _, _, _⟩) (v := ?vR5c1x2) rfl (by kernel_rfl) (by kernel_rfl) (by kernel_rfl) (by kernel_rfl) (fun _ _ _ h => h) (Or.inl ⟨by rfl, ?hyR5c1x2⟩) (by assumption) ?restR5c1x2
        case hyR5c1x2 => (intro w hSw; (try dsimp only at hSw); go_simp; try (with_reducible rfl))
        try simp only [Act.put, List.setIfInBounds_toArray, List.set_cons_zero, List.set_cons_succ]
        refine wpAnyT_takeB (i := 3) (oi := ⟨some 19, .move (.tmp 18), _, _, _, _⟩) (v := ?vR5c1x3) rfl (by kernel_rfl) (by kernel_rfl) (by kernel_rfl) (by kernel_rfl) (fun _ _ _ h => h) (Or.inl ⟨by rfl, ?hyR5c1x3⟩) (by assumption) ?restR5c1x3
        case hyR5c1x3 => (intro w hSw; (try dsimp only at hSw); go_simp; try (with_reducible rfl))
        try simp only [Act.put, List.setIfInBounds_toArray, List.set_cons_zero, List.set_cons_succ]
        refine wpAnyT_takeB (i := 4) (oi := ⟨some 20, .fieldAddr 105 (.tmp 5) 0, _, _, _, _⟩) (v := undef) rfl (by kernel_rfl) (by kernel_rfl) (by kernel_rfl) (by kernel_rfl) (fun _ _ _ h => h) (Or.inr ⟨by rfl, rfl⟩) (by assumption) ?restR5c1x4
        try simp only [Act.put, List.setIfInBounds_toArray, List.set_cons_zero, List.set_cons_succ]
        refine wpAnyT_takeB (i := 5) (oi := ⟨some 21, .load 101 (.tmp 20), _, _, _, _⟩) (v := undef) rfl (by kernel_rfl) (by kernel_rfl) (by kernel_rfl) (by kernel_rfl) (fun _ _ _ h => h) (Or.inr ⟨by rfl, rfl⟩) (by assumption) ?restR5c1x5
        try simp only [Act.put, List.setIfInBounds_toArray, List.set_cons_zero, List.set_cons_succ]
        refine wpAnyT_takeB (i := 6) (oi := ⟨some 22, .move (.tmp 0), _, _, _, _⟩) (v := undef) rfl (by kernel_rfl) (by kernel_rfl) (by kernel_rfl) (by kernel_rfl) (fun _ _ _ h => h) (Or.inr ⟨by rfl, rfl⟩) (by assumption) ?restR5c1x6
        try simp only [Act.put, List.setIfInBounds_toArray, List.set_cons_zero, List.set_cons_succ]
        refine wpAnyT_takeB (i := 7) (oi := ⟨some 23, .nilCheck (.tmp 22), _, _, _, _⟩) (v := undef) rfl (by kernel_rfl) (by kernel_rfl) (by kernel_rfl) (by kernel_rfl) (fun _ _ _ h => h) (Or.inr ⟨by rfl, rfl⟩) (by assumption) ?restR5c1x7
        try simp only [Act.put, List.setIfInBounds_toArray, List.set_cons_zero, List.set_cons_succ]
        refine wpAnyT_takeB (i := 8) (oi := ⟨some 24, .fieldAddr 99 (.tmp 23) 0, _, _, _, _⟩) (v := undef) rfl (by kernel_rfl) (by kernel_rfl) (by kernel_rfl) (by kernel_rfl) (fun _ _ _ h => h) (Or.inr ⟨by rfl, rfl⟩) (by assumption) ?restR5c1x8
        try simp only [Act.put, List.setIfInBounds_toArray, List.set_cons_zero, List.set_cons_succ]
        refine wpAnyT_takeB (i := 9) (oi := ⟨some 25, .load 34 (.tmp 24), _, _, _, _⟩) (v := undef) rfl (by kernel_rfl) (by kernel_rfl) (by kernel_rfl) (by kernel_rfl) (fun _ _ _ h => h) (Or.inr ⟨by rfl, rfl⟩) (by assumption) ?restR5c1x9
        try simp only [Act.put, List.setIfInBounds_toArray, List.set_cons_zero, List.set_cons_succ]
        refine wpAnyT_takeB (i := 10) (oi := ⟨some 26, .move (.tmp 4), _, _, _, _⟩) (v := undef) rfl (by kernel_rfl) (by kernel_rfl) (by kernel_rfl) (by kernel_rfl) (fun _ _ _ h => h) (Or.inr ⟨by rfl, rfl⟩) (by assumption) ?restR5c1x10
        try simp only [Act.put, List.setIfInBounds_toArray, List.set_cons_zero, List.set_cons_succ]
        refine wpAnyT_takeB (i := 11) (oi := ⟨some 27, .call { callee := .value (.func 55), args := #[(.tmp 25), (.tmp 26)], argTypes := #[34, 3] }, _, _, _, _⟩) (v := undef) rfl (by kernel_rfl) (by kernel_rfl) (by kernel_rfl) (by kernel_rfl) (fun _ _ _ h => h) (Or.inr ⟨by rfl, rfl⟩) (by assumption) ?restR5c1x11
        try simp only [Act.put, List.setIfInBounds_toArray, List.set_cons_zero, List.set_cons_succ]
        refine wpAnyT_takeB (i := 12) (oi := ⟨some 28, .call { callee := .value (.func 54), args := #[(.tmp 21), (.tmp 27)], argTypes := #[101, 3] }, _, _, _, _⟩) (v := undef) rfl (by kernel_rfl) (by kernel_rfl) (by kernel_rfl) (by kernel_rfl) (fun _ _ _ h => h) (Or.inr ⟨by rfl, rfl⟩) (by assumption) ?restR5c1x12
        try simp only [Act.put, List.setIfInBounds_toArray, List.set_cons_zero, List.set_cons_succ]
        refine wpAnyT_takeB (i := 13) (oi := ⟨some 29, .unOp .not 4 (.tmp 28), _, _, _, _⟩) (v := undef) rfl (by kernel_rfl) (by kernel_rfl) (by kernel_rfl) (by kernel_rfl) (fun _ _ _ h => h) (Or.inr ⟨by rfl, rfl⟩) (by assumption) ?restR5c1x13
        try simp only [Act.put, List.setIfInBounds_toArray, List.set_cons_zero, List.set_cons_succ]
        refine wpAnyT_takeB (i := 14) (oi := ⟨some 30, .pick (.tmp 19) ((.const (.bool true))) (.tmp 29), _, _, _, _⟩) (v := ?vR5c1x14) rfl (by kernel_rfl) (by kernel_rfl) (by kernel_rfl) (by kernel_rfl) (fun _ _ _ h => h) (Or.inl ⟨by rfl, ?hyR5c1x14⟩) (by assumption) ?restR5c1x14
        case hyR5c1x14 => (intro w hSw; (try dsimp only at hSw); go_simp; try (with_reducible rfl))
        try simp only [Act.put, List.setIfInBounds_toArray, List.set_cons_zero, List.set_cons_succ]
        refine wpAnyT_takeB (i := 15) (oi := ⟨some 31, .move (.tmp 30), _, _, _, _⟩) (v := ?vR5c1x15) rfl (by kernel_rfl) (by kernel_rfl) (by kernel_rfl) (by kernel_rfl) (fun _ _ _ h => h) (Or.inl ⟨by rfl, ?hyR5c1x15⟩) (by assumption) ?restR5c1x15
        case hyR5c1x15 => (intro w hSw; (try dsimp only at hSw); go_simp; try (with_reducible rfl))
        try simp only [Act.put, List.setIfInBounds_toArray, List.set_cons_zero, List.set_cons_succ]
        refine wpAnyT_takeB (i := 16) (oi := ⟨some 32, .fieldAddr 105 (.tmp 5) 0, _, _, _, _⟩) (v := undef) rfl (by kernel_rfl) (by kernel_rfl) (by kernel_rfl) (by kernel_rfl) (fun _ _ _ h => h) (Or.inr ⟨by rfl, rfl⟩) (by assumption) ?restR5c1x16
        try simp only [Act.put, List.setIfInBounds_toArray, List.set_cons_zero, List.set_cons_succ]
        refine wpAnyT_takeB (i := 17) (oi := ⟨some 33, .load 101 (.tmp 32), _, _, _, _⟩) (v := undef) rfl (by kernel_rfl) (by kernel_rfl) (by kernel_rfl) (by kernel_rfl) (fun _ _ _ h => h) (Or.inr ⟨by rfl, rfl⟩) (by assumption) ?restR5c1x17
        try simp only [Act.put, List.setIfInBounds_toArray, List.set_cons_zero, List.set_cons_succ]
        refine wpAnyT_takeB (i := 18) (oi := ⟨some 34, .move (.tmp 0), _, _, _, _⟩) (v := undef) rfl (by kernel_rfl) (by kernel_rfl) (by kernel_rfl) (by kernel_rfl) (fun _ _ _ h => h) (Or.inr ⟨by rfl, rfl⟩) (by assumption) ?restR5c1x18
        try simp only [Act.put, List.setIfInBounds_toArray, List.set_cons_zero, List.set_cons_succ]
        refine wpAnyT_takeB (i := 19) (oi := ⟨some 35, .nilCheck (.tmp 34), _, _, _, _⟩) (v := undef) rfl (by kernel_rfl) (by kernel_rfl) (by kernel_rfl) (by kernel_rfl) (fun _ _ _ h => h) (Or.inr ⟨by rfl, rfl⟩) (by assumption) ?restR5c1x19
        try simp only [Act.put, List.setIfInBounds_toArray, List.set_cons_zero, List.set_cons_succ]
        refine wpAnyT_takeB (i := 20) (oi := ⟨some 36, .fieldAddr 99 (.tmp 35) 0, _, _, _, _⟩) (v := undef) rfl (by kernel_rfl) (by kernel_rfl) (by kernel_rfl) (by kernel_rfl) (fun _ _ _ h => h) (Or.inr ⟨by rfl, rfl⟩) (by assumption) ?restR5c1x20
        try simp only [Act.put, List.setIfInBounds_toArray, List.set_cons_zero, List.set_cons_succ]
        refine wpAnyT_takeB (i := 21) (oi := ⟨some 37, .load 34 (.tmp 36), _, _, _, _⟩) (v := undef) rfl (by kernel_rfl) (by kernel_rfl) (by kernel_rfl) (by kernel_rfl) (fun _ _ _ h => h) (Or.inr ⟨by rfl, rfl⟩) (by assumption) ?restR5c1x21
        try simp only [Act.put, List.setIfInBounds_toArray, List.set_cons_zero, List.set_cons_succ]
        refine wpAnyT_takeB (i := 22) (oi := ⟨some 38, .move (.tmp 4), _, _, _, _⟩) (v := undef) rfl (by kernel_rfl) (by kernel_rfl) (by kernel_rfl) (by kernel_rfl) (fun _ _ _ h => h) (Or.inr ⟨by rfl, rfl⟩) (by assumption) ?restR5c1x22
        try simp only [Act.put, List.setIfInBounds_toArray, List.set_cons_zero, List.set_cons_succ]
        refine wpAnyT_takeB (i := 23) (oi := ⟨some 39, .call { callee := .value (.func 56), args := #[(.tmp 37), (.tmp 38)], argTypes := #[34, 3] }, _, _, _, _⟩) (v := undef) rfl (by kernel_rfl) (by kernel_rfl) (by kernel_rfl) (by kernel_rfl) (fun _ _ _ h => h) (Or.inr ⟨by rfl, rfl⟩) (by assumption) ?restR5c1x23
        try simp only [Act.put, List.setIfInBounds_toArray, List.set_cons_zero, List.set_cons_succ]
        refine wpAnyT_takeB (i := 24) (oi := ⟨some 40, .call { callee := .value (.func 54), args := #[(.tmp 33), (.tmp 39)], argTypes := #[101, 3] }, _, _, _, _⟩) (v := undef) rfl (by kernel_rfl) (by kernel_rfl) (by kernel_rfl) (by kernel_rfl) (fun _ _ _ h => h) (Or.inr ⟨by rfl, rfl⟩) (by assumption) ?restR5c1x24
        try simp only [Act.put, List.setIfInBounds_toArray, List.set_cons_zero, List.set_cons_succ]
        refine wpAnyT_takeB (i := 25) (oi := ⟨some 41, .unOp .not 4 (.tmp 40), _, _, _, _⟩) (v := undef) rfl (by kernel_rfl) (by kernel_rfl) (by kernel_rfl) (by kernel_rfl) (fun _ _ _ h => h) (Or.inr ⟨by rfl, rfl⟩) (by assumption) ?restR5c1x25
        try simp only [Act.put, List.setIfInBounds_toArray, List.set_cons_zero, List.set_cons_succ]
        refine wpAnyT_takeB (i := 26) (oi := ⟨some 42, .pick (.tmp 31) ((.const (.bool true))) (.tmp 41), _, _, _, _⟩) (v := ?vR5c1x26) rfl (by kernel_rfl) (by kernel_rfl) (by kernel_rfl) (by kernel_rfl) (fun _ _ _ h => h) (Or.inl ⟨by rfl, ?hyR5c1x26⟩) (by assumption) ?restR5c1x26
        case hyR5c1x26 => (intro w hSw; (try dsimp only at hSw); go_simp; try (with_reducible rfl))
        try simp only [Act.put, List.setIfInBounds_toArray, List.set_cons_zero, List.set_cons_succ]
        refine wpAnyT_done (by kernel_rfl) ?_ _
        go_wp2_with fail
        go_meet
        exact ⟨rfl, HB2⟩
      | true =>
      cases il with
      | false =>
        refine wp_region_T (fun w' => w'.cell? ⟨wr.heap.size, 0, none⟩ = some (.int .i64 q.lo) ∧ w'.cell? ⟨wr.heap.size, 1, none⟩ = some (.int .i64 q.hi) ∧ w'.cell? ⟨wr.heap.size, 2, none⟩ = some (.slice ta q.ts.length tc) ∧ w'.cell? ⟨lp, 0, none⟩ = some (.pointer (some ⟨p, 0, none⟩))) (fun _ => True) [] (by kernel_rfl) ⟨HC.out _ HBd.out, trivial⟩ (fun hHeld => ?_)
        refine wpAnyT_takeB (i := 0) (oi := ⟨some 16, .load 105 (.tmp 5), _, _, _, _⟩) (v := ?vR5c2x0) rfl (by kernel_rfl) (by kernel_rfl) (by kernel_rfl) (by kernel_rfl) (fun _ _ _ h => h) (Or.inl ⟨by rfl, ?hyR5c2x0⟩) (by assumption) ?restR5c2x0
        case hyR5c2x0 => (intro w hSw; (try dsimp only at hSw); go_simp; try (with_reducible rfl))
        try simp only [Act.put, List.setIfInBounds_toArray, List.set_cons_zero, List.set_cons_succ]
        refine wpAnyT_one (i := 1) (o := ⟨some 17, .call { callee := .value (.func 53), args := #[(.tmp 16)], argTypes := #[105] }, _, _, _, _⟩) (by kernel_rfl) rfl (fun K hK => ?_)
        go_simp
        refine calls_at (HIs.out _) (by with_reducible rfl) (by with_reducible rfl) ?_
        rintro e w2 ⟨rfl, hb2⟩
        go_wp2_with fail
        have HB2 : Hid (Below V.heap.size V w2) := HBd.out.trans hb2
        clear hb2 hHeld
        have hHeld := (⟨HC.out _ HB2.out, trivial⟩ : _ ∧ True)
        refine hK.out _ _ ⟨hHeld.1, fun _ => trivial⟩ ?_
        clear hK K
        refine wpAnyT_takeB (i := 2) (oi := ⟨some 18, .unOp .not 4 (.tmp 17), _, _, _, _⟩) (v := ?vR5c2x2) rfl (by kernel_rfl) (by kernel_rfl) (by kernel_rfl) (by kernel_rfl) (fun _ _ _ h => h) (Or.inl ⟨by rfl, ?hyR5c2x2⟩) (by assumption) ?restR5c2x2
        case hyR5c2x2 => (intro w hSw; (try dsimp only at hSw); go_simp; try (with_reducible rfl))
        try simp only [Act.put, List.setIfInBounds_toArray, List.set_cons_zero, List.set_cons_succ]
        refine wpAnyT_takeB (i := 3) (oi := ⟨some 19, .move (.tmp 18), _, _, _, _⟩) (v := ?vR5c2x3) rfl (by kernel_rfl) (by kernel_rfl) (by kernel_rfl) (by kernel_rfl) (fun _ _ _ h => h) (Or.inl ⟨by rfl, ?hyR5c2x3⟩) (by assumption) ?restR5c2x3
        case hyR5c2x3 => (intro w hSw; (try dsimp only at hSw); go_simp; try (with_reducible rfl))
        try simp only [Act.put, List.setIfInBounds_toArray, List.set_cons_zero, List.set_cons_succ]
        refine wpAnyT_takeB (i := 4) (oi := ⟨some 20, .fieldAddr 105 (.tmp 5) 0, _, _, _, _⟩) (v := ?vR5c2x4) rfl (by kernel_rfl) (by kernel_rfl) (by kernel_rfl) (by kernel_rfl) (fun _ _ _ h => h) (Or.inl ⟨by rfl, ?hyR5c2x4⟩) (by assumption) ?restR5c2x4
        case hyR5c2x4 => (intro w hSw; (try dsimp only at hSw); go_simp; try (with_reducible rfl))
        try simp only [Act.put, List.setIfInBounds_toArray, List.set_cons_zero, List.set_cons_succ]
        refine wpAnyT_takeB (i := 5) (oi := ⟨some 21, .load 101 (.tmp 20), _, _, _, _⟩) (v := ?vR5c2x5) rfl (by kernel_rfl) (by kernel_rfl) (by kernel_rfl) (by kernel_rfl) (fun _ _ _ h => h) (Or.inl ⟨by rfl, ?hyR5c2x5⟩) (by assumption) ?restR5c2x5
        case hyR5c2x5 => (intro w hSw; (try dsimp only at hSw); go_simp; try (with_reducible rfl))
        try simp only [Act.put, List.setIfInBounds_toArray, List.set_cons_zero, List.set_cons_succ]
        refine wpAnyT_takeB (i := 6) (oi := ⟨some 22, .move (.tmp 0), _, _, _, _⟩) (v := ?vR5c2x6) rfl (by kernel_rfl) (by kernel_rfl) (by kernel_rfl) (by kernel_rfl) (fun _ _ _ h => h) (Or.inl ⟨by rfl, ?hyR5c2x6⟩) (by assumption) ?restR5c2x6
        case hyR5c2x6 => (intro w hSw; (try dsimp only at hSw); go_simp; try (with_reducible rfl))
        try simp only [Act.put, List.setIfInBounds_toArray, List.set_cons_zero, List.set_cons_succ]
        refine wpAnyT_takeB (i := 7) (oi := ⟨some 23, .nilCheck (.tmp 22), _, _, _, _⟩) (v := ?vR5c2x7) rfl (by kernel_rfl) (by kernel_rfl) (by kernel_rfl) (by kernel_rfl) (fun _ _ _ h => h) (Or.inl ⟨by rfl, ?hyR5c2x7⟩) (by assumption) ?restR5c2x7
        case hyR5c2x7 => (intro w hSw; (try dsimp only at hSw); go_simp; try (with_reducible rfl))
        try simp only [Act.put, List.setIfInBounds_toArray, List.set_cons_zero, List.set_cons_succ]
        refine wpAnyT_takeB (i := 8) (oi := ⟨some 24, .fieldAddr 99 (.tmp 23) 0, _, _, _, _⟩) (v := ?vR5c2x8) rfl (by kernel_rfl) (by kernel_rfl) (by kernel_rfl) (by kernel_rfl) (fun _ _ _ h => h) (Or.inl ⟨by rfl, ?hyR5c2x8⟩) (by assumption) ?restR5c2x8
        case hyR5c2x8 => (intro w hSw; (try dsimp only at hSw); go_simp; try (with_reducible rfl))
        try simp only [Act.put, List.setIfInBounds_toArray, List.set_cons_zero, List.set_cons_succ]
        refine wpAnyT_takeB (i := 9) (oi := ⟨some 25, .load 34 (.tmp 24), _, _, _, _⟩) (v := ?vR5c2x9) rfl (by kernel_rfl) (by kernel_rfl) (by kernel_rfl) (by kernel_rfl) (fun _ _ _ h => h) (Or.inl ⟨by rfl, ?hyR5c2x9⟩) (by assumption) ?restR5c2x9
        case hyR5c2x9 => (intro w hSw; (try dsimp only at hSw); go_simp; try (with_reducible rfl))
        try simp only [Act.put, List.setIfInBounds_toArray, List.set_cons_zero, List.set_cons_succ]
        refine wpAnyT_takeB (i := 10) (oi := ⟨some 26, .move (.tmp 4), _, _, _, _⟩) (v := ?vR5c2x10) rfl (by kernel_rfl) (by kernel_rfl) (by kernel_rfl) (by kernel_rfl) (fun _ _ _ h => h) (Or.inl ⟨by rfl, ?hyR5c2x10⟩) (by assumption) ?restR5c2x10
        case hyR5c2x10 => (intro w hSw; (try dsimp only at hSw); go_simp; try (with_reducible rfl))
        try simp only [Act.put, List.setIfInBounds_toArray, List.set_cons_zero, List.set_cons_succ]
        refine wpAnyT_one (i := 11) (o := ⟨some 27, .call { callee := .value (.func 55), args := #[(.tmp 25), (.tmp 26)], argTypes := #[34, 3] }, _, _, _, _⟩) (by kernel_rfl) rfl (fun K hK => ?_)
        go_simp
        refine calls_at (HLo.out _ (HBV.out.trans (HB2.out.mono HBV.out.size))) (by with_reducible rfl) (by with_reducible rfl) ?_
        rintro e w3 ⟨rfl, hb3⟩
        go_wp2_with fail
        have HB3 : Hid (Below V.heap.size V w3) := bl_next HB2.out hb3
        clear hb3 hHeld
        have hHeld := (⟨HC.out _ HB3.out, trivial⟩ : _ ∧ True)
        refine hK.out _ _ ⟨hHeld.1, fun _ => trivial⟩ ?_
        clear hK K
        refine wpAnyT_one (i := 12) (o := ⟨some 28, .call { callee := .value (.func 54), args := #[(.tmp 21), (.tmp 27)], argTypes := #[101, 3] }, _, _, _, _⟩) (by kernel_rfl) rfl (fun K hK => ?_)
        go_simp
        refine calls_at (HW1'.out _) (by with_reducible rfl) (by with_reducible rfl) ?_
        rintro e w4 ⟨rfl, hb4⟩
        go_wp2_with fail
        have HB4 : Hid (Below V.heap.size V w4) := bl_next HB3.out hb4
        clear hb4 hHeld
        have hHeld := (⟨HC.out _ HB4.out, trivial⟩ : _ ∧ True)
        refine hK.out _ _ ⟨hHeld.1, fun _ => trivial⟩ ?_
        clear hK K
        refine wpAnyT_takeB (i := 13) (oi := ⟨some 29, .unOp .not 4 (.tmp 28), _, _, _, _⟩) (v := ?vR5c2x13) rfl (by kernel_rfl) (by kernel_rfl) (by kernel_rfl) (by kernel_rfl) (fun _ _ _ h => h) (Or.inl ⟨by rfl, ?hyR5c2x13⟩) (by assumption) ?restR5c2x13
        case hyR5c2x13 => (intro w hSw; (try dsimp only at hSw); go_simp; try (with_reducible rfl))
        try simp only [Act.put, List.setIfInBounds_toArray, List.set_cons_zero, List.set_cons_succ]
        refine wpAnyT_takeB (i := 14) (oi := ⟨some 30, .pick (.tmp 19) ((.const (.bool true))) (.tmp 29), _, _, _, _⟩) (v := ?vR5c2x14) rfl (by kernel_rfl) (by kernel_rfl) (by kernel_rfl) (by kernel_rfl) (fun _ _ _ h => h) (Or.inl ⟨by rfl, ?hyR5c2x14⟩) (by assumption) ?restR5c2x14
        case hyR5c2x14 => (intro w hSw; (try dsimp only at hSw); go_simp; try (with_reducible rfl))
        try simp only [Act.put, List.setIfInBounds_toArray, List.set_cons_zero, List.set_cons_succ]
        refine wpAnyT_takeB (i := 15) (oi := ⟨some 31, .move (.tmp 30), _, _, _, _⟩) (v := ?vR5c2x15) rfl (by kernel_rfl) (by kernel_rfl) (by kernel_rfl) (by kernel_rfl) (fun _ _ _ h => h) (Or.inl ⟨by rfl, ?hyR5c2x15⟩) (by assumption) ?restR5c2x15
        case hyR5c2x15 => (intro w hSw; (try dsimp only at hSw); go_simp; try (with_reducible rfl))
        try simp only [Act.put, List.setIfInBounds_toArray, List.set_cons_zero, List.set_cons_succ]
        refine wpAnyT_takeB (i := 16) (oi := ⟨some 32, .fieldAddr 105 (.tmp 5) 0, _, _, _, _⟩) (v := undef) rfl (by kernel_rfl) (by kernel_rfl) (by kernel_rfl) (by kernel_rfl) (fun _ _ _ h => h) (Or.inr ⟨by rfl, rfl⟩) (by assumption) ?restR5c2x16
        try simp only [Act.put, List.setIfInBounds_toArray, List.set_cons_zero, List.set_cons_succ]
        refine wpAnyT_takeB (i := 17) (oi := ⟨some 33, .load 101 (.tmp 32), _, _, _, _⟩) (v := undef) rfl (by kernel_rfl) (by kernel_rfl) (by kernel_rfl) (by kernel_rfl) (fun _ _ _ h => h) (Or.inr ⟨by rfl, rfl⟩) (by assumption) ?restR5c2x17
        try simp only [Act.put, List.setIfInBounds_toArray, List.set_cons_zero, List.set_cons_succ]
        refine wpAnyT_takeB (i := 18) (oi := ⟨some 34, .move (.tmp 0), _, _, _, _⟩) (v := undef) rfl (by kernel_rfl) (by kernel_rfl) (by kernel_rfl) (by kernel_rfl) (fun _ _ _ h => h) (Or.inr ⟨by rfl, rfl⟩) (by assumption) ?restR5c2x18
        try simp only [Act.put, List.setIfInBounds_toArray, List.set_cons_zero, List.set_cons_succ]
        refine wpAnyT_takeB (i := 19) (oi := ⟨some 35, .nilCheck (.tmp 34), _, _, _, _⟩) (v := undef) rfl (by kernel_rfl) (by kernel_rfl) (by kernel_rfl) (by kernel_rfl) (fun _ _ _ h => h) (Or.inr ⟨by rfl, rfl⟩) (by assumption) ?restR5c2x19
        try simp only [Act.put, List.setIfInBounds_toArray, List.set_cons_zero, List.set_cons_succ]
        refine wpAnyT_takeB (i := 20) (oi := ⟨some 36, .fieldAddr 99 (.tmp 35) 0, _, _, _, _⟩) (v := undef) rfl (by kernel_rfl) (by kernel_rfl) (by kernel_rfl) (by kernel_rfl) (fun _ _ _ h => h) (Or.inr ⟨by rfl, rfl⟩) (by assumption) ?restR5c2x20
        try simp only [Act.put, List.setIfInBounds_toArray, List.set_cons_zero, List.set_cons_succ]
        refine wpAnyT_takeB (i := 21) (oi := ⟨some 37, .load 34 (.tmp 36), _, _, _, _⟩) (v := undef) rfl (by kernel_rfl) (by kernel_rfl) (by kernel_rfl) (by kernel_rfl) (fun _ _ _ h => h) (Or.inr ⟨by rfl, rfl⟩) (by assumption) ?restR5c2x21
        try simp only [Act.put, List.setIfInBounds_toArray, List.set_cons_zero, List.set_cons_succ]
        refine wpAnyT_takeB (i := 22) (oi := ⟨some 38, .move (.tmp 4), _, _, _, _⟩) (v := undef) rfl (by kernel_rfl) (by kernel_rfl) (by kernel_rfl) (by kernel_rfl) (fun _ _ _ h => h) (Or.inr ⟨by rfl, rfl⟩) (by assumption) ?restR5c2x22
        try simp only [Act.put, List.setIfInBounds_toArray, List.set_cons_zero, List.set_cons_succ]
        refine wpAnyT_takeB (i := 23) (oi := ⟨some 39, .call { callee := .value (.func 56), args := #[(.tmp 37), (.tmp 38)], argTypes := #[34, 3] }, _, _, _, _⟩) (v := undef) rfl (by kernel_rfl) (by kernel_rfl) (by kernel_rfl) (by kernel_rfl) (fun _ _ _ h => h) (Or.inr ⟨by rfl, rfl⟩) (by assumption) ?restR5c2x23
        try simp only [Act.put, List.setIfInBounds_toArray, List.set_cons_zero, List.set_cons_succ]
        refine wpAnyT_takeB (i := 24) (oi := ⟨some 40, .call { callee := .value (.func 54), args := #[(.tmp 33), (.tmp 39)], argTypes := #[101, 3] }, _, _, _, _⟩) (v := undef) rfl (by kernel_rfl) (by kernel_rfl) (by kernel_rfl) (by kernel_rfl) (fun _ _ _ h => h) (Or.inr ⟨by rfl, rfl⟩) (by assumption) ?restR5c2x24
        try simp only [Act.put, List.setIfInBounds_toArray, List.set_cons_zero, List.set_cons_succ]
        refine wpAnyT_takeB (i := 25) (oi := ⟨some 41, .unOp .not 4 (.tmp 40), _, _, _, _⟩) (v := undef) rfl (by kernel_rfl) (by kernel_rfl) (by kernel_rfl) (by kernel_rfl) (fun _ _ _ h => h) (Or.inr ⟨by rfl, rfl⟩) (by assumption) ?restR5c2x25
        try simp only [Act.put, List.setIfInBounds_toArray, List.set_cons_zero, List.set_cons_succ]
        refine wpAnyT_takeB (i := 26) (oi := ⟨some 42, .pick (.tmp 31) ((.const (.bool true))) (.tmp 41), _, _, _, _⟩) (v := ?vR5c2x26) rfl (by kernel_rfl) (by kernel_rfl) (by kernel_rfl) (by kernel_rfl) (fun _ _ _ h => h) (Or.inl ⟨by rfl, ?hyR5c2x26⟩) (by assumption) ?restR5c2x26
        case hyR5c2x26 => (intro w hSw; (try dsimp only at hSw); go_simp; try (with_reducible rfl))
        try simp only [Act.put, List.setIfInBounds_toArray, List.set_cons_zero, List.set_cons_succ]
        refine wpAnyT_done (by kernel_rfl) ?_ _
        go_wp2_with fail
        go_meet
        exact ⟨rfl, HB4⟩
      | true =>
        go_region_held3 (fun w' => w'.cell? ⟨wr.heap.size, 0, none⟩ = some (.int .i64 q.lo) ∧ w'.cell? ⟨wr.heap.size, 1, none⟩ = some (.int .i64 q.hi) ∧ w'.cell? ⟨wr.heap.size, 2, none⟩ = some (.slice ta q.ts.length tc) ∧ w'.cell? ⟨lp, 0, none⟩ = some (.pointer (some ⟨p, 0, none⟩)))
          (first | exact HC.out _ HB6.out | exact HC.out _ HB5.out | exact HC.out _ HB4.out | exact HC.out _ HB3.out | exact HC.out _ HB2.out | exact HC.out _ HBd.out)
          (first | (go_at_call 53; refine calls_at (HIs.out _) (by with_reducible rfl) (by with_reducible rfl) ?_; rintro e w2 ⟨rfl, hb2⟩; (have HB2 : Hid (Below V.heap.size V w2) := HBd.out.trans hb2); clear hb2) | (go_at_call 55; refine calls_at (HLo.out w2 (HBV.out.trans (HB2.out.mono HBV.out.size))) (by with_reducible rfl) (by with_reducible rfl) ?_; rintro e w3 ⟨rfl, hb3⟩; (have HB3 : Hid (Below V.heap.size V w3) := bl_next HB2.out hb3); clear hb3) | (go_at_call 54; refine calls_at (HW1'.out w3) (by with_reducible rfl) (by with_reducible rfl) ?_; rintro e w4 ⟨rfl, hb4⟩; (have HB4 : Hid (Below V.heap.size V w4) := bl_next HB3.out hb4); clear hb4) | (go_at_call 56; refine calls_at (HHi.out w4 (HBV.out.trans (HB4.out.mono HBV.out.size))) (by with_reducible rfl) (by with_reducible rfl) ?_; rintro e w5 ⟨rfl, hb5⟩; (have HB5 : Hid (Below V.heap.size V w5) := bl_next HB4.out hb5); clear hb5) | (go_at_call 54; refine calls_at (HW2'.out w5) (by with_reducible rfl) (by with_reducible rfl) ?_; rintro e w6 ⟨rfl, hb6⟩; (have HB6 : Hid (Below V.heap.size V w6) := bl_next HB5.out hb6); clear hb6))
        go_wp2_with fail
        go_meet
        exact ⟨rfl, HB6⟩
    case rest =>
    obtain ⟨rfl, HBx⟩ := hcut
    rename World => wx
    have HBrx : Hid (Below wr.heap.size wr wx) := HBV.out.trans (HBx.out.mono HBV.out.size)
    obtain ⟨pb, hpb⟩ : ∃ b, (i0 && (il && ih)) = b := ⟨_, rfl⟩
    rw [hpb] at HPs ⊢
    clear hpb HIs HLo HHi HW1' HW2'
    cases pb with
    | true =>
      have HN2 : Hid (cutsUpto (S.map Sv.q) s.now (k + 1) = CL) := by show _ = _; rw [HN.out, HPs.out]; simp
      go_wp2_with fail
      go_roundw
      case rel => exact ⟨k + 1, by go_num, hkn, (by show World.ownsRow _ _ _ _ _ _ _; rw [HN2.out]; exact own_below HO.out HBrx.out), bl_next HBr.out HBrx.out⟩
      case measure => simp [intOf]; omega
    | false =>
      have HN2 : Hid (cutsUpto (S.map Sv.q) s.now (k + 1) = CL ++ q.cutsL (k : Int) d.all) := by show _ = _; rw [HN.out, HPs.out]; simp
      have hcl := cutsL_len q (k : Int) d.all
      obtain ⟨NL, hNL⟩ : ∃ l, q.cutsL (k : Int) d.all = l := ⟨_, rfl⟩
      rw [hNL] at HSc HN2 hcl
      clear hNL HN HPs
      have HBd2 : Hid (Below V.heap.size V wx.drew) := HBx.out.drew
      have HOd : Hid (wx.drew.ownsRow w.heap.size 46 3 (.slice oa CL.length oc) CL.length (cts CL)) := own_below HO.out HBrx.out.drew
      go_wp2_with fail
      refine wp_region_T (fun w' => w'.cell? ⟨wr.heap.size, 0, none⟩ = some (.int .i64 q.lo) ∧ w'.cell? ⟨wr.heap.size, 1, none⟩ = some (.int .i64 q.hi) ∧ w'.cell? ⟨wr.heap.size, 2, none⟩ = some (.slice ta q.ts.length tc) ∧ w'.cell? ⟨lp, 0, none⟩ = some (.pointer (some ⟨p, 0, none⟩))) (fun _ => True) [10] (by kernel_rfl) ⟨HC.out _ HBd2.out, trivial⟩ (fun hHeld => ?_)
      generalize wx.drew = U at HBd2 HOd hHeld ⊢
      refine wpAnyT_takeB (i := 0) (oi := ⟨some 43, .move (.tmp 3), _, _, _, _⟩) (v := ?vR6c3x0) rfl (by kernel_rfl) (by kernel_rfl) (by kernel_rfl) (by kernel_rfl) (fun _ _ _ h => h) (Or.inl ⟨by rfl, ?hyR6c3x0⟩) (by assumption) ?restR6c3x0
      case hyR6c3x0 => (intro w hSw; (try dsimp only at hSw); go_simp; try (with_reducible rfl))
      try simp only [Act.put, List.setIfInBounds_toArray, List.set_cons_zero, List.set_cons_succ]
      refine wpAnyT_takeB (i := 1) (oi := ⟨some 44, .load 105 (.tmp 5), _, _, _, _⟩) (v := ?vR6c3x1) rfl (by kernel_rfl) (by kernel_rfl) (by kernel_rfl) (by kernel_rfl) (fun _ _ _ h => h) (Or.inl ⟨by rfl, ?hyR6c3x1⟩) (by assumption) ?restR6c3x1
      case hyR6c3x1 => (intro w hSw; (try dsimp only at hSw); go_simp; try (with_reducible rfl))
      try simp only [Act.put, List.setIfInBounds_toArray, List.set_cons_zero, List.set_cons_succ]
      refine wpAnyT_takeB (i := 2) (oi := ⟨some 45, .move (.tmp 4), _, _, _, _⟩) (v := ?vR6c3x2) rfl (by kernel_rfl) (by kernel_rfl) (by kernel_rfl) (by kernel_rfl) (fun _ _ _ h => h) (Or.inl ⟨by rfl, ?hyR6c3x2⟩) (by assumption) ?restR6c3x2
      case hyR6c3x2 => (intro w hSw; (try dsimp only at hSw); go_simp; try (with_reducible rfl))
      try simp only [Act.put, List.setIfInBounds_toArray, List.set_cons_zero, List.set_cons_succ]
      refine wpAnyT_takeB (i := 3) (oi := ⟨some 46, .move (.tmp 0), _, _, _, _⟩) (v := ?vR6c3x3) rfl (by kernel_rfl) (by kernel_rfl) (by kernel_rfl) (by kernel_rfl) (fun _ _ _ h => h) (Or.inl ⟨by rfl, ?hyR6c3x3⟩) (by assumption) ?restR6c3x3
      case hyR6c3x3 => (intro w hSw; (try dsimp only at hSw); go_simp; try (with_reducible rfl))
      try simp only [Act.put, List.setIfInBounds_toArray, List.set_cons_zero, List.set_cons_succ]
      refine wpAnyT_takeB (i := 4) (oi := ⟨some 47, .nilCheck (.tmp 46), _, _, _, _⟩) (v := ?vR6c3x4) rfl (by kernel_rfl) (by kernel_rfl) (by kernel_rfl) (by kernel_rfl) (fun _ _ _ h => h) (Or.inl ⟨by rfl, ?hyR6c3x4⟩) (by assumption) ?restR6c3x4
      case hyR6c3x4 => (intro w hSw; (try dsimp only at hSw); go_simp; try (with_reducible rfl))
      try simp only [Act.put, List.setIfInBounds_toArray, List.set_cons_zero, List.set_cons_succ]
      refine wpAnyT_takeB (i := 5) (oi := ⟨some 48, .fieldAddr 99 (.tmp 47) 0, _, _, _, _⟩) (v := ?vR6c3x5) rfl (by kernel_rfl) (by kernel_rfl) (by kernel_rfl) (by kernel_rfl) (fun _ _ _ h => h) (Or.inl ⟨by rfl, ?hyR6c3x5⟩) (by assumption) ?restR6c3x5
      case hyR6c3x5 => (intro w hSw; (try dsimp only at hSw); go_simp; try (with_reducible rfl))
      try simp only [Act.put, List.setIfInBounds_toArray, List.set_cons_zero, List.set_cons_succ]
      refine wpAnyT_takeB (i := 6) (oi := ⟨some 49, .load 34 (.tmp 48), _, _, _, _⟩) (v := ?vR6c3x6) rfl (by kernel_rfl) (by kernel_rfl) (by kernel_rfl) (by kernel_rfl) (fun _ _ _ h => h) (Or.inl ⟨by rfl, ?hyR6c3x6⟩) (by assumption) ?restR6c3x6
      case hyR6c3x6 => (intro w hSw; (try dsimp only at hSw); go_simp; try (with_reducible rfl))
      try simp only [Act.put, List.setIfInBounds_toArray, List.set_cons_zero, List.set_cons_succ]
      refine wpAnyT_takeB (i := 7) (oi := ⟨some 50, .move (.tmp 4), _, _, _, _⟩) (v := ?vR6c3x7) rfl (by kernel_rfl) (by kernel_rfl) (by kernel_rfl) (by kernel_rfl) (fun _ _ _ h => h) (Or.inl ⟨by rfl, ?hyR6c3x7⟩) (by assumption) ?restR6c3x7
      case hyR6c3x7 => (intro w hSw; (try dsimp only at hSw); go_simp; try (with_reducible rfl))
      try simp only [Act.put, List.setIfInBounds_toArray, List.set_cons_zero, List.set_cons_succ]
      refine wpAnyT_one (i := 8) (o := ⟨some 51, .call { callee := .value (.func 18), args := #[(.tmp 49), (.tmp 50)], argTypes := #[34, 3] }, _, _, _, _⟩) (by kernel_rfl) rfl (fun K hK => ?_)
      go_simp
      refine calls_at (HVl.out _ (HBV.out.trans (HBd2.out.mono HBV.out.size))) (by with_reducible rfl) (by with_reducible rfl) ?_
      rintro e w2 ⟨vv, rfl, ho2, hb2⟩
      go_wp2_with fail
      have HI2 : Hid (IntsAt w2 vv d.all) := own_ints' ho2 (by unfold maxLen; omega)
      have HB2 : Hid (Below V.heap.size V w2) := bl_next HBd2.out hb2
      have HO2 : Hid (w2.ownsRow w.heap.size 46 3 (.slice oa CL.length oc) CL.length (cts CL)) := own_below HOd.out hb2
      clear hb2 hHeld ho2
      have hHeld := (⟨HC.out _ HB2.out, trivial⟩ : _ ∧ True)
      refine hK.out _ _ ⟨hHeld.1, fun _ => trivial⟩ ?_
      clear hK K
      refine wpAnyT_one (i := 9) (o := ⟨some 52, .call { callee := .value (.func 57), args := #[(.tmp 44), (.tmp 45), (.tmp 51)], argTypes := #[105, 3, 28] }, _, _, _, _⟩) (by kernel_rfl) rfl (fun K hK => ?_)
      go_simp
      refine calls_at (HSc.out _ vv (HBV.out.trans (HB2.out.mono HBV.out.size)) HI2.out) (by with_reducible rfl) (by with_reducible rfl) ?_
      rintro e w3 ⟨cv, rfl, ho3, hb3⟩
      go_wp2_with fail
      have HS3 : Hid (SrcAt w3 cv NL.length 3 (cts NL)) := cts_src ho3
      have HB3 : Hid (Below V.heap.size V w3) := bl_next HB2.out hb3
      have HO3 : Hid (w3.ownsRow w.heap.size 46 3 (.slice oa CL.length oc) CL.length (cts CL)) := own_below HO2.out hb3
      clear hb3 hHeld ho3
      have hHeld := (⟨HC.out _ HB3.out, trivial⟩ : _ ∧ True)
      refine hK.out _ _ ⟨hHeld.1, fun _ => trivial⟩ ?_
      clear hK K
      refine wpAnyT_late (i := 10) (o := ⟨some 53, .call { callee := .builtin .append, args := #[(.tmp 43), (.tmp 52)], argTypes := #[27, 27] }, _, _, _, _⟩) (by kernel_rfl) rfl (by kernel_rfl) (fun K hK => ?_)
      refine op_append_src w3 (.tmp 43) (.tmp 52) 27 46 (.agg #[.int .i64 0, .int .i64 0, .int .i64 0]) 3 24 rfl und27w info46 rfl (by decide) w.heap.size _ _ CL.length NL.length (cts CL) (cts NL) (by rfl) (by rfl) HO3.out HS3.out (by unfold maxLen; omega) (by omega) (Nat.le_trans HBr.out.size (Nat.le_trans HBV.out.size HB3.out.size)) (by rfl) ?_
      intro v4 w4 g1 g2 g3
      have HO4 : Hid (w4.ownsRow w.heap.size 46 3 v4 (CL.length + NL.length) (cts CL ++ cts NL)) := g1
      have HB4 : Hid (Below w.heap.size w w4) := (HBr.out.trans ((HBV.out.trans (HB3.out.mono HBV.out.size)).mono HBr.out.size)).grown g2 (Nat.le_trans HBr.out.size (Nat.le_trans HBV.out.size HB3.out.size)) (fun g hg => (HO3.out.lt g hg).1)
      have hk4 : w4.cell? ⟨wr.heap.size, 0, none⟩ = some (.int .i64 q.lo) ∧ w4.cell? ⟨wr.heap.size, 1, none⟩ = some (.int .i64 q.hi) ∧ w4.cell? ⟨wr.heap.size, 2, none⟩ = some (.slice ta q.ts.length tc) ∧ w4.cell? ⟨lp, 0, none⟩ = some (.pointer (some ⟨p, 0, none⟩)) := HKeep.out w3 w4 HB3.out HO3.out g2
      clear g1 g2 g3 hHeld
      refine hK.out _ _ hk4 ?_
      have hHeld := (⟨hk4, trivial⟩ : _ ∧ True)
      clear hK K
      try simp only [Act.put, List.setIfInBounds_toArray, List.set_cons_zero, List.set_cons_succ]
      refine wpAnyT_late (i := 11) (o := ⟨some 3, .assign (.tmp 53), _, _, _, _⟩) (by kernel_rfl) rfl (by kernel_rfl) (fun K hK => ?_)
      go_simp
      refine hK.out _ _ ?shR6c3x11 ?restR6c3x11
      case shR6c3x11 => ((try dsimp only); (first | exact hHeld.1 | skip))
      clear hK K
      try simp only [Act.put, List.setIfInBounds_toArray, List.set_cons_zero, List.set_cons_succ]
      refine wpAnyT_done (by kernel_rfl) ?_ _
      go_wp2_with fail
      go_roundw
      case rel => exact ⟨k + 1, by go_num, hkn, (by show World.ownsRow _ _ _ _ _ _ _; rw [HN2.out, List.length_append, cts_append]; exact HO4.out), HB4⟩
      case measure => simp [intOf]; omega
  · have hke : k = S.length := by omega
    subst hke
    have hkI : ¬ (S.length : Int) < (S.length : Int) := by omega
    go_wp2_with fail
    go_ret
    exact ⟨_, rfl, HO.out, HBr.out⟩
end Go.Proofs.YtlcegpnnanhloaaGreatDoor
