/-
  layPoints: the program's.
-/
import Derived.Test.YtkgeknlmkkoobaaOdAsks
namespace Go.Proofs.Ytkgeknlmkkoobaa
open Go.RowKit

def PtOk (vs : List Md.Vr) (cs : List Md.Cn) (k : Nat) (V : Nat → Value) : Prop := ∀ i (_ : i < vs.length), i < k → V (i * 6 + 3) = .int .i64 (Od.aP vs cs i) ∧ V (i * 6 + 4) = .int .i64 vs[i].lo ∧ V (i * 6 + 5) = .int .i64 (Od.pTo cs vs[i] i)
def MpOk (vs : List Md.Vr) (cs : List Md.Cn) (k : Nat) (M : Nat → Value) : Prop := ∀ i, i < k → M (i * 2 + 1) = .int .i64 (Od.aP vs cs i)
theorem PtOk.put {vs : List Md.Vr} {cs : List Md.Cn} {k : Nat} {V : Nat → Value} (h : PtOk vs cs k V) (hk : k < vs.length) : PtOk vs cs (k + 1) (put3 V (k * 6 + 3) (.int .i64 (Od.aP vs cs k)) (.int .i64 vs[k].lo) (.int .i64 (Od.pTo cs vs[k] k))) := by
  intro i hi hik
  by_cases e : i = k
  · subst e
    exact put3_at _ _ _ _ _
  · obtain ⟨h1, h2, h3⟩ := h i hi (by omega)
    rw [put3_other (by omega), put3_other (by omega), put3_other (by omega)]
    exact ⟨h1, h2, h3⟩
theorem StOk.other {vs : List Md.Vr} {k n : Nat} {V : Nat → Value} {a b c : Value} (h : StOk vs n V) : StOk vs n (put3 V (k * 6 + 3) a b c) := by
  intro i hi hik
  obtain ⟨h1, h2, h3⟩ := h i hi hik
  rw [put3_other (by omega), put3_other (by omega), put3_other (by omega)]
  exact ⟨h1, h2, h3⟩
theorem MpOk.put {vs : List Md.Vr} {cs : List Md.Cn} {k : Nat} {M : Nat → Value} (h : MpOk vs cs k M) : MpOk vs cs (k + 1) (put M (k * 2 + 1) (.int .i64 (Od.aP vs cs k))) := by
  intro i hik
  by_cases e : i = k
  · subst e
    exact put_same _ _ _
  · rw [put_other (by omega)]
    exact h i (by omega)
theorem MsOk.other {vs : List Md.Vr} {k n : Nat} {M : Nat → Value} {a : Value} (h : MsOk vs n M) : MsOk vs n (Go.Proofs.Ytkgeknlmkkoobaa.put M (k * 2 + 1) a) := by
  intro i hik
  rw [put_other (by omega)]
  exact h i hik

set_option maxRecDepth 10000 in
set_option maxHeartbeats 4000000 in
theorem layPoints_any (s : Sh) (B : Nat) (vs : List Md.Vr) (cs : List Md.Cn) (b off cap : Nat) (vc : Value) (V M Kq : Nat → Value) (w : World) (h : OrdAt s w (Od.aS vs vs.length) V M Kq) (hSt : StOk vs vs.length V) (hMs : MsOk vs (vs.length + 1) M) (ok : s.Ok B) (hB : B ≤ w.heap.size) (hg : Od.Good vs) (hn : s.n = vs.length) (hV : ∀ w', Below B w w' → VarCells w' b off vs) (hC : ConsAt w vc cs) (hx : ∀ k (h : k < cs.length), ∀ y ∈ cs[k].xs, 0 ≤ y ∧ y < 32) :
    Calls Try.prog 23 #[.pointer (some ⟨s.P, 0, none⟩), .slice (some ⟨b, off, none⟩) vs.length cap, vc] w fun e w' => e = .returned (.tuple #[]) ∧ ∃ V' M', OrdAt s w' (Od.aP vs cs vs.length) V' M' Kq ∧ StOk vs vs.length V' ∧ PtOk vs cs vs.length V' ∧ MsOk vs (vs.length + 1) M' ∧ MpOk vs cs (vs.length + 1) M' ∧ Step s B w w' := by
  obtain ⟨ca, cp, rfl, _⟩ := hC.form
  have hg1 := hg.n1
  have HG : Hid (Od.Good vs) := hg
  have HOK : Hid (s.Ok B) := ok
  have HB : Hid (B ≤ w.heap.size) := hB
  have H0 : Hid (OrdAt s w (Od.aP vs cs 0) V M Kq) := h
  have Hn : Hid (s.n = vs.length) := hn
  have HV : Hid (∀ w', Below B w w' → VarCells w' b off vs) := hV
  have HSt0 : Hid (StOk vs vs.length V) := hSt
  have HMs0 : Hid (MsOk vs (vs.length + 1) M) := hMs
  have HA : Hid (Calls Try.prog 41 #[.slice ca cs.length cp] w (AskOut cs w)) := asksIs_any cs _ w hC hx
  clear h ok hB hg hV hn hSt hMs hC hx
  go_enter Try.func23, Try.ntmps23
  go_wp2_with fail
  refine calls_at HA.out (by with_reducible rfl) (by with_reducible rfl) ?_
  rintro e w1 ⟨⟨cur, rfl, hcs, hcc⟩, hb1⟩
  obtain ⟨W, hW⟩ : ∃ W, w1.alloc (.cells cur 98) = W := ⟨_, rfl⟩
  have hbW : Below w1.heap.size w1 W := by rw [← hW]; exact (Below.refl _ _).alloc (Nat.le_refl _) _
  have HN : Hid (W.heap[w1.heap.size]? = some (.cells cur 98 (0, 0))) := by show _ = _; rw [← hW]; exact heap_alloc_new w1 _
  have hbwW : Below w.heap.size w W := hb1.trans (hbW.mono hb1.size)
  have HBW : Hid (Below w.heap.size w W) := hbwW
  have HOne : Hid (cur.all (·.oneCell') = true) := row_one hcs hcc
  have HI : Hid ((Try.prog.info? 98).map (·.size) = some cur.size) := by show _ = _; rw [hcs]; exact i98
  have HCC : Hid (∀ i, i < 32 → cur[i]? = some (.bool (Od.asked cs i))) := hcc
  have Hz : Hid (32 = cur.size) := hcs.symm
  have HO0 : Hid (OrdAt s W (Od.aP vs cs 0) V M Kq) := H0.out.next hbwW
  have Hno : Hid (¬ s.own w1.heap.size) := by
    have := H0.out.lt
    have := hb1.size
    show ¬ (_ ∨ _ ∨ _ ∨ _)
    omega
  have HBs : Hid (B ≤ W.heap.size) := Nat.le_trans HB.out hbwW.size
  clear hb1 hbW hbwW hcs hcc H0
  go_wp2_with (refine wpList_store_row rfl 98 _ _ rfl w1.heap.size cur rfl rfl 98 _ (heap_alloc_new w1 _) HI.out Hz.out HOne.out ?_; rw [setRow_alloc, hW])
  clear hW
  go_loopw [14] (fun iv wr => ∃ (k : Nat) (V' M' : Nat → Value), iv = .int .i64 (k : Int) ∧ k ≤ vs.length ∧ Hid (OrdAt s wr (Od.aP vs cs k) V' M' Kq) ∧ Hid (StOk vs vs.length V' ∧ PtOk vs cs k V') ∧ Hid (MsOk vs (vs.length + 1) M' ∧ MpOk vs cs k M') ∧ Hid (Step s B W wr)) (fun iv _ => vs.length - (intOf iv).toNat)
  case atStart => exact ⟨0, V, M, rfl, Nat.zero_le _, HO0, ⟨HSt0.out, fun i _ h => absurd h (Nat.not_lt_zero _)⟩, ⟨HMs0.out, fun i h => absurd h (Nat.not_lt_zero _)⟩, Step.refl _ _ _⟩
  case round =>
    obtain ⟨k, V', M', rfl, hk, hO, hS, hM, hT⟩ := hrel
    clear HO0
    have HBr : Hid (B ≤ wr.heap.size) := Nat.le_trans HBs.out hT.out.size
    by_cases hlt : k < vs.length
    · have hkI : (k : Int) < (vs.length : Int) := by omega
      have hk32 : (k : Int) < 32 := by omega
      obtain ⟨d0, d1, d2⟩ := HV.out wr ((HBW.out.mono HB.out).trans hT.out.below) k hlt
      have HFit : Hid (Od.Run.Fit ⟨Od.aP vs cs k, vs[k].lo, Od.pTo cs vs[k] k⟩) := Od.ptR_fit HG.out cs k hlt
      have HNx : Hid (Od.aP vs cs (k + 1) = Od.aP vs cs k + (Od.pTo cs vs[k] k - vs[k].lo + 1)) := Od.aP_next hlt
      have HSt : Hid (StOk vs vs.length (put3 V' (k * 6 + 3) (.int .i64 (Od.aP vs cs k)) (.int .i64 vs[k].lo) (.int .i64 (Od.pTo cs vs[k] k))) ∧ PtOk vs cs (k + 1) (put3 V' (k * 6 + 3) (.int .i64 (Od.aP vs cs k)) (.int .i64 vs[k].lo) (.int .i64 (Od.pTo cs vs[k] k)))) := ⟨hS.out.1.other, hS.out.2.put hlt⟩
      have HMs : Hid (MsOk vs (vs.length + 1) (put M' (k * 2 + 1) (.int .i64 (Od.aP vs cs k))) ∧ MpOk vs cs (k + 1) (put M' (k * 2 + 1) (.int .i64 (Od.aP vs cs k)))) := ⟨hM.out.1.other, hM.out.2.put⟩
      have hlo : IntKind.i64.wrap (vs[k].lo - 1) = vs[k].lo - 1 := by have := HG.out.b k hlt; exact wrap_ok (by omega) (by omega)
      have HTo : Hid (Od.pTo cs vs[k] k = if Od.asked cs k = true then vs[k].hi else vs[k].lo - 1) := rfl
      generalize vs[k] = v at *
      generalize Od.aP vs cs k = cnt at *
      generalize Od.pTo cs v k = tt at *
      obtain ⟨nm, lo, hi⟩ := v
      simp only at d0 d1 d2 HFit HNx HSt hlo HTo
      obtain ⟨X, hX⟩ : ∃ X, wr.alloc (.cells #[.string nm, .int .i64 lo, .int .i64 hi] 38) = X := ⟨_, rfl⟩
      have hbX : Below wr.heap.size wr X := by rw [← hX]; exact (Below.refl _ _).alloc (Nat.le_refl _) _
      have hNX : X.heap[wr.heap.size]? = some (.cells #[.string nm, .int .i64 lo, .int .i64 hi] 38) := by rw [← hX]; exact heap_alloc_new wr _
      have HOX : Hid (OrdAt s X cnt V' M' Kq) := hO.out.next hbX
      have HNX : Hid (X.heap[wr.heap.size]? = some (.cells #[.string nm, .int .i64 lo, .int .i64 hi] 38)) := hNX
      have HTX : Hid (Step s B W X) := hT.out.new hbX HBs.out
      have Hno2 : Hid (¬ s.own wr.heap.size) := by
        have := hO.out.lt
        show ¬ (_ ∨ _ ∨ _ ∨ _)
        omega
      have hkn : (k : Int) < (s.n : Int) + 1 := by have := Hn.out; omega
      have hkn2 : (k : Int) < (s.n : Int) := by have := Hn.out; omega
      have hkn3 : k * 2 + 1 < (s.n + 1) * 2 := by have := Hn.out; omega
      have Hac : Hid (∀ w', Off s.own W w' → w'.cell? ⟨w1.heap.size, k, none⟩ = some (.bool (Od.asked cs k))) := fun w' ho => by
        have hh := (ho.block w1.heap.size (Array.getElem?_eq_some_iff.1 HN.out).1 Hno.out).trans HN.out
        simp [World.cell?, hh, HCC.out k (by omega)]
      clear hbX hNX
      go_wp2_with fail
      clear d0 d1 d2
      refine wp_region_T (fun _ => True) (Ls3 s.P s.mb s.n cnt X) [11] (by kernel_rfl) ⟨trivial, Ls3.of HOX.out (Below.refl _ _).drew⟩ (fun hHeld => ?_)
      unfold Ls3 at hHeld ⊢
      obtain ⟨mc, mz⟩ : (∃ u, X.drew.cell? ⟨s.mb, k * 2 + 1, none⟩ = some u) ∧ X.drew.frozen? ⟨s.mb, k * 2 + 1, none⟩ = false := ⟨⟨_, (HOX.out.m.drew).cell hkn3⟩, (HOX.out.m.drew).frozen _⟩
      obtain ⟨mu, mc⟩ := mc
      refine wpAnyT_takeB (i := 0) (oi := ⟨some 19, .move (.tmp 0), _, _, _, _⟩) (v := ?vR4c1x0) rfl (by kernel_rfl) (by kernel_rfl) (by kernel_rfl) (by kernel_rfl) (fun _ _ _ h => h) (Or.inl ⟨by rfl, ?hyR4c1x0⟩) (by assumption) ?restR4c1x0
      case hyR4c1x0 => (intro w hSw; (try dsimp only at hSw); go_simp; try (with_reducible rfl))
      try simp only [Act.put, List.setIfInBounds_toArray, List.set_cons_zero, List.set_cons_succ]
      refine wpAnyT_takeB (i := 1) (oi := ⟨some 20, .nilCheck (.tmp 19), _, _, _, _⟩) (v := ?vR4c1x1) rfl (by kernel_rfl) (by kernel_rfl) (by kernel_rfl) (by kernel_rfl) (fun _ _ _ h => h) (Or.inl ⟨by rfl, ?hyR4c1x1⟩) (by assumption) ?restR4c1x1
      case hyR4c1x1 => (intro w hSw; (try dsimp only at hSw); go_simp; try (with_reducible rfl))
      try simp only [Act.put, List.setIfInBounds_toArray, List.set_cons_zero, List.set_cons_succ]
      refine wpAnyT_takeB (i := 2) (oi := ⟨some 21, .fieldAddr 67 (.tmp 20) 2, _, _, _, _⟩) (v := ?vR4c1x2) rfl (by kernel_rfl) (by kernel_rfl) (by kernel_rfl) (by kernel_rfl) (fun _ _ _ h => h) (Or.inl ⟨by rfl, ?hyR4c1x2⟩) (by assumption) ?restR4c1x2
      case hyR4c1x2 => (intro w hSw; (try dsimp only at hSw); go_simp; try (with_reducible rfl))
      try simp only [Act.put, List.setIfInBounds_toArray, List.set_cons_zero, List.set_cons_succ]
      refine wpAnyT_take (i := 3) (oi := ⟨some 22, .load 64 (.tmp 21), _, _, _, _⟩) (v := ?vR4c1x3) rfl (by kernel_rfl) (by kernel_rfl) (by kernel_rfl) (by kernel_rfl) (by kernel_rfl) (fun _ _ _ h => h) (Or.inl ⟨by rfl, ?hyR4c1x3⟩) (by assumption) ?restR4c1x3
      case hyR4c1x3 => (intro w hSw; (try dsimp only at hSw); go_simp; try (with_reducible rfl))
      try simp only [Act.put, List.setIfInBounds_toArray, List.set_cons_zero, List.set_cons_succ]
      refine wpAnyT_takeB (i := 4) (oi := ⟨some 23, .move (.tmp 7), _, _, _, _⟩) (v := ?vR4c1x4) rfl (by kernel_rfl) (by kernel_rfl) (by kernel_rfl) (by kernel_rfl) (fun _ _ _ h => h) (Or.inl ⟨by rfl, ?hyR4c1x4⟩) (by assumption) ?restR4c1x4
      case hyR4c1x4 => (intro w hSw; (try dsimp only at hSw); go_simp; try (with_reducible rfl))
      try simp only [Act.put, List.setIfInBounds_toArray, List.set_cons_zero, List.set_cons_succ]
      refine wpAnyT_takeB (i := 5) (oi := ⟨some 24, .move (.tmp 0), _, _, _, _⟩) (v := ?vR4c1x5) rfl (by kernel_rfl) (by kernel_rfl) (by kernel_rfl) (by kernel_rfl) (fun _ _ _ h => h) (Or.inl ⟨by rfl, ?hyR4c1x5⟩) (by assumption) ?restR4c1x5
      case hyR4c1x5 => (intro w hSw; (try dsimp only at hSw); go_simp; try (with_reducible rfl))
      try simp only [Act.put, List.setIfInBounds_toArray, List.set_cons_zero, List.set_cons_succ]
      refine wpAnyT_takeB (i := 6) (oi := ⟨some 25, .nilCheck (.tmp 24), _, _, _, _⟩) (v := ?vR4c1x6) rfl (by kernel_rfl) (by kernel_rfl) (by kernel_rfl) (by kernel_rfl) (fun _ _ _ h => h) (Or.inl ⟨by rfl, ?hyR4c1x6⟩) (by assumption) ?restR4c1x6
      case hyR4c1x6 => (intro w hSw; (try dsimp only at hSw); go_simp; try (with_reducible rfl))
      try simp only [Act.put, List.setIfInBounds_toArray, List.set_cons_zero, List.set_cons_succ]
      refine wpAnyT_takeB (i := 7) (oi := ⟨some 26, .fieldAddr 67 (.tmp 25) 0, _, _, _, _⟩) (v := ?vR4c1x7) rfl (by kernel_rfl) (by kernel_rfl) (by kernel_rfl) (by kernel_rfl) (fun _ _ _ h => h) (Or.inl ⟨by rfl, ?hyR4c1x7⟩) (by assumption) ?restR4c1x7
      case hyR4c1x7 => (intro w hSw; (try dsimp only at hSw); go_simp; try (with_reducible rfl))
      try simp only [Act.put, List.setIfInBounds_toArray, List.set_cons_zero, List.set_cons_succ]
      refine wpAnyT_take (i := 8) (oi := ⟨some 27, .load 3 (.tmp 26), _, _, _, _⟩) (v := ?vR4c1x8) rfl (by kernel_rfl) (by kernel_rfl) (by kernel_rfl) (by kernel_rfl) (by kernel_rfl) (fun _ _ _ h => h) (Or.inl ⟨by rfl, ?hyR4c1x8⟩) (by assumption) ?restR4c1x8
      case hyR4c1x8 => (intro w hSw; (try dsimp only at hSw); go_simp; try (with_reducible rfl))
      try simp only [Act.put, List.setIfInBounds_toArray, List.set_cons_zero, List.set_cons_succ]
      refine wpAnyT_takeB (i := 9) (oi := ⟨some 28, .indexAddr 64 (.tmp 22) (.tmp 23), _, _, _, _⟩) (v := ?vR4c1x9) rfl (by kernel_rfl) (by kernel_rfl) (by kernel_rfl) (by kernel_rfl) (fun _ _ _ h => h) (Or.inl ⟨by rfl, ?hyR4c1x9⟩) (by assumption) ?restR4c1x9
      case hyR4c1x9 => (intro w hSw; (try dsimp only at hSw); go_simp; try (with_reducible rfl))
      try simp only [Act.put, List.setIfInBounds_toArray, List.set_cons_zero, List.set_cons_succ]
      refine wpAnyT_takeB (i := 10) (oi := ⟨some 29, .indexAddr 81 (.tmp 28) ((.const (.int .i64 1))), _, _, _, _⟩) (v := ?vR4c1x10) rfl (by kernel_rfl) (by kernel_rfl) (by kernel_rfl) (by kernel_rfl) (fun _ _ _ h => h) (Or.inl ⟨by rfl, ?hyR4c1x10⟩) (by assumption) ?restR4c1x10
      case hyR4c1x10 => (intro w hSw; (try dsimp only at hSw); go_simp; try (with_reducible rfl))
      try simp only [Act.put, List.setIfInBounds_toArray, List.set_cons_zero, List.set_cons_succ]
      refine wpAnyT_late (i := 11) (o := ⟨none, .store 3 (.tmp 29) (.tmp 27), _, _, _, _⟩) (by kernel_rfl) rfl (by kernel_rfl) (fun K hK => ?_)
      go_simp
      refine hK.out _ _ ?shR4c1x11 ?restR4c1x11
      case shR4c1x11 => ((try dsimp only); all_goals trivial)
      clear hK K
      try simp only [Act.put, List.setIfInBounds_toArray, List.set_cons_zero, List.set_cons_succ]
      refine wpAnyT_done (by kernel_rfl) ?_ _
      obtain ⟨Y, hY⟩ : ∃ Y, (X.setCell ⟨s.mb, k * 2 + 1, none⟩ (.int .i64 cnt)).drew = Y := ⟨_, rfl⟩
      have hOY : OrdAt s Y cnt V' (put M' (k * 2 + 1) (.int .i64 cnt)) Kq := by rw [← hY]; exact (HOX.out.setM HOK.out (k * 2 + 1) (.int .i64 cnt)).next (Below.refl _ _).drew
      have hsY : Step s B X Y := by rw [← hY]; exact ⟨((Below.refl _ _).setCell HOK.out.bm _).drew, (Off.set (S := s.own) _ (.inr (.inr (.inl rfl)))).trans (Off.of_below (Below.refl _ _).drew)⟩
      have HOY : Hid (OrdAt s Y cnt V' (put M' (k * 2 + 1) (.int .i64 cnt)) Kq) := hOY
      have HSY : Hid (Step s B X Y) := hsY
      have HNY : Hid (Y.heap[wr.heap.size]? = some (.cells #[.string nm, .int .i64 lo, .int .i64 hi] 38)) := (hsY.off.block _ (Array.getElem?_eq_some_iff.1 HNX.out).1 Hno2.out).trans HNX.out
      have HBY : Hid (B ≤ Y.heap.size) := Nat.le_trans HBr.out (Nat.le_trans (by rw [← hX]; simp) hsY.size)
      have ac := Hac.out Y (HTX.out.off.trans hsY.off)
      obtain ⟨⟨n0, n1, n2⟩, _⟩ := box3 HNY.out
      try rw [hY]
      clear hOY hsY hY mc mz hHeld
      cases hb : Od.asked cs k
      · rw [hb] at ac HTo
        obtain rfl : tt = lo - 1 := HTo.out.trans (if_neg (by simp))
        clear hb HTo
        go_wp2_with fail
        clear ac n0 n1 n2
        refine wp_region_T (fun _ => True) (fun w' => Ls4 s.P s.vb s.n wr.heap.size nm lo hi w' ∧ True) [13] (by kernel_rfl) ⟨trivial, Ls4.of (HOY.out.next (Below.refl _ _).drew) HNY.out Hno2.out (Off.of_below (Below.refl _ _).drew), trivial⟩ (fun hHeld => ?_)
        unfold Ls4 at hHeld ⊢
        refine wpAnyT_takeB (i := 0) (oi := ⟨some 38, .move (.tmp 0), _, _, _, _⟩) (v := ?vR8c2x0) rfl (by kernel_rfl) (by kernel_rfl) (by kernel_rfl) (by kernel_rfl) (fun _ _ _ h => h) (Or.inl ⟨by rfl, ?hyR8c2x0⟩) (by assumption) ?restR8c2x0
        case hyR8c2x0 => (intro w hSw; (try dsimp only at hSw); go_simp; try (with_reducible rfl))
        try simp only [Act.put, List.setIfInBounds_toArray, List.set_cons_zero, List.set_cons_succ]
        refine wpAnyT_takeB (i := 1) (oi := ⟨some 39, .nilCheck (.tmp 38), _, _, _, _⟩) (v := ?vR8c2x1) rfl (by kernel_rfl) (by kernel_rfl) (by kernel_rfl) (by kernel_rfl) (fun _ _ _ h => h) (Or.inl ⟨by rfl, ?hyR8c2x1⟩) (by assumption) ?restR8c2x1
        case hyR8c2x1 => (intro w hSw; (try dsimp only at hSw); go_simp; try (with_reducible rfl))
        try simp only [Act.put, List.setIfInBounds_toArray, List.set_cons_zero, List.set_cons_succ]
        refine wpAnyT_takeB (i := 2) (oi := ⟨some 40, .fieldAddr 67 (.tmp 39) 1, _, _, _, _⟩) (v := ?vR8c2x2) rfl (by kernel_rfl) (by kernel_rfl) (by kernel_rfl) (by kernel_rfl) (fun _ _ _ h => h) (Or.inl ⟨by rfl, ?hyR8c2x2⟩) (by assumption) ?restR8c2x2
        case hyR8c2x2 => (intro w hSw; (try dsimp only at hSw); go_simp; try (with_reducible rfl))
        try simp only [Act.put, List.setIfInBounds_toArray, List.set_cons_zero, List.set_cons_succ]
        refine wpAnyT_take (i := 3) (oi := ⟨some 41, .load 63 (.tmp 40), _, _, _, _⟩) (v := ?vR8c2x3) rfl (by kernel_rfl) (by kernel_rfl) (by kernel_rfl) (by kernel_rfl) (by kernel_rfl) (fun _ _ _ h => h) (Or.inl ⟨by rfl, ?hyR8c2x3⟩) (by assumption) ?restR8c2x3
        case hyR8c2x3 => (intro w hSw; (try dsimp only at hSw); go_simp; try (with_reducible rfl))
        try simp only [Act.put, List.setIfInBounds_toArray, List.set_cons_zero, List.set_cons_succ]
        refine wpAnyT_takeB (i := 4) (oi := ⟨some 42, .move (.tmp 7), _, _, _, _⟩) (v := ?vR8c2x4) rfl (by kernel_rfl) (by kernel_rfl) (by kernel_rfl) (by kernel_rfl) (fun _ _ _ h => h) (Or.inl ⟨by rfl, ?hyR8c2x4⟩) (by assumption) ?restR8c2x4
        case hyR8c2x4 => (intro w hSw; (try dsimp only at hSw); go_simp; try (with_reducible rfl))
        try simp only [Act.put, List.setIfInBounds_toArray, List.set_cons_zero, List.set_cons_succ]
        refine wpAnyT_takeB (i := 5) (oi := ⟨some 43, .move (.tmp 0), _, _, _, _⟩) (v := ?vR8c2x5) rfl (by kernel_rfl) (by kernel_rfl) (by kernel_rfl) (by kernel_rfl) (fun _ _ _ h => h) (Or.inl ⟨by rfl, ?hyR8c2x5⟩) (by assumption) ?restR8c2x5
        case hyR8c2x5 => (intro w hSw; (try dsimp only at hSw); go_simp; try (with_reducible rfl))
        try simp only [Act.put, List.setIfInBounds_toArray, List.set_cons_zero, List.set_cons_succ]
        refine wpAnyT_takeB (i := 6) (oi := ⟨some 44, .fieldAddr 38 (.tmp 8) 1, _, _, _, _⟩) (v := ?vR8c2x6) rfl (by kernel_rfl) (by kernel_rfl) (by kernel_rfl) (by kernel_rfl) (fun _ _ _ h => h) (Or.inl ⟨by rfl, ?hyR8c2x6⟩) (by assumption) ?restR8c2x6
        case hyR8c2x6 => (intro w hSw; (try dsimp only at hSw); go_simp; try (with_reducible rfl))
        try simp only [Act.put, List.setIfInBounds_toArray, List.set_cons_zero, List.set_cons_succ]
        refine wpAnyT_take (i := 7) (oi := ⟨some 45, .load 3 (.tmp 44), _, _, _, _⟩) (v := ?vR8c2x7) rfl (by kernel_rfl) (by kernel_rfl) (by kernel_rfl) (by kernel_rfl) (by kernel_rfl) (fun _ _ _ h => h) (Or.inl ⟨by rfl, ?hyR8c2x7⟩) (by assumption) ?restR8c2x7
        case hyR8c2x7 => (intro w hSw; (try dsimp only at hSw); go_simp; try (with_reducible rfl))
        try simp only [Act.put, List.setIfInBounds_toArray, List.set_cons_zero, List.set_cons_succ]
        refine wpAnyT_takeB (i := 8) (oi := ⟨some 46, .move (.tmp 9), _, _, _, _⟩) (v := ?vR8c2x8) rfl (by kernel_rfl) (by kernel_rfl) (by kernel_rfl) (by kernel_rfl) (fun _ _ _ h => h) (Or.inl ⟨by rfl, ?hyR8c2x8⟩) (by assumption) ?restR8c2x8
        case hyR8c2x8 => (intro w hSw; (try dsimp only at hSw); go_simp; try (with_reducible rfl))
        try simp only [Act.put, List.setIfInBounds_toArray, List.set_cons_zero, List.set_cons_succ]
        refine wpAnyT_one (i := 9) (o := ⟨some 47, .call { callee := .value (.func 40), args := #[.tmp 43, .tmp 45, .tmp 46], argTypes := #[33, 3, 3] }, _, _, _, _⟩) (by kernel_rfl) rfl (fun K hK => ?_)
        go_simp
        refine calls_at (next_any s B cnt lo (lo - 1) V' (put M' (k * 2 + 1) (.int .i64 cnt)) Kq _ (HOY.out.next (Below.refl _ _).drew) HOK.out HBY.out HFit.out) (by with_reducible rfl) (by with_reducible rfl) ?_
        rintro e w2 ⟨rfl, ho2, hs2⟩
        go_wp2_with fail
        have HO2 : Hid (OrdAt s w2 (cnt + ((lo - 1) - lo + 1)) V' (put M' (k * 2 + 1) (.int .i64 cnt)) Kq) := ho2
        have HS2 : Hid (Step s B W w2) := (HTX.out.trans HSY.out).trans ((Step.of_below (Below.refl _ _).drew HBY.out).trans hs2)
        have hHw : True ∧ (Ls4 s.P s.vb s.n wr.heap.size nm lo hi w2 ∧ True) := ⟨trivial, Ls4.of ho2 HNY.out Hno2.out ((Off.of_below (Below.refl _ _).drew).trans hs2.off), trivial⟩
        unfold Ls4 at hHw
        refine hK.out _ _ ⟨trivial, fun _ => hHw.2⟩ ?_
        clear hK K ho2 hs2
        have vz := HO2.out.v.frozen
        have vz0 := vz (k * 6 + 3)
        have vz1 := vz (k * 6 + 4)
        have vz2 := vz (k * 6 + 5)
        have vc0 := HO2.out.v.cell (i := k * 6 + 3) (by have := Hn.out; omega)
        have vc1 := HO2.out.v.cell (i := k * 6 + 4) (by have := Hn.out; omega)
        have vc2 := HO2.out.v.cell (i := k * 6 + 5) (by have := Hn.out; omega)
        clear vz
        refine wpAnyT_takeB (i := 10) (oi := ⟨some 48, .build 75 #[(0, (.tmp 47))], _, _, _, _⟩) (v := ?vR8c2x10) rfl (by kernel_rfl) (by kernel_rfl) (by kernel_rfl) (by kernel_rfl) (fun _ _ _ h => h) (Or.inl ⟨by rfl, ?hyR8c2x10⟩) (by assumption) ?restR8c2x10
        case hyR8c2x10 => (intro w hSw; (try dsimp only at hSw); go_simp; try (with_reducible rfl))
        try simp only [Act.put, List.setIfInBounds_toArray, List.set_cons_zero, List.set_cons_succ]
        refine wpAnyT_takeB (i := 11) (oi := ⟨some 49, .indexAddr 63 (.tmp 41) (.tmp 42), _, _, _, _⟩) (v := ?vR8c2x11) rfl (by kernel_rfl) (by kernel_rfl) (by kernel_rfl) (by kernel_rfl) (fun _ _ _ h => h) (Or.inl ⟨by rfl, ?hyR8c2x11⟩) (by assumption) ?restR8c2x11
        case hyR8c2x11 => (intro w hSw; (try dsimp only at hSw); go_simp; try (with_reducible rfl))
        try simp only [Act.put, List.setIfInBounds_toArray, List.set_cons_zero, List.set_cons_succ]
        refine wpAnyT_takeB (i := 12) (oi := ⟨some 50, .fieldAddr 77 (.tmp 49) 1, _, _, _, _⟩) (v := ?vR8c2x12) rfl (by kernel_rfl) (by kernel_rfl) (by kernel_rfl) (by kernel_rfl) (fun _ _ _ h => h) (Or.inl ⟨by rfl, ?hyR8c2x12⟩) (by assumption) ?restR8c2x12
        case hyR8c2x12 => (intro w hSw; (try dsimp only at hSw); go_simp; try (with_reducible rfl))
        try simp only [Act.put, List.setIfInBounds_toArray, List.set_cons_zero, List.set_cons_succ]
        refine wpAnyT_late (i := 13) (o := ⟨none, .store 75 (.tmp 50) (.tmp 48), _, _, _, _⟩) (by kernel_rfl) rfl (by kernel_rfl) (fun K hK => ?_)
        go_simp
        refine hK.out _ _ ?shR8c2x13 ?restR8c2x13
        case shR8c2x13 => ((try dsimp only); all_goals trivial)
        clear hK K
        try simp only [Act.put, List.setIfInBounds_toArray, List.set_cons_zero, List.set_cons_succ]
        refine wpAnyT_done (by kernel_rfl) ?_ _
        obtain ⟨Z, hZ⟩ : ∃ Z, ((w2.setCell ⟨s.vb, k * 6 + 3, none⟩ (.int .i64 cnt)).setCell ⟨s.vb, k * 6 + 4, none⟩ (.int .i64 lo)).setCell ⟨s.vb, k * 6 + 5, none⟩ (.int .i64 (lo - 1)) = Z := ⟨_, rfl⟩
        have HOZ : Hid (OrdAt s Z (Od.aP vs cs (k + 1)) (put3 V' (k * 6 + 3) (.int .i64 cnt) (.int .i64 lo) (.int .i64 (lo - 1))) (put M' (k * 2 + 1) (.int .i64 cnt)) Kq) := by
          show OrdAt _ _ _ _ _ _
          rw [← hZ, HNx.out]
          exact ((HO2.out.setV HOK.out _ _).setV HOK.out _ _).setV HOK.out _ _
        have HTZ : Hid (Step s B W Z) := by
          show Step _ _ _ _
          rw [← hZ]
          exact ((HS2.out.trans (Step.set _ (.inr (.inl rfl)) HOK.out.bv)).trans (Step.set _ (.inr (.inl rfl)) HOK.out.bv)).trans (Step.set _ (.inr (.inl rfl)) HOK.out.bv)
        rw [hZ]
        clear hZ hHw vz0 vz1 vz2 vc0 vc1 vc2 HO2 HS2
        go_wp2_with fail
        go_roundw
        case rel => exact ⟨k + 1, _, _, by go_num, by omega, HOZ, HSt, HMs, HTZ⟩
        case measure => simp [intOf]; omega
      · rw [hb] at ac HTo
        obtain rfl : hi = tt := (HTo.out.trans (if_pos rfl)).symm
        clear hb HTo
        go_wp2_with fail
        clear ac n0 n1 n2
        refine wp_region_T (fun _ => True) (fun w' => Ls4 s.P s.vb s.n wr.heap.size nm lo hi w' ∧ True) [13] (by kernel_rfl) ⟨trivial, Ls4.of (HOY.out.next (Below.refl _ _).drew) HNY.out Hno2.out (Off.of_below (Below.refl _ _).drew), trivial⟩ (fun hHeld => ?_)
        unfold Ls4 at hHeld ⊢
        refine wpAnyT_takeB (i := 0) (oi := ⟨some 38, .move (.tmp 0), _, _, _, _⟩) (v := ?vR8c3x0) rfl (by kernel_rfl) (by kernel_rfl) (by kernel_rfl) (by kernel_rfl) (fun _ _ _ h => h) (Or.inl ⟨by rfl, ?hyR8c3x0⟩) (by assumption) ?restR8c3x0
        case hyR8c3x0 => (intro w hSw; (try dsimp only at hSw); go_simp; try (with_reducible rfl))
        try simp only [Act.put, List.setIfInBounds_toArray, List.set_cons_zero, List.set_cons_succ]
        refine wpAnyT_takeB (i := 1) (oi := ⟨some 39, .nilCheck (.tmp 38), _, _, _, _⟩) (v := ?vR8c3x1) rfl (by kernel_rfl) (by kernel_rfl) (by kernel_rfl) (by kernel_rfl) (fun _ _ _ h => h) (Or.inl ⟨by rfl, ?hyR8c3x1⟩) (by assumption) ?restR8c3x1
        case hyR8c3x1 => (intro w hSw; (try dsimp only at hSw); go_simp; try (with_reducible rfl))
        try simp only [Act.put, List.setIfInBounds_toArray, List.set_cons_zero, List.set_cons_succ]
        refine wpAnyT_takeB (i := 2) (oi := ⟨some 40, .fieldAddr 67 (.tmp 39) 1, _, _, _, _⟩) (v := ?vR8c3x2) rfl (by kernel_rfl) (by kernel_rfl) (by kernel_rfl) (by kernel_rfl) (fun _ _ _ h => h) (Or.inl ⟨by rfl, ?hyR8c3x2⟩) (by assumption) ?restR8c3x2
        case hyR8c3x2 => (intro w hSw; (try dsimp only at hSw); go_simp; try (with_reducible rfl))
        try simp only [Act.put, List.setIfInBounds_toArray, List.set_cons_zero, List.set_cons_succ]
        refine wpAnyT_take (i := 3) (oi := ⟨some 41, .load 63 (.tmp 40), _, _, _, _⟩) (v := ?vR8c3x3) rfl (by kernel_rfl) (by kernel_rfl) (by kernel_rfl) (by kernel_rfl) (by kernel_rfl) (fun _ _ _ h => h) (Or.inl ⟨by rfl, ?hyR8c3x3⟩) (by assumption) ?restR8c3x3
        case hyR8c3x3 => (intro w hSw; (try dsimp only at hSw); go_simp; try (with_reducible rfl))
        try simp only [Act.put, List.setIfInBounds_toArray, List.set_cons_zero, List.set_cons_succ]
        refine wpAnyT_takeB (i := 4) (oi := ⟨some 42, .move (.tmp 7), _, _, _, _⟩) (v := ?vR8c3x4) rfl (by kernel_rfl) (by kernel_rfl) (by kernel_rfl) (by kernel_rfl) (fun _ _ _ h => h) (Or.inl ⟨by rfl, ?hyR8c3x4⟩) (by assumption) ?restR8c3x4
        case hyR8c3x4 => (intro w hSw; (try dsimp only at hSw); go_simp; try (with_reducible rfl))
        try simp only [Act.put, List.setIfInBounds_toArray, List.set_cons_zero, List.set_cons_succ]
        refine wpAnyT_takeB (i := 5) (oi := ⟨some 43, .move (.tmp 0), _, _, _, _⟩) (v := ?vR8c3x5) rfl (by kernel_rfl) (by kernel_rfl) (by kernel_rfl) (by kernel_rfl) (fun _ _ _ h => h) (Or.inl ⟨by rfl, ?hyR8c3x5⟩) (by assumption) ?restR8c3x5
        case hyR8c3x5 => (intro w hSw; (try dsimp only at hSw); go_simp; try (with_reducible rfl))
        try simp only [Act.put, List.setIfInBounds_toArray, List.set_cons_zero, List.set_cons_succ]
        refine wpAnyT_takeB (i := 6) (oi := ⟨some 44, .fieldAddr 38 (.tmp 8) 1, _, _, _, _⟩) (v := ?vR8c3x6) rfl (by kernel_rfl) (by kernel_rfl) (by kernel_rfl) (by kernel_rfl) (fun _ _ _ h => h) (Or.inl ⟨by rfl, ?hyR8c3x6⟩) (by assumption) ?restR8c3x6
        case hyR8c3x6 => (intro w hSw; (try dsimp only at hSw); go_simp; try (with_reducible rfl))
        try simp only [Act.put, List.setIfInBounds_toArray, List.set_cons_zero, List.set_cons_succ]
        refine wpAnyT_take (i := 7) (oi := ⟨some 45, .load 3 (.tmp 44), _, _, _, _⟩) (v := ?vR8c3x7) rfl (by kernel_rfl) (by kernel_rfl) (by kernel_rfl) (by kernel_rfl) (by kernel_rfl) (fun _ _ _ h => h) (Or.inl ⟨by rfl, ?hyR8c3x7⟩) (by assumption) ?restR8c3x7
        case hyR8c3x7 => (intro w hSw; (try dsimp only at hSw); go_simp; try (with_reducible rfl))
        try simp only [Act.put, List.setIfInBounds_toArray, List.set_cons_zero, List.set_cons_succ]
        refine wpAnyT_takeB (i := 8) (oi := ⟨some 46, .move (.tmp 9), _, _, _, _⟩) (v := ?vR8c3x8) rfl (by kernel_rfl) (by kernel_rfl) (by kernel_rfl) (by kernel_rfl) (fun _ _ _ h => h) (Or.inl ⟨by rfl, ?hyR8c3x8⟩) (by assumption) ?restR8c3x8
        case hyR8c3x8 => (intro w hSw; (try dsimp only at hSw); go_simp; try (with_reducible rfl))
        try simp only [Act.put, List.setIfInBounds_toArray, List.set_cons_zero, List.set_cons_succ]
        refine wpAnyT_one (i := 9) (o := ⟨some 47, .call { callee := .value (.func 40), args := #[.tmp 43, .tmp 45, .tmp 46], argTypes := #[33, 3, 3] }, _, _, _, _⟩) (by kernel_rfl) rfl (fun K hK => ?_)
        go_simp
        refine calls_at (next_any s B cnt lo hi V' (put M' (k * 2 + 1) (.int .i64 cnt)) Kq _ (HOY.out.next (Below.refl _ _).drew) HOK.out HBY.out HFit.out) (by with_reducible rfl) (by with_reducible rfl) ?_
        rintro e w2 ⟨rfl, ho2, hs2⟩
        go_wp2_with fail
        have HO2 : Hid (OrdAt s w2 (cnt + (hi - lo + 1)) V' (put M' (k * 2 + 1) (.int .i64 cnt)) Kq) := ho2
        have HS2 : Hid (Step s B W w2) := (HTX.out.trans HSY.out).trans ((Step.of_below (Below.refl _ _).drew HBY.out).trans hs2)
        have hHw : True ∧ (Ls4 s.P s.vb s.n wr.heap.size nm lo hi w2 ∧ True) := ⟨trivial, Ls4.of ho2 HNY.out Hno2.out ((Off.of_below (Below.refl _ _).drew).trans hs2.off), trivial⟩
        unfold Ls4 at hHw
        refine hK.out _ _ ⟨trivial, fun _ => hHw.2⟩ ?_
        clear hK K ho2 hs2
        have vz := HO2.out.v.frozen
        have vz0 := vz (k * 6 + 3)
        have vz1 := vz (k * 6 + 4)
        have vz2 := vz (k * 6 + 5)
        have vc0 := HO2.out.v.cell (i := k * 6 + 3) (by have := Hn.out; omega)
        have vc1 := HO2.out.v.cell (i := k * 6 + 4) (by have := Hn.out; omega)
        have vc2 := HO2.out.v.cell (i := k * 6 + 5) (by have := Hn.out; omega)
        clear vz
        refine wpAnyT_takeB (i := 10) (oi := ⟨some 48, .build 75 #[(0, (.tmp 47))], _, _, _, _⟩) (v := ?vR8c3x10) rfl (by kernel_rfl) (by kernel_rfl) (by kernel_rfl) (by kernel_rfl) (fun _ _ _ h => h) (Or.inl ⟨by rfl, ?hyR8c3x10⟩) (by assumption) ?restR8c3x10
        case hyR8c3x10 => (intro w hSw; (try dsimp only at hSw); go_simp; try (with_reducible rfl))
        try simp only [Act.put, List.setIfInBounds_toArray, List.set_cons_zero, List.set_cons_succ]
        refine wpAnyT_takeB (i := 11) (oi := ⟨some 49, .indexAddr 63 (.tmp 41) (.tmp 42), _, _, _, _⟩) (v := ?vR8c3x11) rfl (by kernel_rfl) (by kernel_rfl) (by kernel_rfl) (by kernel_rfl) (fun _ _ _ h => h) (Or.inl ⟨by rfl, ?hyR8c3x11⟩) (by assumption) ?restR8c3x11
        case hyR8c3x11 => (intro w hSw; (try dsimp only at hSw); go_simp; try (with_reducible rfl))
        try simp only [Act.put, List.setIfInBounds_toArray, List.set_cons_zero, List.set_cons_succ]
        refine wpAnyT_takeB (i := 12) (oi := ⟨some 50, .fieldAddr 77 (.tmp 49) 1, _, _, _, _⟩) (v := ?vR8c3x12) rfl (by kernel_rfl) (by kernel_rfl) (by kernel_rfl) (by kernel_rfl) (fun _ _ _ h => h) (Or.inl ⟨by rfl, ?hyR8c3x12⟩) (by assumption) ?restR8c3x12
        case hyR8c3x12 => (intro w hSw; (try dsimp only at hSw); go_simp; try (with_reducible rfl))
        try simp only [Act.put, List.setIfInBounds_toArray, List.set_cons_zero, List.set_cons_succ]
        refine wpAnyT_late (i := 13) (o := ⟨none, .store 75 (.tmp 50) (.tmp 48), _, _, _, _⟩) (by kernel_rfl) rfl (by kernel_rfl) (fun K hK => ?_)
        go_simp
        refine hK.out _ _ ?shR8c3x13 ?restR8c3x13
        case shR8c3x13 => ((try dsimp only); all_goals trivial)
        clear hK K
        try simp only [Act.put, List.setIfInBounds_toArray, List.set_cons_zero, List.set_cons_succ]
        refine wpAnyT_done (by kernel_rfl) ?_ _
        obtain ⟨Z, hZ⟩ : ∃ Z, ((w2.setCell ⟨s.vb, k * 6 + 3, none⟩ (.int .i64 cnt)).setCell ⟨s.vb, k * 6 + 4, none⟩ (.int .i64 lo)).setCell ⟨s.vb, k * 6 + 5, none⟩ (.int .i64 hi) = Z := ⟨_, rfl⟩
        have HOZ : Hid (OrdAt s Z (Od.aP vs cs (k + 1)) (put3 V' (k * 6 + 3) (.int .i64 cnt) (.int .i64 lo) (.int .i64 hi)) (put M' (k * 2 + 1) (.int .i64 cnt)) Kq) := by
          show OrdAt _ _ _ _ _ _
          rw [← hZ, HNx.out]
          exact ((HO2.out.setV HOK.out _ _).setV HOK.out _ _).setV HOK.out _ _
        have HTZ : Hid (Step s B W Z) := by
          show Step _ _ _ _
          rw [← hZ]
          exact ((HS2.out.trans (Step.set _ (.inr (.inl rfl)) HOK.out.bv)).trans (Step.set _ (.inr (.inl rfl)) HOK.out.bv)).trans (Step.set _ (.inr (.inl rfl)) HOK.out.bv)
        rw [hZ]
        clear hZ hHw vz0 vz1 vz2 vc0 vc1 vc2 HO2 HS2
        go_wp2_with fail
        go_roundw
        case rel => exact ⟨k + 1, _, _, by go_num, by omega, HOZ, HSt, HMs, HTZ⟩
        case measure => simp [intOf]; omega
    · have hkI : ¬ (k : Int) < (vs.length : Int) := by omega
      obtain rfl : k = vs.length := by omega
      have HMs : Hid (MsOk vs (vs.length + 1) (put M' (vs.length * 2 + 1) (.int .i64 (Od.aP vs cs vs.length))) ∧ MpOk vs cs (vs.length + 1) (put M' (vs.length * 2 + 1) (.int .i64 (Od.aP vs cs vs.length)))) := ⟨hM.out.1.other, hM.out.2.put⟩
      obtain ⟨cnt, hcnt⟩ : ∃ c, Od.aP vs cs vs.length = c := ⟨_, rfl⟩
      rw [hcnt] at hO HMs
      have HE : Hid (Od.aP vs cs vs.length = cnt) := hcnt
      clear hcnt
      have hkn : (vs.length : Int) < (s.n : Int) + 1 := by have := Hn.out; omega
      have hkn3 : vs.length * 2 + 1 < (s.n + 1) * 2 := by have := Hn.out; omega
      go_wp2_with fail
      refine wp_region_T (fun _ => True) (Ls3 s.P s.mb s.n cnt wr) [12] (by kernel_rfl) ⟨trivial, Ls3.of hO.out (Below.refl _ _).drew⟩ (fun hHeld => ?_)
      unfold Ls3 at hHeld ⊢
      obtain ⟨mc, mz⟩ : (∃ u, wr.drew.cell? ⟨s.mb, vs.length * 2 + 1, none⟩ = some u) ∧ wr.drew.frozen? ⟨s.mb, vs.length * 2 + 1, none⟩ = false := ⟨⟨_, (hO.out.m.drew).cell hkn3⟩, (hO.out.m.drew).frozen _⟩
      obtain ⟨mu, mc⟩ := mc
      refine wpAnyT_takeB (i := 0) (oi := ⟨some 52, .move (.tmp 0), _, _, _, _⟩) (v := ?vR10c4x0) rfl (by kernel_rfl) (by kernel_rfl) (by kernel_rfl) (by kernel_rfl) (fun _ _ _ h => h) (Or.inl ⟨by rfl, ?hyR10c4x0⟩) (by assumption) ?restR10c4x0
      case hyR10c4x0 => (intro w hSw; (try dsimp only at hSw); go_simp; try (with_reducible rfl))
      try simp only [Act.put, List.setIfInBounds_toArray, List.set_cons_zero, List.set_cons_succ]
      refine wpAnyT_takeB (i := 1) (oi := ⟨some 53, .nilCheck (.tmp 52), _, _, _, _⟩) (v := ?vR10c4x1) rfl (by kernel_rfl) (by kernel_rfl) (by kernel_rfl) (by kernel_rfl) (fun _ _ _ h => h) (Or.inl ⟨by rfl, ?hyR10c4x1⟩) (by assumption) ?restR10c4x1
      case hyR10c4x1 => (intro w hSw; (try dsimp only at hSw); go_simp; try (with_reducible rfl))
      try simp only [Act.put, List.setIfInBounds_toArray, List.set_cons_zero, List.set_cons_succ]
      refine wpAnyT_takeB (i := 2) (oi := ⟨some 54, .fieldAddr 67 (.tmp 53) 2, _, _, _, _⟩) (v := ?vR10c4x2) rfl (by kernel_rfl) (by kernel_rfl) (by kernel_rfl) (by kernel_rfl) (fun _ _ _ h => h) (Or.inl ⟨by rfl, ?hyR10c4x2⟩) (by assumption) ?restR10c4x2
      case hyR10c4x2 => (intro w hSw; (try dsimp only at hSw); go_simp; try (with_reducible rfl))
      try simp only [Act.put, List.setIfInBounds_toArray, List.set_cons_zero, List.set_cons_succ]
      refine wpAnyT_take (i := 3) (oi := ⟨some 55, .load 64 (.tmp 54), _, _, _, _⟩) (v := ?vR10c4x3) rfl (by kernel_rfl) (by kernel_rfl) (by kernel_rfl) (by kernel_rfl) (by kernel_rfl) (fun _ _ _ h => h) (Or.inl ⟨by rfl, ?hyR10c4x3⟩) (by assumption) ?restR10c4x3
      case hyR10c4x3 => (intro w hSw; (try dsimp only at hSw); go_simp; try (with_reducible rfl))
      try simp only [Act.put, List.setIfInBounds_toArray, List.set_cons_zero, List.set_cons_succ]
      refine wpAnyT_takeB (i := 4) (oi := ⟨some 56, .move (.tmp 1), _, _, _, _⟩) (v := ?vR10c4x4) rfl (by kernel_rfl) (by kernel_rfl) (by kernel_rfl) (by kernel_rfl) (fun _ _ _ h => h) (Or.inl ⟨by rfl, ?hyR10c4x4⟩) (by assumption) ?restR10c4x4
      case hyR10c4x4 => (intro w hSw; (try dsimp only at hSw); go_simp; try (with_reducible rfl))
      try simp only [Act.put, List.setIfInBounds_toArray, List.set_cons_zero, List.set_cons_succ]
      refine wpAnyT_takeB (i := 5) (oi := ⟨some 57, .call { callee := .builtin .len, args := #[.tmp 56], argTypes := #[22] }, _, _, _, _⟩) (v := ?vR10c4x5) rfl (by kernel_rfl) (by kernel_rfl) (by kernel_rfl) (by kernel_rfl) (fun _ _ _ h => h) (Or.inl ⟨by rfl, ?hyR10c4x5⟩) (by assumption) ?restR10c4x5
      case hyR10c4x5 => (intro w hSw; (try dsimp only at hSw); go_simp; try (with_reducible rfl))
      try simp only [Act.put, List.setIfInBounds_toArray, List.set_cons_zero, List.set_cons_succ]
      refine wpAnyT_takeB (i := 6) (oi := ⟨some 58, .move (.tmp 0), _, _, _, _⟩) (v := ?vR10c4x6) rfl (by kernel_rfl) (by kernel_rfl) (by kernel_rfl) (by kernel_rfl) (fun _ _ _ h => h) (Or.inl ⟨by rfl, ?hyR10c4x6⟩) (by assumption) ?restR10c4x6
      case hyR10c4x6 => (intro w hSw; (try dsimp only at hSw); go_simp; try (with_reducible rfl))
      try simp only [Act.put, List.setIfInBounds_toArray, List.set_cons_zero, List.set_cons_succ]
      refine wpAnyT_takeB (i := 7) (oi := ⟨some 59, .nilCheck (.tmp 58), _, _, _, _⟩) (v := ?vR10c4x7) rfl (by kernel_rfl) (by kernel_rfl) (by kernel_rfl) (by kernel_rfl) (fun _ _ _ h => h) (Or.inl ⟨by rfl, ?hyR10c4x7⟩) (by assumption) ?restR10c4x7
      case hyR10c4x7 => (intro w hSw; (try dsimp only at hSw); go_simp; try (with_reducible rfl))
      try simp only [Act.put, List.setIfInBounds_toArray, List.set_cons_zero, List.set_cons_succ]
      refine wpAnyT_takeB (i := 8) (oi := ⟨some 60, .fieldAddr 67 (.tmp 59) 0, _, _, _, _⟩) (v := ?vR10c4x8) rfl (by kernel_rfl) (by kernel_rfl) (by kernel_rfl) (by kernel_rfl) (fun _ _ _ h => h) (Or.inl ⟨by rfl, ?hyR10c4x8⟩) (by assumption) ?restR10c4x8
      case hyR10c4x8 => (intro w hSw; (try dsimp only at hSw); go_simp; try (with_reducible rfl))
      try simp only [Act.put, List.setIfInBounds_toArray, List.set_cons_zero, List.set_cons_succ]
      refine wpAnyT_take (i := 9) (oi := ⟨some 61, .load 3 (.tmp 60), _, _, _, _⟩) (v := ?vR10c4x9) rfl (by kernel_rfl) (by kernel_rfl) (by kernel_rfl) (by kernel_rfl) (by kernel_rfl) (fun _ _ _ h => h) (Or.inl ⟨by rfl, ?hyR10c4x9⟩) (by assumption) ?restR10c4x9
      case hyR10c4x9 => (intro w hSw; (try dsimp only at hSw); go_simp; try (with_reducible rfl))
      try simp only [Act.put, List.setIfInBounds_toArray, List.set_cons_zero, List.set_cons_succ]
      refine wpAnyT_takeB (i := 10) (oi := ⟨some 62, .indexAddr 64 (.tmp 55) (.tmp 57), _, _, _, _⟩) (v := ?vR10c4x10) rfl (by kernel_rfl) (by kernel_rfl) (by kernel_rfl) (by kernel_rfl) (fun _ _ _ h => h) (Or.inl ⟨by rfl, ?hyR10c4x10⟩) (by assumption) ?restR10c4x10
      case hyR10c4x10 => (intro w hSw; (try dsimp only at hSw); go_simp; try (with_reducible rfl))
      try simp only [Act.put, List.setIfInBounds_toArray, List.set_cons_zero, List.set_cons_succ]
      refine wpAnyT_takeB (i := 11) (oi := ⟨some 63, .indexAddr 81 (.tmp 62) ((.const (.int .i64 1))), _, _, _, _⟩) (v := ?vR10c4x11) rfl (by kernel_rfl) (by kernel_rfl) (by kernel_rfl) (by kernel_rfl) (fun _ _ _ h => h) (Or.inl ⟨by rfl, ?hyR10c4x11⟩) (by assumption) ?restR10c4x11
      case hyR10c4x11 => (intro w hSw; (try dsimp only at hSw); go_simp; try (with_reducible rfl))
      try simp only [Act.put, List.setIfInBounds_toArray, List.set_cons_zero, List.set_cons_succ]
      refine wpAnyT_late (i := 12) (o := ⟨none, .store 3 (.tmp 63) (.tmp 61), _, _, _, _⟩) (by kernel_rfl) rfl (by kernel_rfl) (fun K hK => ?_)
      go_simp
      refine hK.out _ _ ?shR10c4x12 ?restR10c4x12
      case shR10c4x12 => ((try dsimp only); all_goals trivial)
      clear hK K
      try simp only [Act.put, List.setIfInBounds_toArray, List.set_cons_zero, List.set_cons_succ]
      refine wpAnyT_done (by kernel_rfl) ?_ _
      go_wp2_with fail
      go_end0
      exact ⟨rfl, _, _, by rw [HE.out]; exact (hO.out.setM HOK.out (vs.length * 2 + 1) (.int .i64 cnt)).next (Below.refl _ _).drew, hS.out.1, hS.out.2, HMs.out.1, HMs.out.2, (Step.of_below HBW.out HB.out).trans (hT.out.trans ⟨((Below.refl _ _).setCell HOK.out.bm _).drew, (Off.set (S := s.own) _ (.inr (.inr (.inl rfl)))).trans (Off.of_below (Below.refl _ _).drew)⟩)⟩
end Go.Proofs.Ytkgeknlmkkoobaa
