/-
  DomApart's walk.
-/
import Derived.Test.YtchpapppkmnfnaaGreatDoorDaTri
import Derived.Test.YtchpapppkmnfnaaGreatDoorJ36
namespace Go.Proofs.YtchpapppkmnfnaaGreatDoor
open Go.RowKit

/-- A row of variables that is written over. -/
def Ro (C : Nat) (a : Option Addr) (n : Nat) (w : World) : Prop := ∀ j, j < n → ∃ g cur, a = some ⟨g, 0, none⟩ ∧ C ≤ g ∧ w.heap[g]? = some (.cells cur 34 (0, 0)) ∧ n * 3 ≤ cur.size
theorem ro_of {w : World} {C n cap : Nat} {a : Option Addr} {cs : List Value} (h : w.ownsRow C 34 3 (.slice a n cap) n cs) : Ro C a n w := fun j hj => by
  rcases h.2 with ⟨_, h2⟩ | ⟨g, cap', cur, hv, hg, hc, hn, _, hs, _⟩
  · omega
  · injection hv with h1 _ _
    exact ⟨g, cur, h1, hg, hc, by rw [hs]; exact Nat.mul_le_mul_right _ hn⟩
theorem ro_set {w : World} {C n g i : Nat} {u : Value} (h : Ro C (some ⟨g, 0, none⟩) n w) : Ro C (some ⟨g, 0, none⟩) n (w.setCell ⟨g, i, none⟩ u) := fun j hj => by
  obtain ⟨g', cur, e, h1, h2, h3⟩ := h j hj
  injection e with e
  injection e with e
  subst e
  exact ⟨g, cur.setIfInBounds i u, rfl, h1, heap_setCell_same w g i cur 34 u h2, by simpa using h3⟩

set_option maxRecDepth 10000 in
set_option maxHeartbeats 4000000 in
theorem domApart_walk (m : Md.Mo) (vv vc vg lv : Value) (L : List Cl) (w : World) (h : MoAt w m vv vc vg) (hL : OpsAt w lv L) (hf : ∀ c ∈ m.cons, c.terms.length * 16 ≤ 140737488355328 ∧ c.xs.length * 8 ≤ 140737488355328 ∧ c.table.length * 8 ≤ 140737488355328) (hT : Tz w) (hs : 0 < w.heap.size) : Calls Tryz.prog 3 #[moVal m vv vc vg, lv] w fun e w' => e = .returned (.bool true) ∧ Below w.heap.size w w' := by
  obtain ⟨la, lc, rfl, hlm, hlo⟩ := hL
  have HL : Hid (∀ w', Below w.heap.size w w' → ∀ j (hj : j < L.length), ∃ b off, la = some ⟨b, off, none⟩ ∧ w'.cell? ⟨b, off + j * 5, none⟩ = some (.int .i64 L[j].kind) ∧ w'.cell? ⟨b, off + j * 5 + 1, none⟩ = some (.int .i64 L[j].ck) ∧ w'.cell? ⟨b, off + j * 5 + 2, none⟩ = some (.int .i64 L[j].cx) ∧ w'.cell? ⟨b, off + j * 5 + 3, none⟩ = some (.int .i64 L[j].cv) ∧ w'.cell? ⟨b, off + j * 5 + 4, none⟩ = some (.int .i64 L[j].n)) := fun w' hb j hj => by
    obtain ⟨b, off, e, hbl, f0, f1, f2, f3, f4⟩ := hlo j hj
    exact ⟨b, off, e, (hb.cell (p := ⟨b, _, none⟩) hbl).trans f0, (hb.cell (p := ⟨b, _, none⟩) hbl).trans f1, (hb.cell (p := ⟨b, _, none⟩) hbl).trans f2, (hb.cell (p := ⟨b, _, none⟩) hbl).trans f3, (hb.cell (p := ⟨b, _, none⟩) hbl).trans f4⟩
  obtain ⟨W, hW⟩ : ∃ W, w.alloc (.cells #[vv, vc, .bool m.has, vg] 26) = W := ⟨_, rfl⟩
  have hb0 : Below w.heap.size w W := by rw [← hW]; exact (Below.refl _ _).alloc (Nat.le_refl _) _
  have g0 : W.heap[w.heap.size]? = some (.cells #[vv, vc, .bool m.has, vg] 26 (0, 0)) := by rw [← hW]; exact heap_alloc_new w _
  have hlt := (Array.getElem?_eq_some_iff.1 g0).1
  have hsW : 0 < W.heap.size := Nat.lt_of_lt_of_le hs hb0.size
  have HB : Hid (Below w.heap.size w W) := hb0
  have HM : Hid (∀ w', Below W.heap.size W w' → w'.cell? ⟨w.heap.size, 0, none⟩ = some vv ∧ w'.cell? ⟨w.heap.size, 1, none⟩ = some vc ∧ w'.cell? ⟨w.heap.size, 2, none⟩ = some (.bool m.has) ∧ w'.cell? ⟨w.heap.size, 3, none⟩ = some vg ∧ Below W.heap.size W w') := fun w' hb => by
    have g1 := (hb.block _ hlt).trans g0
    exact ⟨cell_of g1 0, cell_of g1 1, cell_of g1 2, cell_of g1 3, hb⟩
  have HMo : Hid (∀ w', Below W.heap.size W w' → MoAt w' m vv vc vg) := fun w' hb => (h.below hb0).below hb
  have HTz : Hid (∀ w', Below W.heap.size W w' → Tz w' ∧ 0 < w'.heap.size) := fun w' hb => ⟨(hT.below hb0 hs).below hb hsW, Nat.lt_of_lt_of_le hsW hb.size⟩
  have HK : Hid (Calls Tryz.prog 4 #[] W fun e w' => e = .returned (.bool true) ∧ Below W.heap.size W w') := known_any W (hT.below hb0 hs) hsW
  have HF : Hid (∀ c ∈ m.cons, c.terms.length * 16 ≤ 140737488355328 ∧ c.xs.length * 8 ≤ 140737488355328 ∧ c.table.length * 8 ≤ 140737488355328) := hf
  have HNw : Hid (∀ (w' : World) (a b c : Value), Below W.heap.size W w' → MoAt w' m a b c → Calls Tryz.prog 7 #[.agg #[a, b, .bool m.has, c]] w' (NewOut m w')) := fun w' a b c hb hM => new_any m a b c w' hM (Nat.lt_of_lt_of_le hsW hb.size)
  have HRn : Hid (∀ (w' : World), Below W.heap.size W w' → Calls Tryz.prog 8 #[.agg #[vv, vc, .bool m.has, vg]] w' (RnOut m w')) := fun w' hb => rNew_any m vv vc vg w' ((h.below hb0).below hb)
  clear hb0 g0 hlt h hT hf hlo
  unfold moVal
  go_enter Tryz.func3, Tryz.ntmps3
  go_wp2_with fail
  refine calls_at HK.out (by with_reducible rfl) (by with_reducible rfl) ?_
  rintro e w1 ⟨rfl, hb1⟩
  have HB1 : Hid (Below W.heap.size W w1) := hb1
  obtain ⟨c0, c1, c2, c3, _⟩ := HM.out w1 hb1
  have HS1 : Hid (Calls Tryz.prog 5 #[.agg #[vv, vc, .bool m.has, vg], .slice la L.length lc] w1 (SmOut m L.length w1)) := small_any m vv vc vg la L.length lc w1 (HMo.out w1 hb1)
  clear hb1 hW
  go_wp2_with fail
  refine calls_at HS1.out (by with_reducible rfl) (by with_reducible rfl) ?_
  rintro e w2 ⟨⟨sb1, rfl, hsb1⟩, hb2⟩
  have HB2 : Hid (Below W.heap.size W w2) := bl_next HB1.out hb2
  clear hb2 c0 c1 c2 c3
  cases sb1 with
  | false =>
    clear hsb1
    go_wp2_with fail
    go_ret
    exact ⟨rfl, HB.out.trans (HB2.out.mono HB.out.size)⟩
  | true =>
  have hsm := hsb1 rfl
  have HFm : Hid (MoFit m) := ⟨hsm.1, hsm.2.1, hsm.2.2.1, HF.out⟩
  have hvm : m.vars.length ≤ 300 := hsm.1
  clear hsb1 hsm
  by_cases hl : 80 < L.length
  · have hlI : 80 < (L.length : Int) := by omega
    go_wp2_with fail
    go_ret
    exact ⟨rfl, HB.out.trans (HB2.out.mono HB.out.size)⟩
  have hlI : (L.length : Int) ≤ 80 := by omega
  obtain ⟨c0, c1, c2, c3, _⟩ := HM.out w2 HB2.out
  have HCd : Hid (Calls Tryz.prog 6 #[.agg #[vv, vc, .bool m.has, vg]] w2 (CdOut m w2)) := copied_any m vv vc vg w2 (HMo.out w2 HB2.out) HFm.out
  go_wp2_with fail
  refine calls_at HCd.out (by with_reducible rfl) (by with_reducible rfl) ?_
  rintro e w3 ⟨vv2, vc2, vg2, rfl, hM3, hb3, cs, hr3⟩
  have HB3 : Hid (Below W.heap.size W w3) := bl_next HB2.out hb3
  obtain ⟨a1, p1, rfl⟩ := own_slice hr3
  have HMo3 : Hid (∀ w', Below w3.heap.size w3 w' → MoAt w' m (.slice a1 m.vars.length p1) vc2 vg2) := fun w' hb => hM3.below hb
  obtain ⟨a2, p2, rfl, _, _⟩ := id hM3.c
  obtain ⟨a3, p3, rfl, _⟩ := hM3.g.form
  have HRo3 : Hid (Ro w2.heap.size a1 m.vars.length w3 ∧ ∀ g, (Value.slice a1 m.vars.length p1).ownBlock = some g → g < w3.heap.size) := ⟨ro_of hr3, fun g hg => (hr3.lt g hg).2⟩
  clear hM3 hb3 hr3 c0 c1 c2 c3 HCd HS1 HK
  unfold moVal
  obtain ⟨X4, hX4⟩ : ∃ X, w3.alloc (.cells #[.slice a1 m.vars.length p1, .slice a2 m.cons.length p2, .bool m.has, .slice a3 m.goal.length p3] 26) = X := ⟨_, rfl⟩
  have hb4 : Below w3.heap.size w3 X4 := by rw [← hX4]; exact (Below.refl _ _).alloc (Nat.le_refl _) _
  have g4 : X4.heap[w3.heap.size]? = some (.cells #[.slice a1 m.vars.length p1, .slice a2 m.cons.length p2, .bool m.has, .slice a3 m.goal.length p3] 26 (0, 0)) := by rw [← hX4]; exact heap_alloc_new w3 _
  have hl4 := (Array.getElem?_eq_some_iff.1 g4).1
  have HB4 : Hid (Below W.heap.size W X4 ∧ Below w3.heap.size w3 X4) := ⟨bl_next HB3.out hb4, hb4⟩
  have HN4 : Hid (∀ w', Below X4.heap.size X4 w' → w'.cell? ⟨w3.heap.size, 0, none⟩ = some (.slice a1 m.vars.length p1) ∧ w'.cell? ⟨w3.heap.size, 1, none⟩ = some (.slice a2 m.cons.length p2) ∧ w'.cell? ⟨w3.heap.size, 2, none⟩ = some (.bool m.has) ∧ w'.cell? ⟨w3.heap.size, 3, none⟩ = some (.slice a3 m.goal.length p3) ∧ Below X4.heap.size X4 w') := fun w' hb => by
    have g1 := (hb.block _ hl4).trans g4
    exact ⟨cell_of g1 0, cell_of g1 1, cell_of g1 2, cell_of g1 3, hb⟩
  clear hb4 g4 hl4
  go_wp2_with fail
  go_cut [6, 7] from 30 to 182 (fun s6 s7 wx => ∃ p q nv mv nw mw e1, s6 = .pointer (some ⟨p, 0, none⟩) ∧ s7 = .pointer (some ⟨q, 0, none⟩) ∧ Hid (StAt X4.heap.size wx p nv mv (newS m) ∧ (∀ k, Own p nv mv k → k < e1) ∧ StAt e1 wx q nw mw (newS m)) ∧ Hid (Below X4.heap.size X4 wx))
  case first =>
    have HNX : Hid (∀ w', Below X4.heap.size X4 w' → Calls Tryz.prog 7 #[.agg #[.slice a1 m.vars.length p1, .slice a2 m.cons.length p2, .bool m.has, .slice a3 m.goal.length p3]] w' (NewOut m w')) := fun w' hb => HNw.out w' _ _ _ (bl_next HB4.out.1 hb) (HMo3.out w' (bl_next HB4.out.2 hb))
    go_region_held3 (fun w' => w'.cell? ⟨w3.heap.size, 0, none⟩ = some (.slice a1 m.vars.length p1) ∧ w'.cell? ⟨w3.heap.size, 1, none⟩ = some (.slice a2 m.cons.length p2) ∧ w'.cell? ⟨w3.heap.size, 2, none⟩ = some (.bool m.has) ∧ w'.cell? ⟨w3.heap.size, 3, none⟩ = some (.slice a3 m.goal.length p3) ∧ Below X4.heap.size X4 w')
      (first | exact HN4.out _ (Below.refl _ _).drew | exact HN4.out _ HB6.out | exact HN4.out _ HB5.out | assumption)
      (first
        | (go_at_call 7; refine calls_at (HNX.out w5 HB5.out) (by with_reducible rfl) (by with_reducible rfl) ?_; rintro e w6 ⟨q, nw, mw, rfl, hA6, hb6⟩; (have HB6 : Hid (Below X4.heap.size X4 w6) := bl_next HB5.out hb6); (have HA6 : Hid (StAt w5.heap.size w6 q nw mw (newS m) ∧ Below w5.heap.size w5 w6) := ⟨hA6, hb6⟩); clear hA6 hb6)
        | (go_at_call 7; refine calls_at (HNX.out X4.drew (Below.refl _ _).drew) (by with_reducible rfl) (by with_reducible rfl) ?_; rintro e w5 ⟨p, nv, mv, rfl, hA5, hb5⟩; (have HB5 : Hid (Below X4.heap.size X4 w5) := bl_next (Below.refl _ _).drew hb5); (have HA5 : Hid (StAt X4.heap.size w5 p nv mv (newS m)) := hA5); clear hA5 hb5))
    go_wp2_with fail
    go_meet
    exact ⟨p, q, nv, mv, nw, mw, w5.heap.size, rfl, rfl, ⟨HA5.out.below HA6.out.2, fun k hk => own_lt HA5.out hk, HA6.out.1⟩, HB6⟩
  case rest =>
  obtain ⟨p, q, nv, mv, nw, mw, e1, rfl, rfl, HA, HBx⟩ := hcut
  rename World => wx
  have HNx : Hid (∀ wr, Off (fun b => (Value.slice a1 m.vars.length p1).ownBlock = some b) wx wr → wr.cell? ⟨w3.heap.size, 0, none⟩ = some (.slice a1 m.vars.length p1) ∧ StAt X4.heap.size wr p nv mv (newS m) ∧ StAt e1 wr q nw mw (newS m)) := fun wr ho => by
    have h34 := HB4.out.2.size
    have hlo : ∀ k, X4.heap.size ≤ k → ¬ (Value.slice a1 m.vars.length p1).ownBlock = some k := fun k hk e => by
      have := HRo3.out.2 k e
      omega
    have hl4 : w3.heap.size < X4.heap.size := by rw [← hX4]; simp
    obtain ⟨y0, _, _, _, _⟩ := HN4.out wx HBx.out
    refine ⟨?_, HA.out.1.keep fun k hk ho' => ho.block k hk (hlo k (own_lo HA.out.1 ho')), HA.out.2.2.keep fun k hk ho' => ho.block k hk (hlo k ?_)⟩
    · have hlx : w3.heap.size < wx.heap.size := Nat.lt_of_lt_of_le hl4 HBx.out.size
      have e := ho.block w3.heap.size hlx (fun e => by have := HRo3.out.2 _ e; omega)
      unfold World.cell? at y0 ⊢
      rw [e]
      exact y0
    · have h1 := own_lo HA.out.2.2 ho'
      have h2 := HA.out.2.1 p (.inl rfl)
      have h3 := own_lo HA.out.1 (k := p) (.inl rfl)
      omega
  have HRx : Hid (Ro w2.heap.size a1 m.vars.length wx) := fun j hj => by
    obtain ⟨g, cur, e, h1, h2, h3⟩ := HRo3.out.1 j hj
    exact ⟨g, cur, e, h1, ((bl_next HB4.out.2 HBx.out).block g (Array.getElem?_eq_some_iff.1 h2).1).trans h2, h3⟩
  have HWx : Hid (Below W.heap.size W wx) := bl_next HB4.out.1 HBx.out
  have HZ2 : Hid (W.heap.size ≤ w2.heap.size) := HB2.out.size
  clear hX4
  go_wp2_with fail
  go_loopw [8] (fun iv wr => ∃ k : Nat, iv = .int .i64 (k : Int) ∧ k ≤ m.vars.length ∧ Hid (Ro w2.heap.size a1 m.vars.length wr) ∧ Hid (Off (fun b => (Value.slice a1 m.vars.length p1).ownBlock = some b) wx wr) ∧ Hid (Below W.heap.size W wr)) (fun iv _ => m.vars.length - (intOf iv).toNat)
  case atStart => exact ⟨0, rfl, Nat.zero_le _, HRx, Off.refl _ _, HWx⟩
  case round =>
  obtain ⟨k, rfl, hk, HRr, HOr, HBr⟩ := hrel
  obtain ⟨y0, hA1, hA2⟩ := HNx.out wr HOr.out
  by_cases hkn : k < m.vars.length
  · have hkI : (k : Int) < (m.vars.length : Int) := by omega
    obtain ⟨g, cur, rfl, hg1, hg2, hg3⟩ := HRr.out k hkn
    have x0 : wr.cell? ⟨g, k * 3, none⟩ = some (cur[k * 3]'(by omega)) := by simp [World.cell?, hg2]
    have x1 : wr.cell? ⟨g, k * 3 + 1, none⟩ = some (cur[k * 3 + 1]'(by omega)) := by simp [World.cell?, hg2]
    have x2 : wr.cell? ⟨g, k * 3 + 2, none⟩ = some (cur[k * 3 + 2]'(by omega)) := by simp [World.cell?, hg2]
    obtain ⟨v0, hv0⟩ : ∃ v, (cur[k * 3]'(by omega)) = v := ⟨_, rfl⟩
    obtain ⟨v1, hv1⟩ : ∃ v, (cur[k * 3 + 1]'(by omega)) = v := ⟨_, rfl⟩
    obtain ⟨v2, hv2⟩ : ∃ v, (cur[k * 3 + 2]'(by omega)) = v := ⟨_, rfl⟩
    rw [hv0] at x0
    rw [hv1] at x1
    rw [hv2] at x2
    have xz : ∀ i, wr.frozen? ⟨g, i, none⟩ = false := frozen_of hg2
    have HG1 : Hid (w2.heap.size ≤ g) := hg1
    clear hg1 hg2 hg3 hv0 hv1 hv2 hA1 hA2
    go_wp2_with fail
    have hWg : W.heap.size ≤ g := Nat.le_trans HZ2.out HG1.out
    go_roundw
    case rel => exact ⟨k + 1, by go_num, hkn, ro_set (ro_set (ro_set HRr.out)), ((HOr.out.trans (Off.set _ rfl)).trans (Off.set _ rfl)).trans (Off.set _ rfl), ((HBr.out.setCell hWg _).setCell hWg _).setCell hWg _⟩
    case measure => simp [intOf]; omega
  · have hke : k = m.vars.length := by omega
    subst hke
    have hkI : ¬ (m.vars.length : Int) < (m.vars.length : Int) := by omega
    have HA1 : Hid (StAt X4.heap.size wr p nv mv (newS m)) := hA1
    have HA2 : Hid (StAt e1 wr q nw mw (newS m)) := hA2
    clear hA1 hA2
    go_wp2_with fail
    have HZx : Hid (W.heap.size ≤ X4.heap.size ∧ e1 ≤ wr.heap.size ∧ X4.heap.size ≤ e1) := by
      refine ⟨HB4.out.1.size, ?_, ?_⟩
      · exact Nat.le_of_lt (Nat.lt_of_le_of_lt (own_lo HA2.out (k := q) (.inl rfl)) (own_lt HA2.out (.inl rfl)))
      · have h2 := HA.out.2.1 p (.inl rfl)
        have h3 := own_lo HA.out.1 (k := p) (.inl rfl)
        omega
    have HOwn : Hid (∀ k, Own p nv mv k → k < e1) := HA.out.2.1
    clear y0 HNx HRx HWx HRr HOr HRo3 HN4 HMo3 HBx HA hkI hk
    go_cut [9, 10] from 52 to 182 (fun s9 s10 wy => ∃ P Q, s9 = .pointer (some ⟨P, 0, none⟩) ∧ s10 = .pointer (some ⟨Q, 0, none⟩) ∧ Hid (∃ O O', PaAt W.heap.size P O wy (newS m) ∧ PaAt W.heap.size Q O' wy (newS m) ∧ ∀ k, O k → ¬ O' k) ∧ Hid (Below W.heap.size W wy))
    case first =>
      go_region_held3 (fun w' => w'.cell? ⟨w.heap.size, 0, none⟩ = some vv ∧ w'.cell? ⟨w.heap.size, 1, none⟩ = some vc ∧ w'.cell? ⟨w.heap.size, 2, none⟩ = some (.bool m.has) ∧ w'.cell? ⟨w.heap.size, 3, none⟩ = some vg ∧ Below W.heap.size W w')
        (first | exact HM.out _ HBr.out.drew | exact HM.out _ HB8.out | exact HM.out _ HB7.out | exact HM.out _ (HB8.out.alloc HB8.out.size _) | exact HM.out _ ((HB8.out.alloc HB8.out.size _).alloc (Nat.le_trans HB8.out.size (by simp)) _) | exact HM.out _ (HB7.out.alloc HB7.out.size _) | assumption)
        (first
          | (go_at_call 8; (have hx7 := HR7); refine calls_at (HRn.out _ (And.right (And.right (And.right (And.right (by assumption)))))) (by with_reducible rfl) (by with_reducible rfl) ?_; rintro e w8 ⟨r2, S2, rfl, hR8, hb8⟩; (have HB8 : Hid (Below W.heap.size W w8) := bl_next (And.right (And.right (And.right (And.right (by assumption))))) hb8); (have HR8 : Hid (RsAt _ S2 w8 r2 (newLL m) [] ∧ Below _ _ w8) := ⟨hR8, hb8⟩); clear hR8 hb8 hx7)
          | (go_at_call 8; refine calls_at (HRn.out wr.drew HBr.out.drew) (by with_reducible rfl) (by with_reducible rfl) ?_; rintro e w7 ⟨r1, S1, rfl, hR7, hb7⟩; (have HB7 : Hid (Below W.heap.size W w7) := bl_next HBr.out.drew hb7); (have HR7 : Hid (RsAt wr.heap.size S1 w7 r1 (newLL m) [] ∧ Below wr.heap.size wr w7) := ⟨hR7, (Below.refl _ _).drew.trans hb7⟩); clear hR7 hb7))
      all_goals go_wp2_with fail
      all_goals go_meet
      all_goals first
        | exact ⟨_, _, rfl, rfl, ord_a HA1.out HA2.out HOwn.out HR7.out.1 HR7.out.2 HR8.out.1 HR8.out.2 ⟨HZx.out.1, HZx.out.2.1, Nat.le_trans HZx.out.1 HZx.out.2.2⟩, HB8.out.alloc HB8.out.size _⟩
        | exact ⟨_, _, rfl, rfl, ord_b HA1.out HA2.out HOwn.out HR7.out.1 HR7.out.2 HR8.out.1 HR8.out.2 ⟨HZx.out.1, HZx.out.2.1, Nat.le_trans HZx.out.1 HZx.out.2.2⟩, (HB8.out.alloc HB8.out.size _).alloc (Nat.le_trans HB8.out.size (by simp)) _⟩
        | exact ⟨_, _, rfl, rfl, ord_c HA1.out HA2.out HOwn.out HR7.out.1 HR7.out.2 HR8.out.1 HR8.out.2 ⟨HZx.out.1, HZx.out.2.1, Nat.le_trans HZx.out.1 HZx.out.2.2⟩, (HB8.out.alloc HB8.out.size _).alloc (Nat.le_trans HB8.out.size (by simp)) _⟩
    case rest =>
    obtain ⟨P, Q, rfl, rfl, HPQ, HBy⟩ := hcut
    rename World => wy
    obtain ⟨O0, O0', hP0, hQ0, hD0⟩ := HPQ.out
    obtain ⟨Y, hY⟩ : ∃ Y, wy.alloc (.cells (bookCs false 0 0 tx0) 58) = Y := ⟨_, rfl⟩
    have HT0 : Hid (∃ T s t n, Tri W.heap.size T Y P Q wy.heap.size s t n ∧ n ≤ 0 ∧ s.marks ≤ 0 ∧ t.marks ≤ 0) := ⟨_, _, _, _, tri_new hP0 hQ0 hD0 HBy.out.size hY, Nat.le_refl _, by unfold newS; split <;> exact Nat.le_refl _, by unfold newS; split <;> exact Nat.le_refl _⟩
    have HBY : Hid (Below W.heap.size W Y) := by show Below _ _ _; rw [← hY]; exact HBy.out.alloc HBy.out.size _
    clear hP0 hQ0 hD0 HPQ HA1 HA2 HOwn
    obtain ⟨K, hK⟩ : ∃ K, wy.heap.size = K := ⟨_, rfl⟩
    go_wp2_with (first | (refine wpList_build_to rfl 58 #[] rfl (bookCs false 0 0 tx0) (by kernel_rfl) ?_))
    try rw [hY]
    rw [hK] at HT0
    try rw [hK]
    clear hY hK
    go_loopw [12] (fun iv wr => ∃ k : Nat, iv = .int .i64 (k : Int) ∧ k ≤ L.length ∧ Hid (∃ T s t n, Tri W.heap.size T wr P Q K s t n ∧ n ≤ 13 * k ∧ s.marks ≤ k ∧ t.marks ≤ k) ∧ Hid (Below W.heap.size W wr)) (fun iv _ => L.length - (intOf iv).toNat)
    case atStart => exact ⟨0, rfl, Nat.zero_le _, HT0, HBY⟩
    case round =>
    clear HBr
    obtain ⟨k, rfl, hk, HTr, HBr⟩ := hrel
    rename World => wr
    obtain ⟨T, s, t, n, hTr, hn, hms, hmt⟩ := HTr.out
    clear HTr
    by_cases hkn : k < L.length
    · have hkI : (k : Int) < (L.length : Int) := by omega
      obtain ⟨b, off, rfl, f0, f1, f2, f3, f4⟩ := HL.out wr (HB.out.trans (HBr.out.mono HB.out.size)) k hkn
      obtain ⟨o, ho⟩ : ∃ o, L[k] = o := ⟨_, rfl⟩
      rw [ho] at f0 f1 f2 f3 f4
      have HPl : Hid (Calls Tryz.prog 9 #[.pointer (some ⟨P, 0, none⟩), .agg #[.int .i64 o.kind, .int .i64 o.ck, .int .i64 o.cx, .int .i64 o.cv, .int .i64 o.n]] wr fun e w' => e = .returned (.bool true) ∧ TrOut W.heap.size wr P Q K n (fun s' t' => s'.marks ≤ s.marks + 1 ∧ t' = t) w') := hTr.playsP o (HTz.out wr HBr.out).1 (HTz.out wr HBr.out).2 hsW (by omega)
      have HLk : Hid (∀ w', Below W.heap.size W w' → w'.cell? ⟨b, off + k * 5, none⟩ = some (.int .i64 o.kind) ∧ w'.cell? ⟨b, off + k * 5 + 1, none⟩ = some (.int .i64 o.ck) ∧ w'.cell? ⟨b, off + k * 5 + 2, none⟩ = some (.int .i64 o.cx) ∧ w'.cell? ⟨b, off + k * 5 + 3, none⟩ = some (.int .i64 o.cv) ∧ w'.cell? ⟨b, off + k * 5 + 4, none⟩ = some (.int .i64 o.n)) := fun w' hb => by
        obtain ⟨b', off', e, z⟩ := HL.out w' (HB.out.trans (hb.mono HB.out.size)) k hkn
        injection e with e
        injection e with e1 e2
        subst e1 e2
        rw [ho] at z
        exact z
      clear ho hTr
      go_upto_region 18 with fail
      go_cut [90] from 64 to 172 (fun s90 wz => s90 = .bool false ∧ Hid (∃ T s t n, Tri W.heap.size T wz P Q K s t n ∧ n ≤ 13 * k ∧ s.marks ≤ k + 1 ∧ t.marks ≤ k + 1) ∧ Hid (Below W.heap.size W wz))
      case first =>
        have hm3 : (k : Int).tmod 3 = ((k % 3 : Nat) : Int) := rfl
        go_wp2_with fail
        refine calls_at HPl.out (by with_reducible rfl) (by with_reducible rfl) ?_
        rintro e w5 ⟨rfl, T5, s5, t5, hT5, ⟨hm5, rfl⟩, hb5⟩
        have HB5 : Hid (Below W.heap.size W w5) := HBr.out.trans hb5
        have HT5 : Hid (Tri W.heap.size T5 w5 P Q K s5 t5 n) := hT5
        clear hb5 hT5 f0 f1 f2 f3 f4
        by_cases hk3 : k % 3 = 0
        · rw [hk3] at hm3
          have hm3' : (k : Int).tmod 3 = 0 := hm3
          obtain ⟨f0, f1, f2, f3, f4⟩ := HLk.out w5 HB5.out
          have HP6 : Hid (Calls Tryz.prog 9 #[.pointer (some ⟨Q, 0, none⟩), .agg #[.int .i64 o.kind, .int .i64 o.ck, .int .i64 o.cx, .int .i64 o.cv, .int .i64 o.n]] w5 fun e w' => e = .returned (.bool true) ∧ TrOut W.heap.size w5 P Q K n (fun s' t' => t'.marks ≤ t5.marks + 1 ∧ s' = s5) w') := HT5.out.playsQ o (HTz.out w5 HB5.out).1 (HTz.out w5 HB5.out).2 hsW (by omega)
          go_wp2_with fail
          refine calls_at HP6.out (by with_reducible rfl) (by with_reducible rfl) ?_
          rintro e w6 ⟨rfl, T6, s6, t6, hT6, ⟨hm6, rfl⟩, hb6⟩
          have HB6 : Hid (Below W.heap.size W w6) := HB5.out.trans hb6
          have HT6 : Hid (Tri W.heap.size T6 w6 P Q K s6 t6 n) := hT6
          clear hb6 hT6 f0 f1 f2 f3 f4
          go_wp2_with fail
          go_meet
          exact ⟨rfl, ⟨T6, s6, t6, n, HT6.out, hn, by omega, by omega⟩, HB6⟩
        · have hm3' : ((k : Int).tmod 3 == 0) = false := by rw [hm3]; simp; omega
          go_wp2_with fail
          go_meet
          exact ⟨rfl, ⟨T5, s5, t5, n, HT5.out, hn, by omega, by omega⟩, HB5⟩
      case rest =>
      obtain ⟨rfl, HTz1, HBz⟩ := hcut
      rename World => wz
      obtain ⟨T0, s0, t0, n0, hT0, hn0, hms0, hmt0⟩ := HTz1.out
      have HT00 : Hid (∃ T n, Tri W.heap.size T wz P Q K s0 t0 n ∧ n ≤ 13 * k + 2 * 0) := ⟨T0, n0, hT0, by omega⟩
      clear hT0 hn0 HTz1 HPl HBr hms hmt hn
      go_wp2_with fail
      go_loopw [13] (fun iv wq => ∃ x : Nat, iv = .int .i64 (x : Int) ∧ x ≤ 6 ∧ Hid (∃ T n, Tri W.heap.size T wq P Q K s0 t0 n ∧ n ≤ 13 * k + 2 * x) ∧ Hid (Below W.heap.size W wq)) (fun iv _ => 6 - (intOf iv).toNat)
      case atStart => exact ⟨0, rfl, Nat.zero_le _, HT00, HBz⟩
      case round =>
      clear HT00 HBz f0 f1 f2 f3 f4
      obtain ⟨x, rfl, hx6, HTq, HBq⟩ := hrel
      rename World => wq
      obtain ⟨Tq, nq, hTq, hnq⟩ := HTq.out
      obtain ⟨p', r', hVi⟩ := hTq.vi
      have HVi : Hid (Vi wq P p' r' s0) := hVi
      have HT : Hid (Tri W.heap.size Tq wq P Q K s0 t0 nq) := hTq
      obtain ⟨y0, y1⟩ := hVi.c wq (Below.refl _ _)
      clear hTq hVi HTq
      obtain ⟨bx, hbx⟩ : ∃ b, decide (x < s0.now.length ∧ x < 6) = b := ⟨_, rfl⟩
      have Hbx : Hid (decide (x < s0.now.length ∧ x < 6) = bx) := hbx
      clear hbx
      go_upto_region 21 with fail
      go_cut [101] from 91 to 150 (fun s101 wu => s101 = .bool bx ∧ wq = wu)
      case first =>
        have HVn : Hid (Calls Tryz.prog 10 #[.pointer (some ⟨r', 0, none⟩)] wq fun e w2 => e = .returned (.int .i64 (s0.now.length : Int)) ∧ w2 = wq) := HVi.out.n wq (Below.refl _ _)
        go_wp2_with fail
        refine calls_at HVn.out (by with_reducible rfl) (by with_reducible rfl) ?_
        rintro e w' ⟨rfl, hww⟩
        rw [hww]
        clear hww
        by_cases hxn : x < s0.now.length
        · have hxI : (x : Int) < (s0.now.length : Int) := by omega
          by_cases hx5 : x < 6
          · have hx5I : (x : Int) < 6 := by omega
            go_wp2_with fail
            go_meet
            exact ⟨congrArg Value.bool ((decide_eq_true (p := x < s0.now.length ∧ x < 6) ⟨hxn, hx5⟩).symm.trans Hbx.out), rfl⟩
          · have hx5I : ¬ (x : Int) < 6 := by omega
            go_wp2_with fail
            go_meet
            have hbf : bx = false := Hbx.out.symm.trans (decide_eq_false fun e => hx5 e.2)
            exact ⟨by rw [hbf]; simp; omega, rfl⟩
        · have hxI : ¬ (x : Int) < (s0.now.length : Int) := by omega
          go_wp2_with fail
          go_meet
          exact ⟨congrArg Value.bool ((decide_eq_false (p := x < s0.now.length ∧ x < 6) fun e => hxn e.1).symm.trans Hbx.out), rfl⟩
      case rest =>
      obtain ⟨rfl, rfl⟩ := hcut
      have HWq : Hid (W.heap.size ≤ wq.heap.size) := HBq.out.size
      cases bx with
      | true =>
        have hcx : x < s0.now.length ∧ x < 6 := of_decide_eq_true Hbx.out
        obtain ⟨c, hc⟩ : ∃ c, s0.now[x].all = c := ⟨_, rfl⟩
        have hcl : c.length ≤ 64 := by rw [← hc]; exact HVi.out.b.1 x hcx.1
        have HV1 : Hid (∀ w', Below wq.heap.size wq w' → Calls Tryz.prog 11 #[.pointer (some ⟨p', 0, none⟩), .int .i64 (x : Int)] w' (VsOut c w')) := fun w' hb => by
          have := HVi.out.v1 w' hb x hcx.1 (HTz.out w' (bl_next HBq.out hb)).1
          rw [hc] at this
          exact this
        have HV2 : Hid (∀ w', Below wq.heap.size wq w' → Calls Tryz.prog 13 #[.pointer (some ⟨r', 0, none⟩), .int .i64 (x : Int)] w' (VsOut c w')) := fun w' hb => by
          have := HVi.out.v2 w' hb x hcx.1
          rw [hc] at this
          exact this
        have HV3 : Hid (∀ (w1 : World) (r1 p1 : Nat), Vi w1 P p1 r1 s0 → Calls Tryz.prog 13 #[.pointer (some ⟨r1, 0, none⟩), .int .i64 (x : Int)] w1 (VsOut c w1)) := fun w1 r1 p1 hv => by
          have := hv.v2 w1 (Below.refl _ _) x hcx.1
          rw [hc] at this
          exact this
        have HCq : Hid (∀ w', Below wq.heap.size wq w' → w'.cell? ⟨P, 0, none⟩ = some (.pointer (some ⟨p', 0, none⟩)) ∧ w'.cell? ⟨P, 1, none⟩ = some (.pointer (some ⟨r', 0, none⟩)) ∧ Below wq.heap.size wq w') := fun w' hb => ⟨(HVi.out.c w' hb).1, (HVi.out.c w' hb).2, hb⟩
        have hx5 : x < 6 := hcx.2
        have e1 : IntKind.i64.wrap (40 * (k : Int)) = 40 * (k : Int) := wrap_id (by omega) (by omega)
        have e2 : IntKind.i64.wrap (5 * (x : Int)) = 5 * (x : Int) := wrap_id (by omega) (by omega)
        have e3 : IntKind.i64.wrap (40 * (k : Int) + 5 * (x : Int)) = 40 * (k : Int) + 5 * (x : Int) := wrap_id (by omega) (by omega)
        have e4 : IntKind.i64.wrap (40 * (k : Int) + 5 * (x : Int) + 2) = 40 * (k : Int) + 5 * (x : Int) + 2 := wrap_id (by omega) (by omega)
        clear hc hcx y0 y1 HVi
        go_wp2_with fail
        go_region_held3 (fun w' => w'.cell? ⟨P, 0, none⟩ = some (.pointer (some ⟨p', 0, none⟩)) ∧ w'.cell? ⟨P, 1, none⟩ = some (.pointer (some ⟨r', 0, none⟩)) ∧ Below wq.heap.size wq w')
          (first | exact HCq.out _ (Below.refl _ _).drew | exact HCq.out _ HBb.out | exact HCq.out _ HBa.out | assumption)
          (first
            | (go_at_call 11; (have hxa := HRa); refine calls_at (HV1.out wa HBa.out) (by with_reducible rfl) (by with_reducible rfl) ?_; rintro e wb ⟨vb, rfl, hob, hbb⟩; (have HBb : Hid (Below wq.heap.size wq wb) := bl_next HBa.out hbb); (have HRb : Hid (wb.ownsRow wa.heap.size 3 1 vb c.length (ic c) ∧ Below wa.heap.size wa wb) := ⟨hob, hbb⟩); clear hob hbb hxa)
            | (go_at_call 11; refine calls_at (HV1.out wq.drew (Below.refl _ _).drew) (by with_reducible rfl) (by with_reducible rfl) ?_; rintro e wa ⟨va, rfl, hoa, hba⟩; (have HBa : Hid (Below wq.heap.size wq wa) := (Below.refl _ _).drew.trans hba); (have HRa : Hid (wa.ownsRow wq.heap.size 3 1 va c.length (ic c)) := hoa); clear hoa hba))
        obtain ⟨_, z1, _⟩ := HCq.out wb HBb.out
        go_wp2_with fail
        refine calls_at (HV2.out wb HBb.out) (by with_reducible rfl) (by with_reducible rfl) ?_
        rintro e wc ⟨vc', rfl, hoc, hbc⟩
        have HI1 : Hid (Calls Tryz.prog 12 #[va, vc'] wc fun e w' => e = .returned (.bool true) ∧ Below wc.heap.size wc w') := ints_same _ _ va vc' c wc (own_below (own_below HRa.out HRb.out.2) hbc) hoc (by omega)
        have HBc : Hid (Below wq.heap.size wq wc ∧ Below wb.heap.size wb wc) := ⟨bl_next HBb.out hbc, hbc⟩
        clear hoc hbc z1
        go_wp2_with fail
        refine calls_at HI1.out (by with_reducible rfl) (by with_reducible rfl) ?_
        rintro e wd ⟨rfl, hbd⟩
        have HBd : Hid (Below wq.heap.size wq wd ∧ Below wb.heap.size wb wd) := ⟨bl_next HBc.out.1 hbd, bl_next HBc.out.2 hbd⟩
        have HId : Hid (Calls Tryz.prog 14 #[.pointer (some ⟨K, 0, none⟩), va, .int .i64 (40 * (k : Int) + 5 * (x : Int))] wd fun e w' => e = .returned (.tuple #[]) ∧ ∃ T', Tri W.heap.size T' w' P Q K s0 t0 (nq + 1) ∧ SStp W.heap.size (fun j => Tq j ∨ va.ownBlock = some j) wd w' ∧ Grown (fun j => Tq j ∨ va.ownBlock = some j) wd w' T') :=
          (HT.out.below HBd.out.1).ints (its_less (own_below (own_below HRa.out HRb.out.2) HBd.out.2) (Nat.zero_le _)) (fun g hg => ⟨fun e => by have := HT.out.lt g e; have := (HRa.out.lt g hg).1; omega, Nat.le_trans HWq.out (HRa.out.lt g hg).1⟩) (by omega) ⟨by omega, by omega⟩ (by omega)
        clear hbd HI1 HBc
        go_wp2_with fail
        refine calls_at HId.out (by with_reducible rfl) (by with_reducible rfl) ?_
        rintro e we ⟨rfl, Te, hTe, hse, hge⟩
        obtain ⟨p2', r2', hVe⟩ := hTe.vi
        have hgb : ∀ g, vb.ownBlock = some g → wa.heap.size ≤ g ∧ g < wb.heap.size ∧ ¬ (Tq g ∨ va.ownBlock = some g) := fun g hg => by
          have h1 := HRb.out.1.lt g hg
          refine ⟨h1.1, h1.2, fun e => ?_⟩
          rcases e with e | e
          · have h2 := HT.out.lt g e
            have h3 := HBa.out.size
            omega
          · have h2 := (HRa.out.lt g e).2
            omega
        have HRe : Hid (we.ownsRow wa.heap.size 3 1 vb c.length (ic c)) := own_keep (own_below HRb.out.1 HBd.out.2) fun g hg => hse.off.block g (Nat.lt_of_lt_of_le (hgb g hg).2.1 HBd.out.2.size) (hgb g hg).2.2
        have HTe : Hid (Tri W.heap.size Te we P Q K s0 t0 (nq + 1)) := hTe
        have HGe : Hid (∀ g, vb.ownBlock = some g → ¬ Te g ∧ W.heap.size ≤ g) := fun g hg => ⟨fun e => by
          have h1 := hgb g hg
          have h2 := HBd.out.2.size
          rcases hge g e with a | a
          · exact h1.2.2 a
          · omega, by
          have h1 := hgb g hg
          have h2 := HWq.out
          have h3 := HBa.out.size
          omega⟩
        have HVe : Hid (Calls Tryz.prog 13 #[.pointer (some ⟨r2', 0, none⟩), .int .i64 (x : Int)] we (VsOut c we)) := HV3.out we r2' p2' hVe
        have HBe : Hid (Below W.heap.size W we) := (bl_next HBq.out HBd.out.1).trans hse.below
        obtain ⟨_, z1⟩ := hVe.c we (Below.refl _ _)
        clear hTe hse hge hVe hgb HId
        go_wp2_with fail
        refine calls_at HVe.out (by with_reducible rfl) (by with_reducible rfl) ?_
        rintro e wf ⟨vf, rfl, hof, hbf⟩
        have HI2 : Hid (Calls Tryz.prog 12 #[vb, vf] wf fun e w' => e = .returned (.bool true) ∧ Below wf.heap.size wf w') := ints_same _ _ vb vf c wf (own_below HRe.out hbf) hof (by omega)
        have HBf : Hid (Below we.heap.size we wf) := hbf
        clear hof hbf z1
        go_wp2_with fail
        refine calls_at HI2.out (by with_reducible rfl) (by with_reducible rfl) ?_
        rintro e wg ⟨rfl, hbg⟩
        have HBg : Hid (Below we.heap.size we wg) := bl_next HBf.out hbg
        have HIg : Hid (Calls Tryz.prog 14 #[.pointer (some ⟨K, 0, none⟩), vb, .int .i64 (40 * (k : Int) + 5 * (x : Int) + 2)] wg fun e w' => e = .returned (.tuple #[]) ∧ ∃ T', Tri W.heap.size T' w' P Q K s0 t0 (nq + 1 + 1) ∧ SStp W.heap.size (fun j => Te j ∨ vb.ownBlock = some j) wg w' ∧ Grown (fun j => Te j ∨ vb.ownBlock = some j) wg w' T') :=
          (HTe.out.below HBg.out).ints (its_less (own_below HRe.out HBg.out) (Nat.zero_le _)) HGe.out (by omega) ⟨by omega, by omega⟩ (by omega)
        clear hbg HI2 HBf
        go_wp2_with fail
        refine calls_at HIg.out (by with_reducible rfl) (by with_reducible rfl) ?_
        rintro e wh ⟨rfl, Th, hTh, hsh, _⟩
        have HTh : Hid (∃ T n, Tri W.heap.size T wh P Q K s0 t0 n ∧ n ≤ 13 * k + 2 * (x + 1)) := ⟨Th, _, hTh, by omega⟩
        have HBh : Hid (Below W.heap.size W wh) := (bl_next HBe.out HBg.out).trans hsh.below
        clear hTh hsh HIg
        go_wp2_with fail
        go_roundw
        case rel => exact ⟨x + 1, by go_num, hx5, HTh, HBh⟩
        case measure => simp [intOf]; omega
      | false =>
        obtain ⟨c, hc⟩ : ∃ c, openL s0.now s0.now.length = c := ⟨_, rfl⟩
        have hcl : c.length ≤ 64 := by rw [← hc]; exact HVi.out.b.2.1
        have HV1 : Hid (Calls Tryz.prog 15 #[.pointer (some ⟨p', 0, none⟩)] wq (VsOut c wq)) := by
          have := HVi.out.o1 wq (Below.refl _ _)
          rw [hc] at this
          exact this
        have HV2 : Hid (∀ w', Below wq.heap.size wq w' → Calls Tryz.prog 16 #[.pointer (some ⟨r', 0, none⟩)] w' (VsOut c w')) := fun w' hb => by
          have := HVi.out.o2 w' hb
          rw [hc] at this
          exact this
        have e1 : IntKind.i64.wrap (40 * (k : Int)) = 40 * (k : Int) := wrap_id (by omega) (by omega)
        have e2 : IntKind.i64.wrap (40 * (k : Int) + 37) = 40 * (k : Int) + 37 := wrap_id (by omega) (by omega)
        clear hc
        go_wp2_with fail
        refine calls_at HV1.out (by with_reducible rfl) (by with_reducible rfl) ?_
        rintro e wa ⟨va, rfl, hoa, hba⟩
        have HRa : Hid (wa.ownsRow wq.heap.size 3 1 va c.length (ic c) ∧ Below wq.heap.size wq wa) := ⟨hoa, hba⟩
        obtain ⟨_, z1⟩ := HVi.out.c wa hba
        clear hoa hba y0 y1
        go_wp2_with fail
        refine calls_at (HV2.out wa HRa.out.2) (by with_reducible rfl) (by with_reducible rfl) ?_
        rintro e wb ⟨vb, rfl, hob, hbb⟩
        have HI1 : Hid (Calls Tryz.prog 12 #[va, vb] wb fun e w' => e = .returned (.bool true) ∧ Below wb.heap.size wb w') := ints_same _ _ va vb c wb (own_below HRa.out.1 hbb) hob (by omega)
        have HBb : Hid (Below wa.heap.size wa wb) := hbb
        clear hob hbb z1
        go_wp2_with fail
        refine calls_at HI1.out (by with_reducible rfl) (by with_reducible rfl) ?_
        rintro e wd ⟨rfl, hbd⟩
        have HBd : Hid (Below wq.heap.size wq wd ∧ Below wa.heap.size wa wd) := ⟨bl_next HRa.out.2 (bl_next HBb.out hbd), bl_next HBb.out hbd⟩
        have HId : Hid (Calls Tryz.prog 14 #[.pointer (some ⟨K, 0, none⟩), va, .int .i64 (40 * (k : Int) + 37)] wd fun e w' => e = .returned (.tuple #[]) ∧ ∃ T', Tri W.heap.size T' w' P Q K s0 t0 (nq + 1) ∧ SStp W.heap.size (fun j => Tq j ∨ va.ownBlock = some j) wd w' ∧ Grown (fun j => Tq j ∨ va.ownBlock = some j) wd w' T') :=
          (HT.out.below HBd.out.1).ints (its_less (own_below HRa.out.1 HBd.out.2) (Nat.zero_le _)) (fun g hg => ⟨fun e => by have := HT.out.lt g e; have := (HRa.out.1.lt g hg).1; omega, Nat.le_trans HWq.out (HRa.out.1.lt g hg).1⟩) (by omega) ⟨by omega, by omega⟩ (by omega)
        clear hbd HI1
        go_wp2_with fail
        refine calls_at HId.out (by with_reducible rfl) (by with_reducible rfl) ?_
        rintro e we ⟨rfl, Te, hTe, hse, _⟩
        have HTe : Hid (Tri W.heap.size Te we P Q K s0 t0 (nq + 1)) := hTe
        have HHe : Hid (Calls Tryz.prog 17 #[.pointer (some ⟨K, 0, none⟩)] we fun e w' => e = .returned (.bool true) ∧ Below we.heap.size we w') := hTe.hold (by omega)
        have HBe : Hid (Below W.heap.size W we) := (bl_next HBq.out HBd.out.1).trans hse.below
        clear hTe hse HId
        go_wp2_with fail
        refine calls_at HHe.out (by with_reducible rfl) (by with_reducible rfl) ?_
        rintro e wf ⟨rfl, hbf⟩
        have HTf : Hid (∃ T s t n, Tri W.heap.size T wf P Q K s t n ∧ n ≤ 13 * (k + 1) ∧ s.marks ≤ k + 1 ∧ t.marks ≤ k + 1) := ⟨Te, s0, t0, _, HTe.out.below hbf, by omega, hms0, hmt0⟩
        have HBf : Hid (Below W.heap.size W wf) := bl_next HBe.out hbf
        clear hbf
        go_wp2_with fail
        go_roundw
        case rel => exact ⟨k + 1, by go_num, hkn, HTf, HBf⟩
        case measure => simp [intOf]; omega
    · have hke : k = L.length := by omega
      subst hke
      have hkI : ¬ (L.length : Int) < (L.length : Int) := by omega
      have HT : Hid (Tri W.heap.size T wr P Q K s t n) := hTr
      have HC1 : Hid (Calls Tryz.prog 18 #[.pointer (some ⟨P, 0, none⟩)] wr fun e w' => e = .returned (.bool true) ∧ Below wr.heap.size wr w') := hTr.likeP (HTz.out wr HBr.out).1 (HTz.out wr HBr.out).2
      clear hTr
      go_wp2_with fail
      refine calls_at HC1.out (by with_reducible rfl) (by with_reducible rfl) ?_
      rintro e wa ⟨rfl, hba⟩
      have HBa : Hid (Below wr.heap.size wr wa) := hba
      have HC2 : Hid (Calls Tryz.prog 18 #[.pointer (some ⟨Q, 0, none⟩)] wa fun e w' => e = .returned (.bool true) ∧ Below wa.heap.size wa w') := (HT.out.below hba).likeQ (HTz.out wa (bl_next HBr.out hba)).1 (HTz.out wa (bl_next HBr.out hba)).2
      clear hba
      go_wp2_with fail
      refine calls_at HC2.out (by with_reducible rfl) (by with_reducible rfl) ?_
      rintro e wb ⟨rfl, hbb⟩
      have HBb : Hid (Below wr.heap.size wr wb) := bl_next HBa.out hbb
      have HC3 : Hid (Calls Tryz.prog 17 #[.pointer (some ⟨K, 0, none⟩)] wb fun e w' => e = .returned (.bool true) ∧ Below wb.heap.size wb w') := (HT.out.below HBb.out).hold (by omega)
      clear hbb
      go_wp2_with fail
      refine calls_at HC3.out (by with_reducible rfl) (by with_reducible rfl) ?_
      rintro e wc ⟨rfl, hbc⟩
      have HBc : Hid (Below W.heap.size W wc) := bl_next HBr.out (bl_next HBb.out hbc)
      clear hbc
      go_wp2_with fail
      go_ret
      exact ⟨rfl, HB.out.trans (HBc.out.mono HB.out.size)⟩
end Go.Proofs.YtchpapppkmnfnaaGreatDoor
