/-
  Put together: HlCrowdF, HlCrowd.
-/
import Derived.Test.YtemnbcilmbojhaaGreatDoorJ42
import Derived.BigQuiet
import Derived.Deep.CutRange
namespace Go.Proofs.YtemnbcilmbojhaaGreatDoor
open Go.RowKit

theorem bl_drewN (w : World) (q : Nat) : Below w.heap.size w (w.drewN q) := ⟨rfl, rfl, rfl, Nat.le_refl _, fun _ _ => rfl⟩
def CfOut (a : Int) (G : List Gr) (w : World) (e : Ending) (w' : World) : Prop := ∃ v, e = .returned v ∧ w'.ownsRow w.heap.size 76 7 v (cfL a G).length (ivs (cfL a G)) ∧ Below w.heap.size w w'
theorem cf1_lo (a : Int) (i : Iv) (g : Gr) : (cf1 a i g).lo = i.lo := by unfold cf1 Iv.with; split <;> rfl
theorem cf1_ok {a : Int} {i : Iv} {g : Gr} {k : Nat} (hi : i.Ok) (hg : g.Ok) (hk : i.n ≤ (k : Int) * 1000000) (h : k < 64) : (cf1 a i g).Ok ∧ (cf1 a i g).n ≤ ((k + 1 : Nat) : Int) * 1000000 := by
  obtain ⟨l1, l2, h1, h2, n1, n2⟩ := hi
  obtain ⟨k1, k2, k3, k4, kx, k5, k6⟩ := hg
  unfold cf1 Iv.with
  split
  · refine ⟨⟨l1, l2, k3, k4, ?_, ?_⟩, ?_⟩ <;> dsimp only <;> omega
  · refine ⟨⟨l1, l2, k3, k4, ?_, ?_⟩, ?_⟩ <;> dsimp only <;> omega
set_option maxRecDepth 10000 in
set_option maxHeartbeats 4000000 in
theorem crowdFrom_any (a : Int) (ha1 : -2000000000 ≤ a) (ha2 : a ≤ 2000000000) (ga : Option Addr) (gc : Nat) (G : List Gr) (w : World) (hG : GrsAt w ga G) (hok : ∀ g ∈ G, g.Ok) (hl : G.length ≤ 32) : Calls Tryz.prog 50 #[.int .i64 a, .slice ga G.length gc] w (CfOut a G w) := by
  obtain ⟨W, hW⟩ : ∃ W, (w.alloc (.cells #[.int .u8 0, .int .u8 0, .int .u8 0, .int .u8 0] 74)).alloc (.cells #[.int .i64 a, .int .i64 0, .int .u8 0, .int .u8 0, .int .u8 0, .int .u8 0, .int .i64 0] 76) = W := ⟨_, rfl⟩
  have hb0 : Below w.heap.size w W := by rw [← hW]; exact ((Below.refl _ _).alloc (Nat.le_refl _) _).alloc (by simp) _
  have HI0 : Hid (CfI w.heap.size w (cf0 a) (.slice none 0 0) W) := by
    refine ⟨?_, ?_, World.ownsRow_nil _ _ _ _, hb0, ?_⟩
    · rw [← hW]
      exact (heap_alloc_old (w.alloc _) _ (by simp)).trans (heap_alloc_new w _)
    · rw [← hW]
      exact heap_alloc2_new w _ _
    · rw [← hW]
      simp
  have HG : Hid (∀ w', Below w.heap.size w w' → ∀ k (hk : k < G.length), ∃ b off, ga = some ⟨b, off, none⟩ ∧ GrAt w' b (off + k * 4) G[k]) := fun w' hb k hk => by
    obtain ⟨b, off, e, hlt, hg⟩ := hG k hk
    exact ⟨b, off, e, hg.mono (hb.block b hlt)⟩
  have Hok : Hid (∀ k (hk : k < G.length), G[k].Ok) := fun k hk => hok _ (List.getElem_mem hk)
  clear hG hb0 hok
  go_enter Tryz.func50, Tryz.ntmps50
  go_upto_region 3 with fail
  obtain ⟨W1, hW1⟩ : ∃ W1, w.alloc (.cells #[.int .u8 0, .int .u8 0, .int .u8 0, .int .u8 0] 74) = W1 := ⟨_, rfl⟩
  have Hs1 : Hid (W1.heap.size = w.heap.size + 1) := by show _ = _; rw [← hW1]; simp
  have HW : Hid (W1.alloc (.cells #[.int .i64 a, .int .i64 0, .int .u8 0, .int .u8 0, .int .u8 0, .int .u8 0, .int .i64 0] 76) = W) := by show _ = _; rw [← hW1]; exact hW
  clear hW
  try rw [hW1]
  clear hW1
  go_upto_region 4 with fail
  have hW := HW.out
  have hs1 := Hs1.out
  rw [hW, hs1]
  clear hW hs1 HW Hs1
  go_wp2_with fail
  go_loopw [5, 15] (fun sv iv wr => ∃ (k : Nat) (S : CfS), iv = .int .i64 (k : Int) ∧ k ≤ G.length ∧ Hid (CfI w.heap.size w S sv wr) ∧ Hid (cfR a S (G.drop k) = cfR a (cf0 a) G) ∧ Hid (S.i.Ok ∧ S.i.lo = a ∧ S.i.n ≤ (k : Int) * 1000000 ∧ S.out.length ≤ k)) (fun _ iv _ => G.length - (intOf iv).toNat)
  case atStart => exact ⟨0, cf0 a, rfl, Nat.zero_le _, HI0, rfl, ⟨⟨ha1, ha2, (by show (-2000000000 : Int) ≤ 0; decide), (by show (0 : Int) ≤ 2000000000; decide), (by show (0 : Int) ≤ 0; decide), (by show (0 : Int) ≤ 100000000; decide)⟩, rfl, (by show (0 : Int) ≤ _; decide), Nat.le_refl _⟩⟩
  case round =>
  obtain ⟨k, S, rfl, hk, HI, HR, HK⟩ := hrel
  obtain ⟨sa, sc, rfl⟩ := own_slice HI.out.own
  by_cases hkn : k < G.length
  case neg =>
    have hke : k = G.length := by omega
    subst hke
    have hkI : ¬ (G.length : Int) < (G.length : Int) := by omega
    have HE : Hid (S.out = cfL a G) := by
      have := HR.out
      rw [List.drop_length] at this
      exact congrArg CfS.out this
    go_wp2_with fail
    go_ret
    refine ⟨_, rfl, ?_, HI.out.below⟩
    rw [← HE.out]
    exact own_base2 HI.out.own (by omega)
  case pos =>
  have hkI : (k : Int) < (G.length : Int) := by omega
  obtain ⟨b, off, rfl, hgr⟩ := HG.out wr HI.out.below k hkn
  obtain ⟨q0, q1, q2, q3⟩ := hgr
  obtain ⟨g, hgk⟩ : ∃ g, G[k] = g := ⟨_, rfl⟩
  have HDr : Hid (G.drop k = g :: G.drop (k + 1)) := by show _ = _; rw [← hgk]; exact List.drop_eq_getElem_cons hkn
  have HGo : Hid g.Ok := by rw [← hgk]; exact Hok.out k hkn
  rw [hgk] at q0 q1 q2 q3
  clear hgk
  obtain ⟨V, hV⟩ : ∃ V, wr.alloc (.cells #[.int .i64 g.lo, .int .i64 g.hi, .int .i64 (g.x : Int), .int .i64 g.n] 79) = V := ⟨_, rfl⟩
  have hbV : Below wr.heap.size wr V := by rw [← hV]; exact (Below.refl _ _).alloc (Nat.le_refl _) _
  have gV : V.heap[wr.heap.size]? = some (.cells #[.int .i64 g.lo, .int .i64 g.hi, .int .i64 (g.x : Int), .int .i64 g.n] 79 (0, 0)) := by rw [← hV]; exact heap_alloc_new wr _
  have HIV : Hid (CfI w.heap.size w S (.slice sa S.out.length sc) V) := HI.out.later (HI.out.below.size) hbV
  have HV0 : Hid (V.heap[wr.heap.size]? = some (.cells #[.int .i64 g.lo, .int .i64 g.hi, .int .i64 (g.x : Int), .int .i64 g.n] 79 (0, 0))) := gV
  have HSz : Hid (w.heap.size + 1 + 1 ≤ wr.heap.size) := HI.out.size
  go_upto_region 7 with fail
  try rw [hV]
  clear hV q0 q1 q2 q3
  have r1 := cell_of gV 1
  have j1 := cell_of HIV.out.iv 1
  have jz := frozen_of HIV.out.iv 1
  clear gV
  go_upto_region 8 with fail
  obtain ⟨V2, hV2⟩ : ∃ V2, V.setCell ⟨w.heap.size + 1, 1, none⟩ (.int .i64 g.hi) = V2 := ⟨_, rfl⟩
  have HI2 : Hid (CfI w.heap.size w ⟨⟨S.i.lo, g.hi, S.i.f, S.i.n⟩, S.nar, S.out⟩ (.slice sa S.out.length sc) V2) := by
    rw [← hV2]
    refine HIV.out.setI ⟨S.i.lo, g.hi, S.i.f, S.i.n⟩ (Off.set (S := fun b => b = w.heap.size + 1) _ rfl) ((Below.refl (w.heap.size + 1) V).setCell (by show w.heap.size + 1 ≤ w.heap.size + 1; exact Nat.le_refl _) _) ?_
    have hE := heap_setCell_same V (w.heap.size + 1) 1 _ 76 (.int .i64 g.hi) HIV.out.iv
    simpa only [List.setIfInBounds_toArray, List.set_cons_zero, List.set_cons_succ] using hE
  have HG2 : Hid (V2.heap[wr.heap.size]? = some (.cells #[.int .i64 g.lo, .int .i64 g.hi, .int .i64 (g.x : Int), .int .i64 g.n] 79 (0, 0))) := by
    rw [← hV2]
    show _ = _
    rw [heap_setCell_other _ _ _ _ (by show wr.heap.size ≠ w.heap.size + 1; have := HSz.out; omega)]
    exact HV0.out
  try rw [hV2]
  clear hV2 r1 j1 jz HIV HV0 HI HI0
  have r0 := cell_of HG2.out 0
  go_cut [29] from 25 to 29 (fun s29 wx => s29 = .bool (decide (a ≤ g.lo)) ∧ wx = V2)
  case first =>
    go_wp2_with fail
    go_meet
    exact ⟨rfl, rfl⟩
  case rest =>
  obtain ⟨rfl, rfl⟩ := hcut
  clear r0
  apply_assumption
  go_cut [] from 29 to 32 (fun wx => Hid (CfI w.heap.size w ⟨cf1 a S.i g, S.nar, S.out⟩ (.slice sa S.out.length sc) wx) ∧ Hid (wx.heap[wr.heap.size]? = some (.cells #[.int .i64 g.lo, .int .i64 g.hi, .int .i64 (g.x : Int), .int .i64 g.n] 79 (0, 0))))
  case first =>
    by_cases hlo : a ≤ g.lo
    case neg =>
      have hd : decide (a ≤ g.lo) = false := decide_eq_false hlo
      have HE : Hid (cf1 a S.i g = ⟨S.i.lo, g.hi, S.i.f, S.i.n⟩) := by show _ = _; unfold cf1; rw [if_neg hlo]
      rw [hd]
      go_wp2_with fail
      go_meet
      exact ⟨(by show CfI _ _ _ _ _; rw [HE.out]; exact HI2.out), HG2⟩
    case pos =>
      have hd : decide (a ≤ g.lo) = true := decide_eq_true hlo
      have HE : Hid (cf1 a S.i g = Iv.with ⟨S.i.lo, g.hi, S.i.f, S.i.n⟩ g) := by show _ = _; unfold cf1; rw [if_pos hlo]
      rw [hd]
      have hi2 : (⟨S.i.lo, g.hi, S.i.f, S.i.n⟩ : Iv).Ok := by
        obtain ⟨⟨l1, l2, h1, h2, n1, n2⟩, _⟩ := HK.out
        exact ⟨l1, l2, HGo.out.h1, HGo.out.h2, n1, n2⟩
      have HC0 := fun w' => ivWith_any ⟨S.i.lo, g.hi, S.i.f, S.i.n⟩ g hi2 HGo.out w'
      have HC : Hid (∀ w', Calls Tryz.prog 72 #[.agg #[.int .i64 S.i.lo, .int .i64 g.hi, .int .u8 (wd S.i.f 0 : Int), .int .u8 (wd S.i.f 1 : Int), .int .u8 (wd S.i.f 2 : Int), .int .u8 (wd S.i.f 3 : Int), .int .i64 S.i.n], .agg #[.int .i64 g.lo, .int .i64 g.hi, .int .i64 (g.x : Int), .int .i64 g.n]] w' fun e w2 => e = .returned (.agg #[.int .i64 S.i.lo, .int .i64 g.hi, .int .u8 (wd (bWith S.i.f g.x) 0 : Int), .int .u8 (wd (bWith S.i.f g.x) 1 : Int), .int .u8 (wd (bWith S.i.f g.x) 2 : Int), .int .u8 (wd (bWith S.i.f g.x) 3 : Int), .int .i64 (S.i.n + g.n)]) ∧ Below w'.heap.size w' w2) := HC0
      clear HC0 hi2
      have hv := HI2.out.iv
      dsimp only at hv
      have c0 := cell_of hv 0
      have c1 := cell_of hv 1
      have c2 := cell_of hv 2
      have c3 := cell_of hv 3
      have c4 := cell_of hv 4
      have c5 := cell_of hv 5
      have c6 := cell_of hv 6
      have d0 := cell_of HG2.out 0
      have d1 := cell_of HG2.out 1
      have d2 := cell_of HG2.out 2
      have d3 := cell_of HG2.out 3
      clear hv
      go_wp2_with (go_at_call 72; refine calls_at (HC.out _) (by with_reducible rfl) (by with_reducible rfl) ?_; rintro e w4 ⟨rfl, hb4⟩; (have HI4 : Hid (CfI w.heap.size w ⟨⟨S.i.lo, g.hi, S.i.f, S.i.n⟩, S.nar, S.out⟩ (.slice sa S.out.length sc) w4) := HI2.out.later HI2.out.below.size hb4); (have HG4 : Hid (w4.heap[wr.heap.size]? = some (.cells #[.int .i64 g.lo, .int .i64 g.hi, .int .i64 (g.x : Int), .int .i64 g.n] 79 (0, 0))) := (hb4.block _ (Array.getElem?_eq_some_iff.1 HG2.out).1).trans HG2.out); (have hv4 := HI4.out.iv); dsimp only at hv4; (have e0 := cell_of hv4 0); (have e1 := cell_of hv4 1); (have e2 := cell_of hv4 2); (have e3 := cell_of hv4 3); (have e4 := cell_of hv4 4); (have e5 := cell_of hv4 5); (have e6 := cell_of hv4 6); (have ez : ∀ i, w4.frozen? ⟨w.heap.size + 1, i, none⟩ = false := fun i => frozen_of hv4 i); (have HV4 : Hid (w4.heap[w.heap.size + 1]? = some (.cells #[.int .i64 S.i.lo, .int .i64 g.hi, .int .u8 (wd S.i.f 0 : Int), .int .u8 (wd S.i.f 1 : Int), .int .u8 (wd S.i.f 2 : Int), .int .u8 (wd S.i.f 3 : Int), .int .i64 S.i.n] 76 (0, 0))) := hv4); clear hb4 hv4)
      go_meet
      rw [HE.out]
      exact HI4.out.set7 _ _ _ _ _ _ _ (Iv.with ⟨S.i.lo, g.hi, S.i.f, S.i.n⟩ g) rfl (by have := HSz.out; omega) HG4.out
  case rest =>
  obtain ⟨HI3, HG3⟩ := hcut
  rename World => X
  clear HI2 HG2
  obtain ⟨i, hie⟩ : ∃ i, cf1 a S.i g = i := ⟨_, rfl⟩
  have HIk : Hid (i.Ok ∧ i.lo = a ∧ i.n ≤ ((k + 1 : Nat) : Int) * 1000000 ∧ S.out.length ≤ k) := by
    obtain ⟨o1, o2, o3, o4⟩ := HK.out
    have := cf1_ok (a := a) (g := g) o1 HGo.out o3 (by omega)
    rw [← hie]
    exact ⟨this.1, (cf1_lo a S.i g).trans o2, this.2, o4⟩
  have HSt : Hid (cfR a (cfStep a S g (G.drop (k + 1))) (G.drop (k + 1)) = cfR a (cf0 a) G) := by
    have := HR.out
    rw [HDr.out] at this
    exact this
  have HSe : Hid (cfStep a S g (G.drop (k + 1)) = if nxE g (G.drop (k + 1)) then ⟨i, S.nar, S.out⟩ else ⟨i, i.f, if (!sameB i.f S.nar && decide (i.num ≤ i.n)) then S.out ++ [i] else S.out⟩) := by
    show _ = _
    rw [← hie]
    rfl
  rw [hie] at HI3
  clear hie
  go_upto_region 10 with fail
  go_cut [50] from 33 to 50 (fun s50 wx => s50 = .bool (nxE g (G.drop (k + 1))) ∧ Hid (Below X.heap.size X wx))
  case first =>
    have g1 := cell_of HG3.out 1
    by_cases hk1 : k + 1 < G.length
    case neg =>
      have hd : decide ((k : Int) + 1 < (G.length : Int)) = false := decide_eq_false (by omega)
      have HE : Hid (nxE g (G.drop (k + 1)) = false) := by
        show _ = _
        rw [List.drop_eq_nil_of_le (by omega)]
        rfl
      go_quiet (fail)
      go_wp2_with fail
      go_meet
      exact ⟨by rw [HE.out], bl_drewN _ _⟩
    case pos =>
      have hd : decide ((k : Int) + 1 < (G.length : Int)) = true := decide_eq_true (by omega)
      obtain ⟨b', off', e, hgr⟩ := HG.out X HI3.out.below (k + 1) hk1
      injection e with e
      injection e with e1 e2
      subst e1 e2
      have HE : Hid (nxE g (G.drop (k + 1)) = decide (G[k + 1].hi = g.hi)) := by
        show _ = _
        rw [List.drop_eq_getElem_cons hk1]
        rfl
      have n1 := hgr.2.1
      clear hgr
      have hk2 : ((k + 1 : Nat) : Int) < (G.length : Int) := by omega
      go_quiet (fail)
      go_wp2_with fail
      go_meet
      exact ⟨by rw [HE.out]; rfl, bl_drewN _ _⟩
  case rest =>
  obtain ⟨rfl, HBc⟩ := hcut
  rename World => Y
  have HI5 : Hid (CfI w.heap.size w ⟨i, S.nar, S.out⟩ (.slice sa S.out.length sc) Y) := HI3.out.later HI3.out.below.size HBc.out
  clear HI3 HG3 HBc HK HDr HR
  obtain ⟨r, hr⟩ : ∃ r, nxE g (G.drop (k + 1)) = r := ⟨_, rfl⟩
  rw [hr] at HSe ⊢
  clear hr
  cases r with
  | true =>
    have HS2 : Hid (cfStep a S g (G.drop (k + 1)) = ⟨i, S.nar, S.out⟩) := HSe.out
    go_wp2_with fail
    go_roundw
    case rel =>
      refine ⟨k + 1, ⟨i, S.nar, S.out⟩, by go_num, hkn, HI5, ?_, ?_⟩
      · show _ = _
        rw [← HS2.out]
        exact HSt.out
      · obtain ⟨o1, o2, o3, o4⟩ := HIk.out
        exact ⟨o1, o2, o3, Nat.le_succ_of_le o4⟩
    case measure => simp [intOf]; omega
  | false =>
    have HS2 : Hid (cfStep a S g (G.drop (k + 1)) = ⟨i, i.f, if (!sameB i.f S.nar && decide (i.num ≤ i.n)) then S.out ++ [i] else S.out⟩) := HSe.out
    clear HSe
    go_upto_region 11 with fail
    go_cut [58] from 51 to 58 (fun s58 wx => s58 = .bool (!sameB i.f S.nar && decide (i.num ≤ i.n)) ∧ Hid (Below Y.heap.size Y wx))
    case first =>
      have hv := HI5.out.iv
      have hn := HI5.out.nar
      dsimp only at hv hn
      have c0 := cell_of hv 0
      have c1 := cell_of hv 1
      have c2 := cell_of hv 2
      have c3 := cell_of hv 3
      have c4 := cell_of hv 4
      have c5 := cell_of hv 5
      have c6 := cell_of hv 6
      have d0 := cell_of hn 0
      have d1 := cell_of hn 1
      have d2 := cell_of hn 2
      have d3 := cell_of hn 3
      clear hv hn
      obtain ⟨q, hq⟩ : ∃ q, sameB i.f S.nar = q := ⟨_, rfl⟩
      have hne : ∀ w', (binOp .neq 74 (.agg #[.int .u8 (wd i.f 0 : Int), .int .u8 (wd i.f 1 : Int), .int .u8 (wd i.f 2 : Int), .int .u8 (wd i.f 3 : Int)]) (.agg #[.int .u8 (wd S.nar 0 : Int), .int .u8 (wd S.nar 1 : Int), .int .u8 (wd S.nar 2 : Int), .int .u8 (wd S.nar 3 : Int)])).run Tryz.prog w' = .ok (.bool (!q)) w' := fun w' => by
        rw [← hq]
        exact ne74 _ _ _ _ _ _ _ _ w'
      have HC : Hid (∀ w', Calls Tryz.prog 73 #[.agg #[.int .i64 i.lo, .int .i64 i.hi, .int .u8 (wd i.f 0 : Int), .int .u8 (wd i.f 1 : Int), .int .u8 (wd i.f 2 : Int), .int .u8 (wd i.f 3 : Int), .int .i64 i.n]] w' fun e w2 => e = .returned (.bool (decide (i.num ≤ i.n))) ∧ Below w'.heap.size w' w2) := fun w' => isCrowd_any i HIk.out.1 w'
      have HQ : Hid (sameB i.f S.nar = q) := hq
      clear hq
      cases q with
      | true =>
        go_wp2_with fail
        go_meet
        exact ⟨by rw [HQ.out]; rfl, Below.refl _ _⟩
      | false =>
        go_wp2_with (go_at_call 73; refine calls_at (HC.out _) (by with_reducible rfl) (by with_reducible rfl) ?_; rintro e w4 ⟨rfl, hb4⟩)
        go_meet
        exact ⟨by rw [HQ.out]; rfl, hb4⟩
    case rest =>
    obtain ⟨rfl, HBc⟩ := hcut
    rename World => Z
    have HI6 : Hid (CfI w.heap.size w ⟨i, S.nar, S.out⟩ (.slice sa S.out.length sc) Z) := HI5.out.later HI5.out.below.size HBc.out
    clear HI5 HBc
    obtain ⟨r, hr⟩ : ∃ r, (!sameB i.f S.nar && decide (i.num ≤ i.n)) = r := ⟨_, rfl⟩
    rw [hr] at HS2 ⊢
    clear hr
    have hv := HI6.out.iv
    dsimp only at hv
    have c0 := cell_of hv 0
    have c1 := cell_of hv 1
    have c2 := cell_of hv 2
    have c3 := cell_of hv 3
    have c4 := cell_of hv 4
    have c5 := cell_of hv 5
    have c6 := cell_of hv 6
    clear hv
    cases r with
    | false =>
      have HS3 : Hid (cfStep a S g (G.drop (k + 1)) = ⟨i, i.f, S.out⟩) := HS2.out
      have hn := HI6.out.nar
      dsimp only at hn
      have d0 := cell_of hn 0
      have d1 := cell_of hn 1
      have d2 := cell_of hn 2
      have d3 := cell_of hn 3
      have dz : ∀ i, Z.frozen? ⟨w.heap.size, i, none⟩ = false := fun i => frozen_of hn i
      clear hn
      go_wp2_with fail
      go_roundw
      case rel =>
        refine ⟨k + 1, ⟨i, i.f, S.out⟩, by go_num, hkn, HI6.out.set4 i.f, ?_, ?_⟩
        · show _ = _
          rw [← HS3.out]
          exact HSt.out
        · obtain ⟨o1, o2, o3, o4⟩ := HIk.out
          exact ⟨o1, o2, o3, Nat.le_succ_of_le o4⟩
      case measure => simp [intOf]; omega
    | true =>
      have HS3 : Hid (cfStep a S g (G.drop (k + 1)) = ⟨i, i.f, S.out ++ [i]⟩) := HS2.out
      obtain ⟨T, hT⟩ : ∃ T, Z.alloc (.cells #[.int .i64 i.lo, .int .i64 i.hi, .int .u8 (wd i.f 0 : Int), .int .u8 (wd i.f 1 : Int), .int .u8 (wd i.f 2 : Int), .int .u8 (wd i.f 3 : Int), .int .i64 i.n] 76) = T := ⟨_, rfl⟩
      have hbT : Below Z.heap.size Z T := by rw [← hT]; exact (Below.refl _ _).alloc (Nat.le_refl _) _
      have HST : Hid (SrcAt T (.slice (some ⟨Z.heap.size, 0, none⟩) 1 1) 1 7 i.cells) := by
        refine src_iv ?_
        rw [← hT]
        exact heap_alloc_new Z _
      have HIT : Hid (CfI w.heap.size w ⟨i, S.nar, S.out⟩ (.slice sa S.out.length sc) T) := HI6.out.later HI6.out.below.size hbT
      have hol : S.out.length ≤ 32 := Nat.le_trans HIk.out.2.2.2 (by omega)
      have HSn : Hid (T.heap.size ≥ w.heap.size + 1 + 1) := HIT.out.size
      clear hbT
      go_wp2_with (first
        | (at_builtin; refine append_src T rfl (.tmp 59) (.tmp 61) 68 76 (.agg #[.int .i64 0, .int .i64 0, .int .u8 0, .int .u8 0, .int .u8 0, .int .u8 0, .int .i64 0]) 7 32 rfl und68 info76 rfl (by decide) (w.heap.size + 1 + 1) _ _ S.out.length 1 (ivs S.out) i.cells (by rfl) (by rfl) HIT.out.own HST.out (by unfold maxLen; omega) (by omega) HSn.out ?_; intro v1 w1 ho1 hg1 hn1; (obtain ⟨a1, p1, hv1⟩ := own_slice ho1); subst hv1; (have HI7 : Hid (CfI w.heap.size w ⟨i, S.nar, S.out ++ [i]⟩ (.slice a1 (S.out.length + 1) p1) w1) := HIT.out.put ho1 hg1 HIT.out.below.size); clear ho1 hg1 hn1; (have hv := HI7.out.iv); (have hn := HI7.out.nar); dsimp only at hv hn; (have m2 := cell_of hv 2); (have m3 := cell_of hv 3); (have m4 := cell_of hv 4); (have m5 := cell_of hv 5); (have d0 := cell_of hn 0); (have d1 := cell_of hn 1); (have d2 := cell_of hn 2); (have d3 := cell_of hn 3); (have dz : ∀ i, w1.frozen? ⟨w.heap.size, i, none⟩ = false := fun i => frozen_of hn i); clear hv hn))
      go_roundw
      case rel =>
        refine ⟨k + 1, ⟨i, i.f, S.out ++ [i]⟩, by go_num, hkn, HI7.out.set4 i.f, ?_, ?_⟩
        · show _ = _
          rw [← HS3.out]
          exact HSt.out
        · obtain ⟨o1, o2, o3, o4⟩ := HIk.out
          exact ⟨o1, o2, o3, by rw [List.length_append]; exact Nat.succ_le_succ o4⟩
      case measure => simp [intOf]; omega
end Go.Proofs.YtemnbcilmbojhaaGreatDoor

namespace Go.Proofs.YtemnbcilmbojhaaGreatDoor
open Go.RowKit

/-- The crowded intervals; by their ends: Gs. -/
def crL (Gs G : List Gr) : List Iv := (stL G).flatMap fun a => cfL a Gs
theorem compact_sub (l : List Int) : ∀ x ∈ Lib.compact l, x ∈ l := by
  intro x hx
  unfold Lib.compact Lib.compactUpTo at hx
  rw [List.mem_map] at hx
  obtain ⟨j, hj, rfl⟩ := hx
  have hlt : j < l.length := by simpa using (List.mem_filter.1 hj).1
  have : j < l.toArray.size := by simpa using hlt
  rw [getElem!_pos _ j this]
  simp
theorem stL_sub {G : List Gr} {a : Int} (h : a ∈ stL G) : ∃ g ∈ G, g.lo = a := by
  have := compact_sub _ a h
  rw [List.mem_mergeSort, List.mem_map] at this
  exact this
theorem stL_len (G : List Gr) : (stL G).length ≤ G.length := by
  refine Nat.le_trans (compact_len _) ?_
  rw [List.length_mergeSort, List.length_map]
  exact Nat.le_refl _
theorem cfR_len (a : Int) (G : List Gr) : ∀ S : CfS, (cfR a S G).out.length ≤ S.out.length + G.length := by
  induction G with
  | nil => intro S; exact Nat.le_refl _
  | cons g G ih =>
    intro S
    refine Nat.le_trans (ih _) ?_
    have : (cfStep a S g G).out.length ≤ S.out.length + 1 := by
      unfold cfStep
      split
      · exact Nat.le_succ _
      · dsimp only
        split
        · simp
        · exact Nat.le_succ _
    rw [List.length_cons]
    omega
theorem cfL_len (a : Int) (G : List Gr) : (cfL a G).length ≤ G.length := by
  have := cfR_len a G (cf0 a)
  simpa [cfL, cf0] using this
theorem cfR_ok (a : Int) (G : List Gr) : ∀ (S : CfS) (k : Nat), (∀ g ∈ G, g.Ok) → S.i.Ok → S.i.n ≤ (k : Int) * 1000000 → k + G.length ≤ 64 → (∀ i ∈ S.out, i.Ok) → ∀ i ∈ (cfR a S G).out, i.Ok := by
  induction G with
  | nil => intro S k _ _ _ _ h; exact h
  | cons g G ih =>
    intro S k hg hi hn hk ho
    have hc := cf1_ok (a := a) (k := k) hi (hg g List.mem_cons_self) hn (by rw [List.length_cons] at hk; omega)
    have e : (cfStep a S g G).i = cf1 a S.i g := by unfold cfStep; split <;> rfl
    refine ih (cfStep a S g G) (k + 1) (fun g' h' => hg g' (List.mem_cons_of_mem _ h')) (by rw [e]; exact hc.1) (by rw [e]; exact hc.2) (by rw [List.length_cons] at hk; omega) ?_
    intro i hi'
    unfold cfStep at hi'
    split at hi'
    · exact ho i hi'
    · dsimp only at hi'
      split at hi'
      · rcases List.mem_append.1 hi' with h | h
        · exact ho i h
        · rw [List.mem_singleton.1 h]
          exact hc.1
      · exact ho i hi'
theorem cfL_ok {a : Int} {G : List Gr} (h1 : -2000000000 ≤ a) (h2 : a ≤ 2000000000) (hg : ∀ g ∈ G, g.Ok) (hl : G.length ≤ 32) : ∀ i ∈ cfL a G, i.Ok :=
  cfR_ok a G (cf0 a) 0 hg ⟨h1, h2, (by show (-2000000000 : Int) ≤ 0; decide), (by show (0 : Int) ≤ 2000000000; decide), (by show (0 : Int) ≤ 0; decide), (by show (0 : Int) ≤ 100000000; decide)⟩ (by show (0 : Int) ≤ _; decide) (by omega) (fun i h => absurd h (by simp [cf0]))
theorem flat_len {β : Type} (n : Nat) (f : Int → List β) (h : ∀ a, (f a).length ≤ n) : ∀ l : List Int, (l.flatMap f).length ≤ l.length * n
  | [] => by simp
  | a :: l => by
    rw [List.flatMap_cons, List.length_append, List.length_cons, Nat.add_mul, Nat.one_mul]
    have := flat_len n f h l
    have := h a
    omega
theorem ivs_len (L : List Iv) : (ivs L).length = L.length * 7 := by
  induction L with
  | nil => rfl
  | cons i L ih =>
    have e : ivs (i :: L) = i.cells ++ ivs L := by simp [ivs]
    rw [e, List.length_append, ih, List.length_cons]
    show 7 + _ = _
    omega
theorem ivs_src {w : World} {B : Nat} {v : Value} {G : List Iv} (h : w.ownsRow B 76 7 v G.length (ivs G)) : SrcAt w v G.length 7 (ivs G) := by
  have h1 : ∀ u ∈ ivs G, u.oneCell' = true := by
    intro u hu
    unfold ivs at hu
    rw [List.mem_flatMap] at hu
    obtain ⟨d, _, hu⟩ := hu
    simp only [Iv.cells, List.mem_cons, List.not_mem_nil, or_false] at hu
    rcases hu with rfl | rfl | rfl | rfl | rfl | rfl | rfl <;> rfl
  have hl : (ivs G).length = G.length * 7 := h.1
  rcases h.2 with ⟨rfl, hn⟩ | ⟨g, cap, cur, rfl, _, e3, _, _, _, e7⟩
  · exact ⟨none, 0, by rw [hn], hl, h1, (fun _ => hn), fun ad ha => by cases ha⟩
  · refine ⟨_, cap, rfl, hl, h1, (fun hn => by cases hn), fun ad ha j u hj => ?_⟩
    injection ha with ha
    subst ha
    rw [add_none, Nat.zero_add, cell_of e3]
    have hj2 : j < G.length * 7 := by
      have := (List.getElem?_eq_some_iff.1 hj).1
      omega
    have : (cur.toList.take (G.length * 7))[j]? = some u := by rw [e7]; exact hj
    rw [List.getElem?_take, if_pos hj2] at this
    simpa using this
def CrOut (G : List Gr) (w : World) (e : Ending) (w' : World) : Prop := ∃ Gs v, Gs.Perm G ∧ Gs.Pairwise (fun a b => a.hi ≤ b.hi) ∧ e = .returned v ∧ w'.ownsRow w.heap.size 76 7 v (crL Gs G).length (ivs (crL Gs G)) ∧ Below w.heap.size w w'
set_option maxRecDepth 10000 in
set_option maxHeartbeats 2000000 in
theorem crowd_any (pv : Value) (B : Nat) (ga : Option Addr) (gc : Nat) (G : List Gr) (w : World) (hG : w.ownsRow B 79 4 (.slice ga G.length gc) G.length (grs G)) (hok : ∀ g ∈ G, g.Ok) (hl : G.length ≤ 32) : Calls Tryz.prog 27 #[.agg #[pv, .slice ga G.length gc]] w (CrOut G w) := by
  obtain ⟨W, hW⟩ : ∃ W, w.alloc (.cells #[pv, .slice ga G.length gc] 66) = W := ⟨_, rfl⟩
  have hb0 : Below w.heap.size w W := by rw [← hW]; exact (Below.refl _ _).alloc (Nat.le_refl _) _
  have HB : Hid (Below w.heap.size w W) := hb0
  have g0 : W.heap[w.heap.size]? = some (.cells #[pv, .slice ga G.length gc] 66 (0, 0)) := by rw [← hW]; exact heap_alloc_new w _
  have p1 := cell_of g0 1
  have HG0 : Hid (W.heap[w.heap.size]? = some (.cells #[pv, .slice ga G.length gc] 66 (0, 0))) := g0
  have HO : Hid (W.ownsRow B 79 4 (.slice ga G.length gc) G.length (grs G)) := own_bl hG hb0
  have HCl : Hid (Calls Tryz.prog 46 #[.slice ga G.length gc] W fun e w1 => ∃ v1, e = .returned v1 ∧ Below W.heap.size W w1 ∧ Calls Tryz.prog 47 #[v1, .func (.func 48) #[] #[]] w1 fun e w2 => e = .returned (.tuple #[]) ∧ ∃ Gs a cap, Gs.Perm G ∧ Gs.Pairwise (fun a b => a.hi ≤ b.hi) ∧ v1 = .slice a Gs.length cap ∧ GrsAt w2 a Gs ∧ Below W.heap.size W w2) := by
    refine (cloneG_any B _ G W HO.out (by omega)).mono ?_
    rintro e w1 ⟨v1, rfl, ho, hb⟩
    refine ⟨v1, rfl, hb, (sortedG_any ho hok (by omega)).mono ?_⟩
    rintro e w2 ⟨rfl, Gs, a, cap, h1, h2, h3, h4, h5⟩
    exact ⟨rfl, Gs, a, cap, h1, h2, h3, h4, hb.trans (h5.mono (Nat.le_refl _))⟩
  have Hok : Hid (∀ g ∈ G, g.Ok) := hok
  clear hG g0 hb0 hok
  go_enter Tryz.func27, Tryz.ntmps27
  go_upto_region 1 with fail
  try rw [hW]
  clear hW
  go_upto_region 3 with (first | (go_at_call 46; refine calls_at HCl.out (by with_reducible rfl) (by with_reducible rfl) ?_; intro e w1 hh; (obtain ⟨v1, h1, h2, h3⟩ := hh); subst h1; (have HSo : Hid _ := h3); clear h2 h3) | (go_at_call 47; refine calls_at HSo.out (by with_reducible rfl) (by with_reducible rfl) ?_; intro e w2 hh; (obtain ⟨h1, Gs, sa, sc, h2, h3, h4, h5, h6⟩ := hh); subst h1; subst h4))
  have HPe : Hid (Gs.Perm G) := h2
  have HPa : Hid (Gs.Pairwise (fun a b => a.hi ≤ b.hi)) := h3
  have HGs : Hid (GrsAt w2 sa Gs) := h5
  have HB2 : Hid (Below W.heap.size W w2) := h6
  have hg32 : Gs.length ≤ 32 := by rw [h2.length_eq]; exact hl
  have HGok : Hid (∀ g ∈ Gs, g.Ok) := fun g hg => Hok.out g (h2.mem_iff.1 hg)
  have b2 := (HB2.out.block _ (Array.getElem?_eq_some_iff.1 HG0.out).1).trans HG0.out
  have z0 := cell_of b2 0
  have z1 := cell_of b2 1
  clear h2 h3 h5 h6 p1 b2 HSo HCl
  have HSt : Hid (Calls Tryz.prog 49 #[.agg #[pv, .slice ga G.length gc]] w2 (StOut G w2)) := by
    refine starts_any pv ga gc G w2 ?_ (by omega)
    obtain ⟨a, cap, e, hh⟩ := own_grs (own_bl HO.out HB2.out)
    injection e with e1 e2 e3
    subst e1
    exact hh
  go_upto_region 5 with (first | (go_at_call 49; refine calls_at HSt.out (by with_reducible rfl) (by with_reducible rfl) ?_; intro e w3 hh; (obtain ⟨ta, tc, h1, h2, h3⟩ := hh); subst h1))
  have HT : Hid (IntsAt w3 (.slice ta (stL G).length tc) (stL G)) := h2
  have HB3 : Hid (Below w2.heap.size w2 w3) := h3
  clear h2 h3 z0 z1 HSt
  have hsl : (stL G).length ≤ 32 := Nat.le_trans (stL_len G) hl
  have HBw : Hid (Below w.heap.size w w3) := HB.out.trans ((HB2.out.trans (HB3.out.mono HB2.out.size)).mono HB.out.size)
  have HGw : Hid (∀ w', Below w3.heap.size w3 w' → GrsAt w' sa Gs) := fun w' hb => HGs.out.below (HB3.out.trans (hb.mono HB3.out.size))
  have HTw : Hid (∀ w', Below w3.heap.size w3 w' → ∀ (k : Nat) (hk : k < (stL G).length), ∃ b off, ta = some ⟨b, off, none⟩ ∧ w'.cell? ⟨b, off + k, none⟩ = some (.int .i64 (stL G)[k])) := fun w' hb k hk => by
    obtain ⟨a', c', e, _, hcl⟩ := HT.out
    injection e with e1 _ _
    subst e1
    obtain ⟨b, off, e, hlt, hc⟩ := hcl (by omega)
    exact ⟨b, off, e, (hb.cell (p := ⟨b, _, none⟩) hlt).trans (hc k hk)⟩
  have HTb : Hid (∀ (k : Nat) (hk : k < (stL G).length), -2000000000 ≤ (stL G)[k] ∧ (stL G)[k] ≤ 2000000000) := fun k hk => by
    obtain ⟨g, hg, e⟩ := stL_sub (List.getElem_mem hk)
    rw [← e]
    exact ⟨(Hok.out g hg).l1, (Hok.out g hg).l2⟩
  have HEq : Hid (crL Gs G = (stL G).flatMap fun a => cfL a Gs) := rfl
  obtain ⟨T, hT⟩ : ∃ T, stL G = T := ⟨_, rfl⟩
  rw [hT] at HTw HTb HEq hsl ⊢
  clear hT HT HGs HB3 HB2 HG0 HO HB Hok
  go_loopw [4, 15] (fun sv iv wr => ∃ (k : Nat), iv = .int .i64 (k : Int) ∧ k ≤ T.length ∧ Hid (wr.ownsRow w3.heap.size 76 7 sv ((T.take k).flatMap fun a => cfL a Gs).length (ivs ((T.take k).flatMap fun a => cfL a Gs))) ∧ Hid (Below w3.heap.size w3 wr)) (fun _ iv _ => T.length - (intOf iv).toNat)
  case atStart => exact ⟨0, rfl, Nat.zero_le _, World.ownsRow_nil _ _ _ _, Below.refl _ _⟩
  case round =>
  obtain ⟨k, rfl, hk, HOr, HBr⟩ := hrel
  obtain ⟨oa, oc, rfl⟩ := own_slice HOr.out
  by_cases hkn : k < T.length
  case neg =>
    have hke : k = T.length := by omega
    subst hke
    have hkI : ¬ (T.length : Int) < (T.length : Int) := by omega
    obtain ⟨L, hL⟩ : ∃ L, (T.take T.length).flatMap (fun a => cfL a Gs) = L := ⟨_, rfl⟩
    rw [hL] at HOr ⊢
    have HLe : Hid (crL Gs G = L) := by show _ = _; rw [HEq.out, ← hL, List.take_length]
    clear hL
    go_wp2_with fail
    go_ret
    refine ⟨Gs, _, HPe.out, HPa.out, rfl, ?_, HBw.out.trans (HBr.out.mono HBw.out.size)⟩
    rw [HLe.out]
    exact own_base2 HOr.out HBw.out.size
  case pos =>
  have hkI : (k : Int) < (T.length : Int) := by omega
  obtain ⟨b, off, rfl, x0⟩ := HTw.out wr HBr.out k hkn
  have hab := HTb.out k hkn
  have HN : Hid ((T.take (k + 1)).flatMap (fun a => cfL a Gs) = (T.take k).flatMap (fun a => cfL a Gs) ++ cfL T[k] Gs) := by
    show _ = _
    rw [List.take_succ_eq_append_getElem hkn, List.flatMap_append]
    simp
  have hfl : ((T.take k).flatMap fun a => cfL a Gs).length ≤ 32 * 32 := by
    refine Nat.le_trans (flat_len 32 _ (fun a => Nat.le_trans (cfL_len a Gs) (by omega)) _) ?_
    exact Nat.mul_le_mul_right _ (Nat.le_trans (List.length_take_le _ _) (by omega))
  obtain ⟨a, hae⟩ : ∃ a, T[k] = a := ⟨_, rfl⟩
  rw [hae] at x0 hab HN
  clear hae
  have hcl : (cfL a Gs).length ≤ 32 := Nat.le_trans (cfL_len a Gs) (by omega)
  have HC : Hid (Calls Tryz.prog 50 #[.int .i64 a, .slice sa Gs.length sc] wr (CfOut a Gs wr)) := crowdFrom_any a hab.1 hab.2 sa sc Gs wr (HGw.out wr HBr.out) HGok.out (by omega)
  have HOl : Hid (∀ w', Below wr.heap.size wr w' → w'.ownsRow w3.heap.size 76 7 (.slice oa ((T.take k).flatMap fun a => cfL a Gs).length oc) ((T.take k).flatMap fun a => cfL a Gs).length (ivs ((T.take k).flatMap fun a => cfL a Gs))) := fun w' hb => own_bl HOr.out hb
  clear hab HOr
  obtain ⟨L, hL⟩ : ∃ L, (T.take k).flatMap (fun a => cfL a Gs) = L := ⟨_, rfl⟩
  rw [hL] at HN hfl HOl ⊢
  clear hL
  go_wp2_with (first
    | (go_at_call 50; refine calls_at HC.out (by with_reducible rfl) (by with_reducible rfl) ?_; intro e w4 hh; (obtain ⟨v4, h1, h2, h3⟩ := hh); subst h1; (obtain ⟨va, vc, hv⟩ := own_slice h2); subst hv; (have HS4 : Hid (SrcAt w4 (.slice va (cfL a Gs).length vc) (cfL a Gs).length 7 (ivs (cfL a Gs))) := ivs_src h2); (have HB4 : Hid (Below wr.heap.size wr w4) := h3); clear h2 h3; (have HS5 : Hid (w3.heap.size ≤ w4.heap.size) := Nat.le_trans HBr.out.size HB4.out.size))
    | (at_builtin; refine append_src w4 rfl (.tmp 19) (.tmp 22) 68 76 (.agg #[.int .i64 0, .int .i64 0, .int .u8 0, .int .u8 0, .int .u8 0, .int .u8 0, .int .i64 0]) 7 32 rfl und68 info76 rfl (by decide) w3.heap.size _ _ L.length (cfL a Gs).length (ivs L) (ivs (cfL a Gs)) (by rfl) (by rfl) (HOl.out w4 HB4.out) HS4.out (by unfold maxLen; omega) (by omega) HS5.out ?_; intro v1 w1' ho1 hg1 hn1))
  go_roundw
  case rel =>
    refine ⟨k + 1, by go_num, hkn, ?_, ?_⟩
    · show World.ownsRow _ _ _ _ _ _ _
      rw [HN.out, List.length_append, ivs_append]
      exact ho1
    · exact (bl_next HBr.out HB4.out).grown hg1 HS5.out (fun g hg => ((HOl.out w4 HB4.out).lt g hg).1)
  case measure => simp [intOf]; omega
end Go.Proofs.YtemnbcilmbojhaaGreatDoor
