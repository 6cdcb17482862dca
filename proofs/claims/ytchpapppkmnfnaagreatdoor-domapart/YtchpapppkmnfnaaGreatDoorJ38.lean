/-
  Put together: DrNew, DrOwn, DtPair.
-/
import Derived.Test.YtchpapppkmnfnaaGreatDoorJ21
import Derived.Test.YtchpapppkmnfnaaGreatDoorJ36
import Derived.Test.YtchpapppkmnfnaaGreatDoorDmMark
import Derived.Test.YtchpapppkmnfnaaGreatDoorJ17
import Derived.Test.YtchpapppkmnfnaaGreatDoorJ06
import Derived.Test.YtchpapppkmnfnaaGreatDoorJ15
import Derived.BigGuardPart
import Derived.Test.YtchpapppkmnfnaaGreatDoorDrReads
import Derived.Test.YtchpapppkmnfnaaGreatDoorJ20
import Derived.Test.YtchpapppkmnfnaaGreatDoorDmCut
import Derived.Test.YtchpapppkmnfnaaGreatDoorDmCopied
namespace Go.Proofs.YtchpapppkmnfnaaGreatDoor
open Go.RowKit

def newLL (m : Md.Mo) : List (List Int) := if (Md.check m).2 = 0 then m.vars.map (fun v => spanL v.lo v.hi) else []
/-- A store that is being made. -/
def NwAt (n r : Nat) (w : World) (LL : List (List Int)) : Prop := ∃ dv cs, w.heap[r]? = some (.cells #[dv, .slice none 0 0] 92 (0, 0)) ∧ w.ownsRow n 42 1 dv LL.length cs ∧ ∀ i (h : i < LL.length), ∃ u, cs[i]? = some u ∧ w.ownsRow n 3 1 u LL[i].length (LL[i].map (.int .i64))
theorem own_belowR {w w' : World} {B : Nat} {e : TypeId} {size : Nat} {v : Value} {n : Nat} {xs : List Value} (h : w.ownsRow B e size v n xs) (hb : Below w.heap.size w w') : w'.ownsRow B e size v n xs := own_keep h fun g hg => hb.block g (h.lt g hg).2
theorem NwAt.below {n r : Nat} {w w' : World} {LL : List (List Int)} (h : NwAt n r w LL) (hb : Below w.heap.size w w') : NwAt n r w' LL := by
  obtain ⟨dv, cs, h1, h2, h3⟩ := h
  refine ⟨dv, cs, (hb.block r (Array.getElem?_eq_some_iff.1 h1).1).trans h1, own_belowR h2 hb, fun i hi => ?_⟩
  obtain ⟨u, hu, hl⟩ := h3 i hi
  exact ⟨u, hu, own_belowR hl hb⟩
theorem NwAt.done {n r : Nat} {w : World} {LL : List (List Int)} (h : NwAt n r w LL) (hr : n ≤ r) (hf : Few LL) : RsAt n (fun k => n ≤ k ∧ k < w.heap.size) w r LL [] := by
  obtain ⟨dv, cs, h1, h2, h3⟩ := h
  refine ⟨⟨dv, .slice none 0 0, h1, ⟨cs, own_lessR h2 (Nat.zero_le _), fun g hg => h2.lt g hg, fun i hi => ?_⟩, ⟨[], World.ownsRow_nil _ _ _ _, (fun g hg => by cases hg), fun i hi => absurd hi (Nat.not_lt_zero _)⟩⟩, ⟨hr, (Array.getElem?_eq_some_iff.1 h1).1⟩, fun k hk => hk.1, fun k hk => hk.2, hf, (fun M hM => by cases hM), Nat.zero_le _⟩
  obtain ⟨u, hu, hl⟩ := h3 i hi
  exact ⟨u, hu, own_lessR hl (Nat.zero_le _), fun g hg => hl.lt g hg⟩
/-- One list more. -/
theorem NwAt.next {n r : Nat} {w w' : World} {LL : List (List Int)} {dv u v' : Value} {cs : List Value} {L : List Int} (h1 : w.heap[r]? = some (.cells #[dv, .slice none 0 0] 92 (0, 0))) (h2 : w.ownsRow n 42 1 dv LL.length cs) (h3 : ∀ i (h : i < LL.length), ∃ u, cs[i]? = some u ∧ w.ownsRow n 3 1 u LL[i].length (LL[i].map (.int .i64)))
    (hu : w.ownsRow n 3 1 u L.length (L.map (.int .i64))) (ho : w'.ownsRow n 42 1 v' (LL.length + 1) (cs ++ [u])) (hg : (w.alloc (.cells #[u] 42)).grownBy w' dv.ownBlock) : NwAt n r (w'.setCell ⟨r, 0, none⟩ v') (LL ++ [L]) ∧ w'.heap[r]? = some (.cells #[dv, .slice none 0 0] 92 (0, 0)) := by
  have hcl : cs.length = LL.length := by have := h2.1; omega
  have hT : ∀ (g : Nat) (cur : Array Value) (t : TypeId), t ≠ 42 → w.heap[g]? = some (.cells cur t (0, 0)) → w'.heap[g]? = some (.cells cur t (0, 0)) := fun g cur t ht hc => by
    have hlt := (Array.getElem?_eq_some_iff.1 hc).1
    rw [hg.block g (by simp; omega) (fun e => ?_), heap_alloc_old w _ hlt]
    · exact hc
    · obtain ⟨cur', hcur'⟩ := own_type h2 e.symm
      rw [hc] at hcur'
      injection hcur' with hcur'
      injection hcur' with _ e2 _
      exact ht e2
  have hr := hT r _ 92 (by decide) h1
  have hrl := (Array.getElem?_eq_some_iff.1 hr).1
  have row : ∀ {v : Value} {m : Nat} {xs : List Value}, w.ownsRow n 3 1 v m xs → (w'.setCell ⟨r, 0, none⟩ v').ownsRow n 3 1 v m xs := fun {v m xs} hv => by
    refine own_keep hv fun g hgv => ?_
    obtain ⟨cur, hcur⟩ := own_type hv hgv
    have e := hT g cur 3 (by decide) hcur
    rw [heap_setCell_other _ _ _ _ (fun e1 => ?_), e, hcur]
    subst e1
    rw [h1] at hcur
    injection hcur with hcur
    injection hcur with _ e2 _
    cases e2
  refine ⟨⟨v', cs ++ [u], ?_, ?_, fun i hi => ?_⟩, hr⟩
  · rw [heap_setCell_same _ _ _ _ _ _ hr]
    rfl
  · rw [List.length_append]
    refine own_keep ho fun g hgv => heap_setCell_other _ _ _ _ fun e1 => ?_
    subst e1
    obtain ⟨cur, hcur⟩ := own_type ho hgv
    rw [hr] at hcur
    injection hcur with hcur
    injection hcur with _ e2 _
    cases e2
  · rw [List.length_append, List.length_singleton] at hi
    by_cases hil : i < LL.length
    · obtain ⟨x, hx, hl⟩ := h3 i hil
      refine ⟨x, by rw [List.getElem?_append_left (by omega)]; exact hx, ?_⟩
      rw [List.getElem_append_left hil]
      exact row hl
    · have : i = LL.length := by omega
      subst this
      refine ⟨u, by rw [List.getElem?_append_right (by omega), hcl]; simp, ?_⟩
      rw [List.getElem_append_right (Nat.le_refl _)]
      simp only [Nat.sub_self, List.getElem_singleton]
      exact row hu
def spN (lo : Int) (k : Nat) : List Int := (List.range k).map fun j : Nat => lo + (j : Int)
theorem spN_succ (lo : Int) (k : Nat) : spN lo (k + 1) = spN lo k ++ [lo + (k : Int)] := by unfold spN; rw [List.range_succ, List.map_append]; rfl
theorem spN_len (lo : Int) (k : Nat) : (spN lo k).length = k := by simp [spN]
def RnOut (m : Md.Mo) (w : World) (e : Ending) (w' : World) : Prop := ∃ r S, e = .returned (.pointer (some ⟨r, 0, none⟩)) ∧ RsAt w.heap.size S w' r (newLL m) [] ∧ Below w.heap.size w w'

set_option maxRecDepth 10000 in
set_option maxHeartbeats 1000000 in
theorem rNew_any (m : Md.Mo) (vv vc vg : Value) (w : World) (h : MoAt w m vv vc vg) : Calls Tryz.prog 8 #[moVal m vv vc vg] w (RnOut m w) := by
  obtain ⟨W, hW⟩ : ∃ W, (w.alloc (.cells #[vv, vc, .bool m.has, vg] 26)).alloc (.cells #[.slice none 0 0, .slice none 0 0] 92) = W := ⟨_, rfl⟩
  have hb0 : Below w.heap.size w W := by rw [← hW]; exact ((Below.refl _ _).alloc (Nat.le_refl _) _).alloc (by simp) _
  have HB : Hid (Below w.heap.size w W) := hb0
  have g0 : W.heap[w.heap.size]? = some (.cells #[vv, vc, .bool m.has, vg] 26 (0, 0)) := by rw [← hW, heap_alloc_old (w.alloc _) _ (by simp)]; exact heap_alloc_new w _
  have g1 : W.heap[w.heap.size + 1]? = some (.cells #[.slice none 0 0, .slice none 0 0] 92 (0, 0)) := by rw [← hW]; exact heap_alloc2_new w _ _
  have hlt := (Array.getElem?_eq_some_iff.1 g0).1
  have HM : Hid (MoAt w m vv vc vg) := h
  have HCh : Hid (Calls Tryz.prog 32 #[.agg #[vv, vc, .bool m.has, vg]] W fun e w' => e = .returned (.tuple #[.int .i64 (Md.check m).1, .int .i64 (Md.check m).2]) ∧ Below W.heap.size W w') := Doc.refCheck_any m vv vc vg W (h.below hb0)
  have HE0 : Hid (∀ w', Below W.heap.size W w' → NwAt w.heap.size (w.heap.size + 1) w' []) := fun w' hb => ⟨_, [], (hb.block _ (Array.getElem?_eq_some_iff.1 g1).1).trans g1, World.ownsRow_nil _ _ _ _, fun i hi => absurd hi (Nat.not_lt_zero _)⟩
  have HV0 : Hid (∀ w', Off (fun k => k ≠ w.heap.size ∧ w.heap.size ≤ k) W w' → w'.heap[w.heap.size]? = some (.cells #[vv, vc, .bool m.has, vg] 26 (0, 0))) := fun w' ho => (ho.block _ hlt (fun e => e.1 rfl)).trans g0
  have c0 : W.cell? ⟨w.heap.size, 0, none⟩ = some vv := cell_of g0 0
  have c1 : W.cell? ⟨w.heap.size, 1, none⟩ = some vc := cell_of g0 1
  have c2 : W.cell? ⟨w.heap.size, 2, none⟩ = some (.bool m.has) := cell_of g0 2
  have c3 : W.cell? ⟨w.heap.size, 3, none⟩ = some vg := cell_of g0 3
  obtain ⟨va, vp, rfl, hvm, _, hvo⟩ := id HM.out.v
  clear hb0 g0 g1 hlt h
  unfold moVal
  go_enter Tryz.func8, Tryz.ntmps8
  go_wp2_with fail
  refine calls_at HCh.out (by with_reducible rfl) (by with_reducible rfl) ?_
  rintro e w1 ⟨rfl, hb1⟩
  have HB1 : Hid (Below W.heap.size W w1) := hb1
  clear hb1 c0 c1 c2 c3 hW
  by_cases hok : (Md.check m).2 = 0
  · have hR := Md.right_of hok
    have HNs : Hid (newLL m = m.vars.map (fun v => spanL v.lo v.hi)) := by show _ = _; unfold newLL; rw [if_pos hok]
    have hn := hR.nv
    have HOk : Hid (∀ v ∈ m.vars, Md.boundsB v.lo v.hi = true) := fun v hv => (hR.var v hv).2
    clear hR
    have HVC : Hid (∀ w', Below w.heap.size w w' → ∀ j (hj : j < m.vars.length), ∃ b off, va = some ⟨b, off, none⟩ ∧ w'.cell? ⟨b, off + j * 3 + 1, none⟩ = some (.int .i64 m.vars[j].lo) ∧ w'.cell? ⟨b, off + j * 3 + 2, none⟩ = some (.int .i64 m.vars[j].hi)) := fun w' hb j hj => by
      obtain ⟨b, off, e1, e2, e3⟩ := hvo (by omega)
      obtain ⟨f1, f2, f3⟩ := e3 j hj
      exact ⟨b, off, e1, (hb.cell (p := ⟨b, off + j * 3 + 1, none⟩) e2).trans f2, (hb.cell (p := ⟨b, off + j * 3 + 2, none⟩) e2).trans f3⟩
    clear hvo
    rw [hok]
    clear hok
    go_wp2_with fail
    go_loopw [6] (fun iv wr => ∃ (k : Nat), iv = .int .i64 (k : Int) ∧ k ≤ m.vars.length ∧ Hid (NwAt w.heap.size (w.heap.size + 1) wr ((m.vars.take k).map (fun v => spanL v.lo v.hi))) ∧ Hid (Below w.heap.size w wr) ∧ Hid (Off (fun k => k ≠ w.heap.size ∧ w.heap.size ≤ k) W wr)) (fun iv _ => m.vars.length - (intOf iv).toNat)
    case atStart => exact ⟨0, rfl, Nat.zero_le _, HE0.out w1 HB1.out, HB.out.trans (HB1.out.mono HB.out.size), Off.of_below HB1.out⟩
    case round =>
      obtain ⟨k, rfl, hk, HAr, HBr, HOr⟩ := hrel
      have y0 : wr.cell? ⟨w.heap.size, 0, none⟩ = some (.slice va m.vars.length vp) := cell_of (HV0.out wr HOr.out) 0
      by_cases hkn : k < m.vars.length
      · have hkI : (k : Int) < (m.vars.length : Int) := by omega
        obtain ⟨b, off, rfl, x1, x2⟩ := HVC.out wr HBr.out k hkn
        have HTk : Hid ((m.vars.take (k + 1)).map (fun v => spanL v.lo v.hi) = (m.vars.take k).map (fun v => spanL v.lo v.hi) ++ [spanL m.vars[k].lo m.vars[k].hi]) := by show _ = _; rw [List.take_succ_eq_append_getElem hkn, List.map_append]; rfl
        have hbd := HOk.out m.vars[k] (List.getElem_mem hkn)
        have HVk : Hid (∀ w', Below wr.heap.size wr w' → w'.cell? ⟨w.heap.size, 0, none⟩ = some (.slice (some ⟨b, off, none⟩) m.vars.length vp) ∧ w'.cell? ⟨b, off + k * 3 + 2, none⟩ = some (.int .i64 m.vars[k].hi)) := fun w' hb => by
          refine ⟨cell_of (HV0.out w' (HOr.out.trans (Off.of_below hb))) 0, ?_⟩
          obtain ⟨b', off', e, _, x⟩ := HVC.out w' (HBr.out.trans (hb.mono HBr.out.size)) k hkn
          injection e with e
          injection e with e1 e2
          subst e1 e2
          exact x
        obtain ⟨v, hv⟩ : ∃ v, m.vars[k] = v := ⟨_, rfl⟩
        rw [hv] at x1 x2 HTk hbd HVk
        clear hv
        have hbb := Md.bounds_of hbd
        go_wp2_with fail
        have HSp : Hid (spanL v.lo v.hi = spN v.lo (v.hi - v.lo + 1).toNat) := rfl
        obtain ⟨n, hnn⟩ : ∃ n : Nat, (v.hi - v.lo + 1).toNat = n := ⟨_, rfl⟩
        rw [hnn] at HSp
        have hnn' : (n : Int) = v.hi - v.lo + 1 := by omega
        go_loopw [7, 8] (fun lv iv wz => ∃ (j : Nat) (ov : Value), lv = ov ∧ iv = .int .i64 (v.lo + (j : Int)) ∧ j ≤ n ∧ Hid (wz.ownsRow wr.heap.size 3 1 ov j ((spN v.lo j).map (.int .i64))) ∧ Hid (Below wr.heap.size wr wz)) (fun _ iv _ => (v.hi + 1 - intOf iv).toNat)
        case atStart => exact ⟨0, _, rfl, by simp, Nat.zero_le _, World.ownsRow_nil _ _ _ _, Below.refl _ _⟩
        case round =>
          obtain ⟨j, _, rfl, rfl, hj, HO, HBz⟩ := hrel
          rename World => wz
          obtain ⟨z0, z2⟩ := HVk.out wz HBz.out
          by_cases hjn : j < n
          · have hjI : v.lo + (j : Int) ≤ v.hi := by omega
            have HSu : Hid (spN v.lo (j + 1) = spN v.lo j ++ [v.lo + (j : Int)]) := spN_succ _ _
            go_wp2_with (first
              | (at_builtin; refine append_one wz (.int .i64 (v.lo + (j : Int))) rfl _ _ 42 3 (.int .i64 0) 8 rfl un53 inf3 rfl wr.heap.size _ _ _ (by rfl) HO.out rfl _ rfl (by rfl) (by unfold maxLen; omega) (by omega) HBz.out.size ?_; intro v6 w6 ho6 hg6 hn6))
            have HO6 : Hid (w6.ownsRow wr.heap.size 3 1 v6 (j + 1) ((spN v.lo (j + 1)).map (.int .i64))) := by
              show World.ownsRow _ _ _ _ _ _ _
              rw [HSu.out, List.map_append]
              exact ho6
            have HB6 : Hid (Below wr.heap.size wr w6) := (HBz.out.alloc HBz.out.size _).grown hg6 (Nat.le_trans HBz.out.size (by simp)) (fun g hg => (HO.out.lt g hg).1)
            clear ho6 hg6 hn6
            have e1 : IntKind.i64.wrap (v.lo + (j : Int) + 1) = v.lo + ((j + 1 : Nat) : Int) := by rw [wrap_id (by omega) (by omega)]; omega
            go_wp2_with fail
            go_roundw
            case rel => exact ⟨j + 1, v6, rfl, by first | rfl | go_num | (rw [← e1]; rfl), hjn, HO6, HB6⟩
            case measure => simp [intOf]; omega
          · have hje : j = n := by omega
            subst hje
            have hjI : ¬ v.lo + (j : Int) ≤ v.hi := by omega
            have HAz : Hid (NwAt w.heap.size (w.heap.size + 1) wz ((m.vars.take k).map (fun v => spanL v.lo v.hi))) := HAr.out.below HBz.out
            obtain ⟨dv, cs, a1, a2, a3⟩ := id HAz.out
            have HA1 : Hid (wz.heap[w.heap.size + 1]? = some (.cells #[dv, .slice none 0 0] 92 (0, 0)) ∧ wz.ownsRow w.heap.size 42 1 dv ((m.vars.take k).map (fun v => spanL v.lo v.hi)).length cs ∧ ∀ i (h : i < ((m.vars.take k).map (fun v => spanL v.lo v.hi)).length), ∃ u, cs[i]? = some u ∧ wz.ownsRow w.heap.size 3 1 u ((m.vars.take k).map (fun v => spanL v.lo v.hi))[i].length (((m.vars.take k).map (fun v => spanL v.lo v.hi))[i].map (.int .i64))) := ⟨a1, a2, a3⟩
            have p0 : wz.cell? ⟨w.heap.size + 1, 0, none⟩ = some dv := cell_of a1 0
            have pz : ∀ i, wz.frozen? ⟨w.heap.size + 1, i, none⟩ = false := frozen_of a1
            have HU : Hid (wz.ownsRow w.heap.size 3 1 u7 (spanL v.lo v.hi).length ((spanL v.lo v.hi).map (.int .i64))) := by
              show World.ownsRow _ _ _ _ _ _ _
              rw [HSp.out, spN_len]
              exact own_lessR HO.out HBr.out.size
            have HKl : ((m.vars.take k).map (fun v => spanL v.lo v.hi)).length = k := by rw [List.length_map, List.length_take]; omega
            have HBw : Hid (Below w.heap.size w wz) := HBr.out.trans (HBz.out.mono HBr.out.size)
            obtain ⟨ua, uc, rfl⟩ : ∃ ua uc, u7 = .slice ua j uc := by
              rcases HO.out.2 with ⟨e, e2⟩ | ⟨g', cap', _, e, _⟩
              · exact ⟨none, 0, by rw [e, e2]⟩
              · exact ⟨_, _, e⟩
            have HNe : Hid (∀ g, dv.ownBlock = some g → g ≠ w.heap.size ∧ w.heap.size ≤ g) := fun g hg => by
              refine ⟨fun e => ?_, (a2.lt g hg).1⟩
              obtain ⟨cur, hcur⟩ := own_type a2 hg
              rw [e, HV0.out wz (HOr.out.trans (Off.of_below HBz.out))] at hcur
              injection hcur with hcur
              injection hcur with _ e2 _
              cases e2
            clear a1 a2 a3
            go_wp2_with (first
              | (at_builtin; refine append_one wz (.slice ua j uc) rfl _ _ 41 42 (.slice none 0 0) 24 rfl un63 inf53 rfl w.heap.size _ _ _ (by rfl) HA1.out.2.1 rfl _ rfl (by rfl) (by unfold maxLen; omega) (by omega) HBw.out.size ?_; intro v6 w6 ho6 hg6 hn6; obtain ⟨a6, c6, rfl⟩ := own_slice ho6; (have hnx := NwAt.next HA1.out.1 HA1.out.2.1 HA1.out.2.2 HU.out ho6 hg6); (have HNx : Hid (NwAt w.heap.size (w.heap.size + 1) (w6.setCell ⟨w.heap.size + 1, 0, none⟩ (.slice a6 _ c6)) ((m.vars.take k).map (fun v => spanL v.lo v.hi) ++ [spanL v.lo v.hi])) := hnx.1); (have q0 : w6.cell? ⟨w.heap.size + 1, 0, none⟩ = some dv := cell_of hnx.2 0); (have qz : ∀ i, w6.frozen? ⟨w.heap.size + 1, i, none⟩ = false := frozen_of hnx.2); (have HB6 : Hid (Below w.heap.size w w6) := (HBw.out.alloc HBw.out.size _).grown hg6 (Nat.le_trans HBw.out.size (by simp)) (fun g hg => (HA1.out.2.1.lt g hg).1)); (have HO6 : Hid (Off (fun k => k ≠ w.heap.size ∧ w.heap.size ≤ k) W w6) := (HOr.out.trans (Off.of_below HBz.out)).trans ((Off.of_below ((Below.refl _ _).alloc (Nat.le_refl _) _)).trans (Off.grown hg6 (fun g hg => HNe.out g hg)))); clear hnx ho6 hg6 hn6))
            go_roundw
            case rel => exact ⟨k + 1, by go_num, hkn, by rw [HTk.out]; have := HNx.out; rw [HKl] at this; exact this, HB6.out.setCell (Nat.le_succ _) _, HO6.out.trans (Off.set _ ⟨by omega, Nat.le_succ _⟩)⟩
            case measure => simp [intOf]; omega
      · have hke : k = m.vars.length := by omega
        subst hke
        rw [List.take_length, ← HNs.out] at HAr
        have hkI : ¬ (m.vars.length : Int) < (m.vars.length : Int) := by omega
        go_wp2_with fail
        go_ret
        refine ⟨_, _, rfl, HAr.out.done (Nat.le_succ _) ⟨?_, ?_⟩, HBr.out⟩
        · rw [HNs.out, List.length_map]; exact hn.2
        · intro L hL
          rw [HNs.out] at hL
          obtain ⟨v, hv, rfl⟩ := List.mem_map.1 hL
          have := Md.bounds_of (HOk.out v hv)
          simp [spanL]
          omega
  · have hok' : ((Md.check m).2 == 0) = false := by simpa using hok
    have HNs : Hid (newLL m = []) := by show _ = _; unfold newLL; rw [if_neg hok]
    go_wp2_with fail
    go_loopw [6] (fun iv wr => iv = .int .i64 0 ∧ w1 = wr) (fun _ _ => 0)
    case atStart => exact ⟨rfl, rfl⟩
    case round =>
      obtain ⟨rfl, rfl⟩ := hrel
      have y0 : w1.cell? ⟨w.heap.size, 0, none⟩ = some (.slice va m.vars.length vp) := cell_of (HV0.out w1 (Off.of_below HB1.out)) 0
      by_cases hl : 0 < m.vars.length
      · have hlI : (0 : Int) < (m.vars.length : Int) := by omega
        go_wp2_with fail
        go_ret
        exact ⟨_, _, rfl, by rw [HNs.out]; exact (HE0.out w1 HB1.out).done (Nat.le_succ _) ⟨Nat.zero_le _, fun L hL => by cases hL⟩, HB.out.trans (HB1.out.mono HB.out.size)⟩
      · have hlI : ¬ (0 : Int) < (m.vars.length : Int) := by omega
        go_wp2_with fail
        go_ret
        exact ⟨_, _, rfl, by rw [HNs.out]; exact (HE0.out w1 HB1.out).done (Nat.le_succ _) ⟨Nat.zero_le _, fun L hL => by cases hL⟩, HB.out.trans (HB1.out.mono HB.out.size)⟩
end Go.Proofs.YtchpapppkmnfnaaGreatDoor

namespace Go.Proofs.YtchpapppkmnfnaaGreatDoor
open Go.RowKit

/-- Lists in blocks that are n or more. -/
def FrR (n : Nat) (w : World) (u : Value) (LL : List (List Int)) : Prop := ∃ cs, w.ownsRow n 42 1 u LL.length cs ∧ ∀ i (h : i < LL.length), ∃ x, cs[i]? = some x ∧ w.ownsRow n 3 1 x LL[i].length (LL[i].map (.int .i64))
theorem FrR.below {n : Nat} {w w' : World} {u : Value} {LL : List (List Int)} (h : FrR n w u LL) (hb : Below w.heap.size w w') : FrR n w' u LL := by
  obtain ⟨cs, h2, h3⟩ := h
  refine ⟨cs, own_belowR h2 hb, fun i hi => ?_⟩
  obtain ⟨x, hx, hl⟩ := h3 i hi
  exact ⟨x, hx, own_belowR hl hb⟩
theorem FrR.nil (n : Nat) (w : World) : FrR n w (.slice none 0 0) [] := ⟨[], World.ownsRow_nil _ _ _ _, fun _ hi => absurd hi (Nat.not_lt_zero _)⟩
theorem FrR.lss {n : Nat} {S : Nat → Prop} {w : World} {u : Value} {LL : List (List Int)} (h : FrR n w u LL) (hS : ∀ k, n ≤ k → k < w.heap.size → S k) : LssR S w u LL := by
  obtain ⟨cs, h2, h3⟩ := h
  refine ⟨cs, own_lessR h2 (Nat.zero_le _), fun g hg => hS g (h2.lt g hg).1 (h2.lt g hg).2, fun i hi => ?_⟩
  obtain ⟨x, hx, hl⟩ := h3 i hi
  exact ⟨x, hx, own_lessR hl (Nat.zero_le _), fun g hg => hS g (hl.lt g hg).1 (hl.lt g hg).2⟩
theorem FrR.lo {n : Nat} {w : World} {u : Value} {LL : List (List Int)} (h : FrR n w u LL) {g : Nat} (hg : u.ownBlock = some g) : n ≤ g ∧ g < w.heap.size := by
  obtain ⟨cs, h2, _⟩ := h
  exact h2.lt g hg
theorem FrR.next {n : Nat} {w w' : World} {LL : List (List Int)} {ov u v' : Value} {L : List Int} {cs : List Value} (h2 : w.ownsRow n 42 1 ov LL.length cs) (h3 : ∀ i (h : i < LL.length), ∃ x, cs[i]? = some x ∧ w.ownsRow n 3 1 x LL[i].length (LL[i].map (.int .i64)))
    (hu : w.ownsRow n 3 1 u L.length (L.map (.int .i64))) (ho : w'.ownsRow n 42 1 v' (LL.length + 1) (cs ++ [u])) (hg : (w.alloc (.cells #[u] 42)).grownBy w' ov.ownBlock) : FrR n w' v' (LL ++ [L]) := by
  have hcl : cs.length = LL.length := by have := h2.1; omega
  have row : ∀ {v : Value} {m : Nat} {xs : List Value}, w.ownsRow n 3 1 v m xs → w'.ownsRow n 3 1 v m xs := fun {v m xs} hv => by
    refine own_keep hv fun g hgv => ?_
    obtain ⟨cur, hcur⟩ := own_type hv hgv
    have hlt := (Array.getElem?_eq_some_iff.1 hcur).1
    rw [hg.block g (by simp; omega) (fun e => ?_), heap_alloc_old w _ hlt]
    obtain ⟨cur', hcur'⟩ := own_type h2 e.symm
    rw [hcur] at hcur'
    injection hcur' with hcur'
    injection hcur' with _ e2 _
    cases e2
  refine ⟨cs ++ [u], by rw [List.length_append]; exact ho, fun i hi => ?_⟩
  rw [List.length_append, List.length_singleton] at hi
  by_cases hil : i < LL.length
  · obtain ⟨x, hx, hl⟩ := h3 i hil
    refine ⟨x, by rw [List.getElem?_append_left (by omega)]; exact hx, ?_⟩
    rw [List.getElem_append_left hil]
    exact row hl
  · have : i = LL.length := by omega
    subst this
    refine ⟨u, by rw [List.getElem?_append_right (by omega), hcl]; simp, ?_⟩
    rw [List.getElem_append_right (Nat.le_refl _)]
    simp only [Nat.sub_self, List.getElem_singleton]
    exact row hu
def OwOut (LL : List (List Int)) (w : World) (e : Ending) (w' : World) : Prop := ∃ u, e = .returned u ∧ FrR w.heap.size w' u LL ∧ Below w.heap.size w w'

set_option maxRecDepth 10000 in
set_option maxHeartbeats 1000000 in
theorem own_any {S : Nat → Prop} {v : Value} {LL : List (List Int)} (w : World) (h : LssR S w v LL) (hS : ∀ k, S k → k < w.heap.size) (hf : Few LL) : Calls Tryz.prog 80 #[v] w (OwOut LL w) := by
  obtain ⟨a, cap, rfl, hr⟩ := h.form
  have HR : Hid (∀ w', Below w.heap.size w w' → ∀ j (hj : j < LL.length), ∃ g u, a = some ⟨g, 0, none⟩ ∧ w'.cell? ⟨g, j, none⟩ = some u ∧ LsR S w' u LL[j]) := fun w' hb j hj => by
    obtain ⟨g, u, e, h1, h2, h3, _⟩ := hr j hj
    exact ⟨g, u, e, (hb.cell (p := ⟨g, j, none⟩) (hS g h1)).trans h2, h3.keep fun k hk => hb.block k (hS k hk)⟩
  have hn := hf.n
  have HLn : Hid (∀ j (hj : j < LL.length), LL[j].length ≤ 64) := fun j hj => hf.ls _ (List.getElem_mem hj)
  have HNil : Hid (∀ (w : World) (B : Nat) (e : TypeId) (s : Nat), w.ownsRow B e s (.slice none 0 0) 0 []) := fun w B e s => World.ownsRow_nil w B e s
  clear h hr hS hf
  go_enter Tryz.func80, Tryz.ntmps80
  go_wp2_with fail
  go_loopw [3, 4] (fun oq iv wr => ∃ (k : Nat) (ov : Value), oq = ov ∧ iv = .int .i64 (k : Int) ∧ k ≤ LL.length ∧ Hid (FrR w.heap.size wr ov (LL.take k)) ∧ Hid (Below w.heap.size w wr)) (fun _ iv _ => LL.length - (intOf iv).toNat)
  case atStart => exact ⟨0, _, rfl, rfl, Nat.zero_le _, FrR.nil _ _, Below.refl _ _⟩
  case round =>
    obtain ⟨k, _, rfl, rfl, hk, HF, HBr⟩ := hrel
    by_cases hkn : k < LL.length
    · have hkI : (k : Int) < (LL.length : Int) := by omega
      obtain ⟨g, u, rfl, c0, hl⟩ := HR.out wr HBr.out k hkn
      have hl64 := HLn.out k hkn
      have HTk : Hid (LL.take (k + 1) = LL.take k ++ [LL[k]]) := List.take_succ_eq_append_getElem hkn
      have HSr := ls_src hl
      obtain ⟨la, lc, rfl, _⟩ := hl.form
      obtain ⟨L, hLL⟩ : ∃ L, LL[k] = L := ⟨_, rfl⟩
      rw [hLL] at hl64 HTk HSr c0
      have HSrc : Hid (SrcAt wr (.slice la L.length lc) L.length 1 (L.map (.int .i64))) := HSr
      have HKl : Hid ((LL.take k).length = k) := by show _ = _; rw [List.length_take]; omega
      clear HSr hl hLL
      go_wp2_with (first
        | (at_builtin; refine append_src wr rfl (.const (.slice none 0 0)) (.tmp 15) 42 3 (.int .i64 0) 1 8 rfl un53 inf3 rfl (by decide) wr.heap.size _ _ 0 L.length [] _ (by rfl) (by rfl) (HNil.out _ _ _ _) HSrc.out (by unfold maxLen; omega) (by omega) (Nat.le_refl _) ?_; intro v2 w2 ho2 hg2 hn2; rw [Nat.zero_add, List.nil_append] at ho2; obtain ⟨a2, c2, rfl⟩ := own_slice ho2; (have hbx : Below wr.heap.size wr w2 := (Below.refl _ _).grown hg2 (Nat.le_refl _) (fun g hg => by cases hg)); (have HB2 : Hid (Below w.heap.size w w2) := HBr.out.trans (hbx.mono HBr.out.size)); (have HU2 : Hid (w2.ownsRow w.heap.size 3 1 (.slice a2 L.length c2) L.length (L.map (.int .i64))) := own_lessR ho2 HBr.out.size); obtain ⟨cs, k2, k3⟩ := HF.out.below hbx; (have HK : Hid (w2.ownsRow w.heap.size 42 1 u3 (LL.take k).length cs ∧ ∀ i (h : i < (LL.take k).length), ∃ x, cs[i]? = some x ∧ w2.ownsRow w.heap.size 3 1 x (LL.take k)[i].length ((LL.take k)[i].map (.int .i64))) := ⟨k2, k3⟩); clear ho2 hg2 hn2 hbx k2 k3)
        | (at_builtin; refine append_one w2 (.slice a2 L.length c2) rfl _ _ 41 42 (.slice none 0 0) 24 rfl un63 inf53 rfl w.heap.size _ _ _ (by rfl) HK.out.1 rfl _ rfl (by rfl) (by rw [HKl.out]; unfold maxLen; omega) (by rw [HKl.out]; omega) HB2.out.size ?_; intro v6 w6 ho6 hg6 hn6; (have HF6 : Hid (FrR w.heap.size w6 v6 (LL.take k ++ [L])) := FrR.next HK.out.1 HK.out.2 HU2.out ho6 hg6); (have HB6 : Hid (Below w.heap.size w w6) := (HB2.out.alloc HB2.out.size _).grown hg6 (Nat.le_trans HB2.out.size (by simp)) (fun g hg => (HK.out.1.lt g hg).1)); clear ho6 hg6 hn6))
      go_roundw
      case rel => exact ⟨k + 1, v6, rfl, by go_num, hkn, by rw [HTk.out]; exact HF6, HB6⟩
      case measure => simp [intOf]; omega
    · have hke : k = LL.length := by omega
      subst hke
      have hkI : ¬ (LL.length : Int) < (LL.length : Int) := by omega
      rw [List.take_length] at HF
      go_wp2_with fail
      go_ret
      exact ⟨_, rfl, HF.out, HBr.out⟩
end Go.Proofs.YtchpapppkmnfnaaGreatDoor

namespace Go.Proofs.YtchpapppkmnfnaaGreatDoor
open Go.RowKit

theorem own_lt {B : Nat} {w : World} {p : Nat} {nv mv : Value} {s : St} (h : StAt B w p nv mv s) {k : Nat} (hk : Own p nv mv k) : k < w.heap.size := by
  rcases hk with h1 | h1 | h1
  · rw [h1]; exact h.lt
  · exact (row_lt h.n h1).2
  · exact (row_lt h.m h1).2
theorem own_lo {B : Nat} {w : World} {p : Nat} {nv mv : Value} {s : St} (h : StAt B w p nv mv s) {k : Nat} (hk : Own p nv mv k) : B ≤ k := by
  rcases hk with h1 | h1 | h1
  · rw [h1]; exact h.p1
  · exact (row_lt h.n h1).1
  · exact (row_lt h.m h1).1
/-- What the marks noted, as lists. -/
def mksOf (s : St) : List (List (List Int)) := (List.range s.marks).map fun i => ((s.noted.drop (i * s.now.length)).take s.now.length).map Dm.all
def AllsM (s : St) : Prop := ∀ d ∈ s.noted, d.Ok ∧ d.Any
/-- A cut, of lists as of words. -/
theorem cut_rel {s : St} (h : Alls s) (k x v : Int) : (s.cut k x v).now.map Dm.all = cutLL (s.now.map Dm.all) k x v ∧ s.went k x v = wentLL (s.now.map Dm.all) k x v ∧ s.may k x v = mayLL (s.now.map Dm.all) k x v := by
  cases hi : isB s.now.length x with
  | false =>
    obtain ⟨e1, e2, e3⟩ := cut_no (k := k) (v := v) hi
    obtain ⟨f1, f2, f3⟩ := cutLL_no (LL := s.now.map Dm.all) (k := k) (x := x) (v := v) (by rw [List.length_map]; exact hi)
    rw [e1, e2, e3, f1, f2, f3]
    exact ⟨rfl, rfl, rfl⟩
  | true =>
    obtain ⟨q, rfl, hq⟩ : ∃ q : Nat, x = (q : Int) ∧ q < s.now.length := by
      simp [isB] at hi
      exact ⟨x.toNat, by omega, by omega⟩
    obtain ⟨e1, e2, e3⟩ := cut_yes (k := k) (v := v) hq
    obtain ⟨f1, f2, f3⟩ := cutLL_yes (LL := s.now.map Dm.all) (k := k) (v := v) (q := q) (by rw [List.length_map]; exact hq)
    obtain ⟨ho, ha⟩ := h _ (List.getElem_mem hq)
    obtain ⟨g1, g2, g3⟩ := went_is ho ha k v
    have hqm : q < (s.now.map Dm.all).length := by rw [List.length_map]; exact hq
    have hl : lfR k v (s.now.map Dm.all)[q] = lft k v s.now[q].all := by rw [List.getElem_map]; rfl
    rw [e1, e2, e3, f1, f2, f3, hl]
    refine ⟨?_, by rw [g1, List.getElem_map], g2⟩
    cases hw : s.now[q].went k v with
    | true =>
      rw [hw] at g1 g3
      have hE : (lft k v s.now[q].all).isEmpty = false := by
        cases hb : (lft k v s.now[q].all).isEmpty with
        | false => rfl
        | true => rw [hb] at g1; simp at g1
      rw [hE] at g3
      rw [hE]
      simp only [if_true] at g3 ⊢
      simp [g3]
    | false =>
      rw [hw] at g3
      simp only [Bool.false_eq_true, if_false] at g3 ⊢
      cases hb : (lft k v s.now[q].all).isEmpty with
      | true => rfl
      | false =>
        rw [hb] at g3
        simp only [Bool.false_eq_true, if_false] at g3 ⊢
        rw [← g3]
        apply List.ext_getElem?
        intro i
        by_cases e : i = q
        · subst e; simp [hq]
        · rw [List.getElem?_set_ne (by omega)]
theorem cut_mks (s : St) (k x v : Int) : mksOf (s.cut k x v) = mksOf s := by
  obtain ⟨e1, e2, e3⟩ := cut_len s k x v
  unfold mksOf
  rw [e1, e2, e3]
theorem new_rel (m : Md.Mo) : (newS m).now.map Dm.all = newLL m ∧ mksOf (newS m) = [] ∧ AllsM (newS m) := by
  unfold newS newLL
  split
  · rename_i h
    refine ⟨?_, rfl, fun d hd => by cases hd⟩
    simp only [List.map_map]
    exact List.map_congr_left fun v hv => whole_all ((Md.right_of h).var v hv).2
  · exact ⟨rfl, rfl, fun d hd => by cases hd⟩
/-- A pair in memory. -/
structure PaAt (B P : Nat) (O : Nat → Prop) (w : World) (s : St) : Prop where
  ex : ∃ p nv mv r S Bs, w.heap[P]? = some (.cells #[.pointer (some ⟨p, 0, none⟩), .pointer (some ⟨r, 0, none⟩)] 39 (0, 0)) ∧ StAt Bs w p nv mv s ∧ RsAt B S w r (s.now.map Dm.all) (mksOf s) ∧ B ≤ Bs ∧ (∀ k, Own p nv mv k → O k ∧ k ≠ P) ∧ (∀ k, S k → O k ∧ k ≠ P) ∧ ∀ k, Own p nv mv k → ¬ S k
  op : O P
  lo : ∀ k, O k → B ≤ k
  lt : ∀ k, O k → k < w.heap.size
  al : Alls s
  alm : AllsM s
theorem PaAt.keep {B P : Nat} {O : Nat → Prop} {w w' : World} {s : St} (h : PaAt B P O w s) (hz : w.heap.size ≤ w'.heap.size) (hk : ∀ k, O k → w'.heap[k]? = w.heap[k]?) : PaAt B P O w' s := by
  obtain ⟨p, nv, mv, r, S, Bs, h1, h2, h3, h4, h5, h6, h7⟩ := h.ex
  exact { h with
    ex := ⟨p, nv, mv, r, S, Bs, (hk P h.op).trans h1, h2.keep (fun k _ ho => hk k (h5 k ho).1), h3.keep hz (fun k hS => hk k (h6 k hS).1), h4, h5, h6, h7⟩
    lt := fun k hS => Nat.lt_of_lt_of_le (h.lt k hS) hz }
theorem PaAt.below {B P : Nat} {O : Nat → Prop} {w w' : World} {s : St} (h : PaAt B P O w s) (hb : Below w.heap.size w w') : PaAt B P O w' s := h.keep hb.size fun k hk => hb.block k (h.lt k hk)
def PcOut (B P : Nat) (O : Nat → Prop) (s : St) (k x v : Int) (w : World) (e : Ending) (w' : World) : Prop := e = .returned (.bool true) ∧ ∃ O', PaAt B P O' w' (s.cut k x v) ∧ SStp B O w w' ∧ Grown O w w' O'

set_option maxRecDepth 10000 in
set_option maxHeartbeats 1000000 in
theorem plays_cut {B P : Nat} {O : Nat → Prop} {s : St} (k x v n : Int) (w : World) (h : PaAt B P O w s) : Calls Tryz.prog 9 #[.pointer (some ⟨P, 0, none⟩), .agg #[.int .i64 1, .int .i64 k, .int .i64 x, .int .i64 v, .int .i64 n]] w (PcOut B P O s k x v w) := by
  have hBw : B ≤ w.heap.size := Nat.le_of_lt (Nat.lt_of_le_of_lt (h.lo P h.op) (h.lt P h.op))
  obtain ⟨W, hW⟩ : ∃ W, w.alloc (.cells #[.int .i64 1, .int .i64 k, .int .i64 x, .int .i64 v, .int .i64 n] 63) = W := ⟨_, rfl⟩
  have hb0 : Below w.heap.size w W := by rw [← hW]; exact (Below.refl _ _).alloc (Nat.le_refl _) _
  have HB : Hid (Below w.heap.size w W) := hb0
  have g0 : W.heap[w.heap.size]? = some (.cells #[.int .i64 1, .int .i64 k, .int .i64 x, .int .i64 v, .int .i64 n] 63 (0, 0)) := by rw [← hW]; exact heap_alloc_new w _
  have hlt := (Array.getElem?_eq_some_iff.1 g0).1
  have hA := h.below hb0
  obtain ⟨p, nv, mv, r, S, Bs, h1, h2, h3, h4, h5, h6, h7⟩ := hA.ex
  have hPl := hA.lt P hA.op
  have HX : Hid (∀ w', Off (fun k => O k ∧ k ≠ P) W w' → w'.cell? ⟨P, 0, none⟩ = some (.pointer (some ⟨p, 0, none⟩)) ∧ w'.cell? ⟨P, 1, none⟩ = some (.pointer (some ⟨r, 0, none⟩)) ∧ w'.cell? ⟨w.heap.size, 0, none⟩ = some (.int .i64 1) ∧ w'.cell? ⟨w.heap.size, 1, none⟩ = some (.int .i64 k) ∧ w'.cell? ⟨w.heap.size, 2, none⟩ = some (.int .i64 x) ∧ w'.cell? ⟨w.heap.size, 3, none⟩ = some (.int .i64 v) ∧ Off (fun k => O k ∧ k ≠ P) W w') := fun w' ho => by
    have f1 := (ho.block P hPl (fun e => e.2 rfl)).trans h1
    have f0 := (ho.block _ hlt (fun e => by have := h.lt _ e.1; omega)).trans g0
    exact ⟨cell_of f1 0, cell_of f1 1, cell_of f0 0, cell_of f0 1, cell_of f0 2, cell_of f0 3, ho⟩
  obtain ⟨c0, _, c2, _⟩ := HX.out W (Off.refl _ _)
  have HC : Hid (Calls Tryz.prog 21 #[.pointer (some ⟨p, 0, none⟩), .agg #[.int .i64 k, .int .i64 x, .int .i64 v]] W.drew (CutOut Bs p nv mv s k x v W.drew)) := cut_any Bs p nv mv s k x v W.drew (h2.below (Below.refl _ _).drew)
  obtain ⟨e1, e2, e3⟩ := cut_rel h.al k x v
  obtain ⟨bw, hbw⟩ : ∃ b, s.went k x v = b := ⟨_, rfl⟩
  obtain ⟨bm, hbm⟩ : ∃ b, s.may k x v = b := ⟨_, rfl⟩
  have HC2 : Hid (∀ w2, RsAt B S w2 r (s.now.map Dm.all) (mksOf s) → Calls Tryz.prog 33 #[.pointer (some ⟨r, 0, none⟩), .agg #[.int .i64 k, .int .i64 x, .int .i64 v]] w2 fun e w' => e = .returned (.tuple #[.bool bw, .bool bm]) ∧ ∃ S', RsAt B S' w' r ((s.cut k x v).now.map Dm.all) (mksOf (s.cut k x v)) ∧ SStp B S w2 w' ∧ Grown S w2 w' S') := fun w2 hq => by
    have := rCut_any k x v w2 hq
    rw [e1, cut_mks, ← hbw, ← hbm, e2, e3]
    exact this
  have HSt : Hid (∀ w2, Stp Bs p nv mv W.drew w2 → RsAt B S w2 r (s.now.map Dm.all) (mksOf s) ∧ Off (fun k => O k ∧ k ≠ P) W w2 ∧ Below B W w2) := fun w2 hs =>
    ⟨h3.keep hs.off.size (fun j hj => hs.off.block j (h3.lt j hj) (fun e => h7 j e hj)), ⟨hs.off.size, fun j hj hn => hs.off.block j hj (fun e => hn (h5 j e))⟩, (Below.refl B W).drew.trans (hs.below.mono h4)⟩
  have HEnd : Hid (∀ w2 w3 S', StAt Bs w2 p nv mv (s.cut k x v) → Off (fun k => O k ∧ k ≠ P) W w2 → Below B W w2 → RsAt B S' w3 r ((s.cut k x v).now.map Dm.all) (mksOf (s.cut k x v)) → SStp B S w2.drew w3 → Grown S w2.drew w3 S' → ∃ O', PaAt B P O' w3 (s.cut k x v) ∧ SStp B O w w3 ∧ Grown O w w3 O') := fun w2 w3 S' q1 q2 q3 q4 q5 q6 => by
    have hWs : w.heap.size ≤ W.heap.size := hb0.size
    have hS' : ∀ j, S' j → (O j ∧ j ≠ P) ∨ (w2.heap.size ≤ j ∧ j < w3.heap.size) := fun j hj => by
      rcases q6 j hj with e | e
      · exact .inl (h6 j e)
      · exact .inr e
    have hO3 : Off (fun k => O k ∧ k ≠ P) W w3 := q2.trans ⟨q5.off.size, fun j hj hn => q5.off.block j hj (fun e => hn (h6 j e))⟩
    refine ⟨fun j => O j ∨ S' j, ⟨⟨p, nv, mv, r, S', Bs, (hO3.block P hPl (fun e => e.2 rfl)).trans h1, q1.keep (fun j hj ho => q5.off.block j hj (fun e => h7 j ho e)), q4, h4, fun j hj => ⟨.inl (h5 j hj).1, (h5 j hj).2⟩, fun j hj => ?_, fun j hj hS => ?_⟩, .inl h.op, ?_, ?_, alls_cut h.al k x v, ?_⟩, ⟨?_, ?_⟩, ?_⟩
    · refine ⟨.inr hj, fun e => ?_⟩
      rcases hS' j hj with a | a
      · exact a.2 e
      · have := Nat.lt_of_lt_of_le hPl q2.size
        omega
    · rcases q6 j hS with a | a
      · exact h7 j hj a
      · have h8 : j < w2.heap.size := own_lt q1 hj
        have h9 : w2.heap.size ≤ j := a.1
        omega
    · rintro j (e | e)
      · exact h.lo j e
      · exact q4.lo j e
    · rintro j (e | e)
      · exact Nat.lt_of_lt_of_le (h.lt j e) (Nat.le_trans hWs hO3.size)
      · exact q4.lt j e
    · intro d hd
      rw [(cut_len s k x v).2.1] at hd
      exact h.alm d hd
    · exact (hb0.mono hBw).trans (q3.trans ((Below.refl B w2).drew.trans q5.below))
    · exact (Off.of_below hb0).trans (hO3.less fun j hj => hj.1)
    · rintro j (e | e)
      · exact .inl e
      · rcases hS' j e with a | a
        · exact .inl a.1
        · exact .inr ⟨Nat.le_trans (Nat.le_trans hWs q2.size) a.1, a.2⟩
  have HSO : Hid (∀ a b, SStp B S a b → Off (fun k => O k ∧ k ≠ P) a b) := fun a b q => q.off.less h6
  have HWM : Hid (s.went k x v = bw ∧ s.may k x v = bm) := ⟨hbw, hbm⟩
  have hbb : (bw == bw) = true := by simp
  have hmm : (bm == bm) = true := by simp
  clear h hA hb0 g0 hlt h1 h2 h3 h4 h5 h6 h7 hPl e1 e2 e3 hbw hbm
  go_enter Tryz.func9, Tryz.ntmps9
  go_wp2_with fail
  go_region_held3 (fun w' => w'.cell? ⟨P, 0, none⟩ = some (.pointer (some ⟨p, 0, none⟩)) ∧ w'.cell? ⟨P, 1, none⟩ = some (.pointer (some ⟨r, 0, none⟩)) ∧ w'.cell? ⟨w.heap.size, 0, none⟩ = some (.int .i64 1) ∧ w'.cell? ⟨w.heap.size, 1, none⟩ = some (.int .i64 k) ∧ w'.cell? ⟨w.heap.size, 2, none⟩ = some (.int .i64 x) ∧ w'.cell? ⟨w.heap.size, 3, none⟩ = some (.int .i64 v) ∧ Off (fun k => O k ∧ k ≠ P) W w')
    (first | exact HX.out _ (Off.of_below (Below.refl _ _).drew) | exact HX.out _ HO2.out | assumption)
    (first
      | (go_at_call 21; refine calls_at HC.out (by with_reducible rfl) (by with_reducible rfl) ?_; rintro e w2 ⟨he, hA2, hS2⟩; rw [HWM.out.1, HWM.out.2] at he; subst he; (have HA2 : Hid (StAt Bs w2 p nv mv (s.cut k x v)) := hA2); (have HR2 : Hid (RsAt B S w2 r (s.now.map Dm.all) (mksOf s)) := (HSt.out w2 hS2).1); (have HO2 : Hid (Off (fun k => O k ∧ k ≠ P) W w2) := (HSt.out w2 hS2).2.1); (have HB2 : Hid (Below B W w2) := (HSt.out w2 hS2).2.2); clear hA2 hS2))
  go_wp2_with fail
  have HC3 : Hid (Calls Tryz.prog 33 #[.pointer (some ⟨r, 0, none⟩), .agg #[.int .i64 k, .int .i64 x, .int .i64 v]] w2.drew fun e w' => e = .returned (.tuple #[.bool bw, .bool bm]) ∧ ∃ S', RsAt B S' w' r ((s.cut k x v).now.map Dm.all) (mksOf (s.cut k x v)) ∧ SStp B S w2.drew w' ∧ Grown S w2.drew w' S') := HC2.out w2.drew (HR2.out.below (Below.refl _ _).drew)
  have HX2 : Hid (∀ w', Off (fun k => O k ∧ k ≠ P) W w' → w'.cell? ⟨P, 1, none⟩ = some (.pointer (some ⟨r, 0, none⟩)) ∧ w'.cell? ⟨w.heap.size, 1, none⟩ = some (.int .i64 k) ∧ w'.cell? ⟨w.heap.size, 2, none⟩ = some (.int .i64 x) ∧ w'.cell? ⟨w.heap.size, 3, none⟩ = some (.int .i64 v)) := fun w' ho => by
    obtain ⟨_, y1, _, y3, y4, y5, _⟩ := HX.out w' ho
    exact ⟨y1, y3, y4, y5⟩
  go_region_held3 (fun w' => w'.cell? ⟨P, 1, none⟩ = some (.pointer (some ⟨r, 0, none⟩)) ∧ w'.cell? ⟨w.heap.size, 1, none⟩ = some (.int .i64 k) ∧ w'.cell? ⟨w.heap.size, 2, none⟩ = some (.int .i64 x) ∧ w'.cell? ⟨w.heap.size, 3, none⟩ = some (.int .i64 v))
    (first | exact HX2.out _ HO3.out | exact HX2.out _ (HO2.out.trans (Off.of_below (Below.refl _ _).drew)) | assumption)
    (first
      | (go_at_call 33; refine calls_at HC3.out (by with_reducible rfl) (by with_reducible rfl) ?_; rintro e w3 ⟨rfl, S', q4, q5, q6⟩; obtain ⟨O', z1, z2, z3⟩ := HEnd.out w2 w3 S' HA2.out HO2.out HB2.out q4 q5 q6; (have HZ : Hid (PaAt B P O' w3 (s.cut k x v) ∧ SStp B O w w3 ∧ Grown O w w3 O') := ⟨z1, z2, z3⟩); (have HO3 : Hid (Off (fun k => O k ∧ k ≠ P) W w3) := HO2.out.trans ((Off.of_below (Below.refl _ _).drew).trans (HSO.out w2.drew w3 q5))); clear q4 q5 q6 z1 z2 z3))
  go_wp2_with fail
  go_ret
  exact ⟨ret_bool (by simp), O', HZ.out.1, HZ.out.2.1, HZ.out.2.2⟩
end Go.Proofs.YtchpapppkmnfnaaGreatDoor
