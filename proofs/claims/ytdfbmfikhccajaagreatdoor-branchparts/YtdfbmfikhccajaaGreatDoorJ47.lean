/-
  Put together: DrNew, DtPair, DtM2, DtReads.
-/
import Derived.Test.YtdfbmfikhccajaaGreatDoorDmMark
import Derived.Test.YtdfbmfikhccajaaGreatDoorMdRegU
import Derived.Test.YtdfbmfikhccajaaGreatDoorMdSrc
import Derived.Test.YtdfbmfikhccajaaGreatDoorJ28
import Derived.Test.YtdfbmfikhccajaaGreatDoorJ42
import Derived.Test.YtdfbmfikhccajaaGreatDoorDcD2
import Derived.Test.YtdfbmfikhccajaaGreatDoorJ26
import Derived.Test.YtdfbmfikhccajaaGreatDoorDmCut
import Derived.Test.YtdfbmfikhccajaaGreatDoorDrReads
import Derived.Test.YtdfbmfikhccajaaGreatDoorJ40
namespace Go.Proofs.YtdfbmfikhccajaaGreatDoor
open Go.RowKit

def newLL (m : Md.Mo) : List (List Int) := if (Md.check m).2 = 0 then m.vars.map (fun v => spanL v.lo v.hi) else []
/-- A store that is being made. -/
def NwAt (n r : Nat) (w : World) (LL : List (List Int)) : Prop := ∃ dv cs, w.heap[r]? = some (.cells #[dv, .slice none 0 0] 85 (0, 0)) ∧ w.ownsRow n 38 1 dv LL.length cs ∧ ∀ i (h : i < LL.length), ∃ u, cs[i]? = some u ∧ w.ownsRow n 3 1 u LL[i].length (LL[i].map (.int .i64))
theorem own_belowR {w w' : World} {B : Nat} {e : TypeId} {size : Nat} {v : Value} {n : Nat} {xs : List Value} (h : w.ownsRow B e size v n xs) (hb : Below w.heap.size w w') : w'.ownsRow B e size v n xs := own_keep h fun g hg => hb.block g (h.lt g hg).2
theorem NwAt.below {n r : Nat} {w w' : World} {LL : List (List Int)} (h : NwAt n r w LL) (hb : Below w.heap.size w w') : NwAt n r w' LL := by
  obtain ⟨dv, cs, h1, h2, h3⟩ := h
  refine ⟨dv, cs, (hb.block r (Array.getElem?_eq_some_iff.1 h1).1).trans h1, own_belowR h2 hb, fun i hi => ?_⟩
  obtain ⟨u, hu, hl⟩ := h3 i hi
  exact ⟨u, hu, own_belowR hl hb⟩
theorem NwAt.done {n r : Nat} {w : World} {LL : List (List Int)} (h : NwAt n r w LL) (hr : n ≤ r) (hf : Few LL) : RsAt n (fun k => n ≤ k ∧ k < w.heap.size) w r LL [] := by
  obtain ⟨dv, cs, h1, h2, h3⟩ := h
  refine ⟨⟨dv, .slice none 0 0, h1, ⟨cs, own_lessR h2 (Nat.zero_le _), fun g hg => h2.lt g hg, fun i hi => ?_⟩, ⟨[], World.ownsRow_nil _ _ _ _, (fun g hg => by cases hg), fun i hi => absurd hi (Nat.not_lt_zero _)⟩⟩, ⟨hr, (Array.getElem?_eq_some_iff.1 h1).1⟩, fun k hk => hk.1, fun k hk => hk.2, hf, (fun M hM => by cases hM), Nat.zero_le _⟩
  obtain ⟨u, hu, hl⟩ := h3 i hi
  exact ⟨u, hu, own_lessR hl (Nat.zero_le _), fun g hg => hl.lt g hg⟩
/-- One list more. -/
theorem NwAt.next {n r : Nat} {w w' : World} {LL : List (List Int)} {dv u v' : Value} {cs : List Value} {L : List Int} (h1 : w.heap[r]? = some (.cells #[dv, .slice none 0 0] 85 (0, 0))) (h2 : w.ownsRow n 38 1 dv LL.length cs) (h3 : ∀ i (h : i < LL.length), ∃ u, cs[i]? = some u ∧ w.ownsRow n 3 1 u LL[i].length (LL[i].map (.int .i64)))
    (hu : w.ownsRow n 3 1 u L.length (L.map (.int .i64))) (ho : w'.ownsRow n 38 1 v' (LL.length + 1) (cs ++ [u])) (hg : (w.alloc (.cells #[u] 38)).grownBy w' dv.ownBlock) : NwAt n r (w'.setCell ⟨r, 0, none⟩ v') (LL ++ [L]) ∧ w'.heap[r]? = some (.cells #[dv, .slice none 0 0] 85 (0, 0)) := by
  have hcl : cs.length = LL.length := by have := h2.1; omega
  have hT : ∀ (g : Nat) (cur : Array Value) (t : TypeId), t ≠ 38 → w.heap[g]? = some (.cells cur t (0, 0)) → w'.heap[g]? = some (.cells cur t (0, 0)) := fun g cur t ht hc => by
    have hlt := (Array.getElem?_eq_some_iff.1 hc).1
    rw [hg.block g (by simp; omega) (fun e => ?_), heap_alloc_old w _ hlt]
    · exact hc
    · obtain ⟨cur', hcur'⟩ := own_type h2 e.symm
      rw [hc] at hcur'
      injection hcur' with hcur'
      injection hcur' with _ e2 _
      exact ht e2
  have hr := hT r _ 85 (by decide) h1
  have hrl := (Array.getElem?_eq_some_iff.1 hr).1
  have row : ∀ {v : Value} {m : Nat} {xs : List Value}, w.ownsRow n 3 1 v m xs → (w'.setCell ⟨r, 0, none⟩ v').ownsRow n 3 1 v m xs := fun {v m xs} hv => by
    refine own_keep hv fun g hgv => ?_
    obtain ⟨cur, hcur⟩ := own_type hv hgv
    have e := hT g cur 3 (by decide) hcur
    rw [heap_setCell_other _ _ _ _ (fun e1 => ?_), e, hcur]
    subst e1
    rw [h1] at hcur
    injection hcur with hcur
    injection hcur with _ e2 _
    cases e2
  refine ⟨⟨v', cs ++ [u], ?_, ?_, fun i hi => ?_⟩, hr⟩
  · rw [heap_setCell_same _ _ _ _ _ _ hr]
    rfl
  · rw [List.length_append]
    refine own_keep ho fun g hgv => heap_setCell_other _ _ _ _ fun e1 => ?_
    subst e1
    obtain ⟨cur, hcur⟩ := own_type ho hgv
    rw [hr] at hcur
    injection hcur with hcur
    injection hcur with _ e2 _
    cases e2
  · rw [List.length_append, List.length_singleton] at hi
    by_cases hil : i < LL.length
    · obtain ⟨x, hx, hl⟩ := h3 i hil
      refine ⟨x, by rw [List.getElem?_append_left (by omega)]; exact hx, ?_⟩
      rw [List.getElem_append_left hil]
      exact row hl
    · have : i = LL.length := by omega
      subst this
      refine ⟨u, by rw [List.getElem?_append_right (by omega), hcl]; simp, ?_⟩
      rw [List.getElem_append_right (Nat.le_refl _)]
      simp only [Nat.sub_self, List.getElem_singleton]
      exact row hu
def spN (lo : Int) (k : Nat) : List Int := (List.range k).map fun j : Nat => lo + (j : Int)
theorem spN_succ (lo : Int) (k : Nat) : spN lo (k + 1) = spN lo k ++ [lo + (k : Int)] := by unfold spN; rw [List.range_succ, List.map_append]; rfl
theorem spN_len (lo : Int) (k : Nat) : (spN lo k).length = k := by simp [spN]
def RnOut (m : Md.Mo) (w : World) (e : Ending) (w' : World) : Prop := ∃ r S, e = .returned (.pointer (some ⟨r, 0, none⟩)) ∧ RsAt w.heap.size S w' r (newLL m) [] ∧ Below w.heap.size w w'

set_option maxRecDepth 10000 in
set_option maxHeartbeats 1000000 in
theorem rNew_any (m : Md.Mo) (vv vc vg : Value) (w : World) (h : MoAt w m vv vc vg) : Calls Tryz.prog 21 #[moVal m vv vc vg] w (RnOut m w) := by
  obtain ⟨W, hW⟩ : ∃ W, (w.alloc (.cells #[vv, vc, .bool m.has, vg] 26)).alloc (.cells #[.slice none 0 0, .slice none 0 0] 85) = W := ⟨_, rfl⟩
  have hb0 : Below w.heap.size w W := by rw [← hW]; exact ((Below.refl _ _).alloc (Nat.le_refl _) _).alloc (by simp) _
  have HB : Hid (Below w.heap.size w W) := hb0
  have g0 : W.heap[w.heap.size]? = some (.cells #[vv, vc, .bool m.has, vg] 26 (0, 0)) := by rw [← hW, heap_alloc_old (w.alloc _) _ (by simp)]; exact heap_alloc_new w _
  have g1 : W.heap[w.heap.size + 1]? = some (.cells #[.slice none 0 0, .slice none 0 0] 85 (0, 0)) := by rw [← hW]; exact heap_alloc2_new w _ _
  have hlt := (Array.getElem?_eq_some_iff.1 g0).1
  have HM : Hid (MoAt w m vv vc vg) := h
  have HCh : Hid (Calls Tryz.prog 39 #[.agg #[vv, vc, .bool m.has, vg]] W fun e w' => e = .returned (.tuple #[.int .i64 (Md.check m).1, .int .i64 (Md.check m).2]) ∧ Below W.heap.size W w') := Doc.refCheck_any m vv vc vg W (h.below hb0)
  have HE0 : Hid (∀ w', Below W.heap.size W w' → NwAt w.heap.size (w.heap.size + 1) w' []) := fun w' hb => ⟨_, [], (hb.block _ (Array.getElem?_eq_some_iff.1 g1).1).trans g1, World.ownsRow_nil _ _ _ _, fun i hi => absurd hi (Nat.not_lt_zero _)⟩
  have HV0 : Hid (∀ w', Off (fun k => k ≠ w.heap.size ∧ w.heap.size ≤ k) W w' → w'.heap[w.heap.size]? = some (.cells #[vv, vc, .bool m.has, vg] 26 (0, 0))) := fun w' ho => (ho.block _ hlt (fun e => e.1 rfl)).trans g0
  have c0 : W.cell? ⟨w.heap.size, 0, none⟩ = some vv := cell_of g0 0
  have c1 : W.cell? ⟨w.heap.size, 1, none⟩ = some vc := cell_of g0 1
  have c2 : W.cell? ⟨w.heap.size, 2, none⟩ = some (.bool m.has) := cell_of g0 2
  have c3 : W.cell? ⟨w.heap.size, 3, none⟩ = some vg := cell_of g0 3
  obtain ⟨va, vp, rfl, hvm, _, hvo⟩ := id HM.out.v
  clear hb0 g0 g1 hlt h
  unfold moVal
  go_enter Tryz.func21, Tryz.ntmps21
  go_wp2_with fail
  refine calls_at HCh.out (by with_reducible rfl) (by with_reducible rfl) ?_
  rintro e w1 ⟨rfl, hb1⟩
  have HB1 : Hid (Below W.heap.size W w1) := hb1
  clear hb1 c0 c1 c2 c3 hW
  by_cases hok : (Md.check m).2 = 0
  · have hR := Md.right_of hok
    have HNs : Hid (newLL m = m.vars.map (fun v => spanL v.lo v.hi)) := by show _ = _; unfold newLL; rw [if_pos hok]
    have hn := hR.nv
    have HOk : Hid (∀ v ∈ m.vars, Md.boundsB v.lo v.hi = true) := fun v hv => (hR.var v hv).2
    clear hR
    have HVC : Hid (∀ w', Below w.heap.size w w' → ∀ j (hj : j < m.vars.length), ∃ b off, va = some ⟨b, off, none⟩ ∧ w'.cell? ⟨b, off + j * 3 + 1, none⟩ = some (.int .i64 m.vars[j].lo) ∧ w'.cell? ⟨b, off + j * 3 + 2, none⟩ = some (.int .i64 m.vars[j].hi)) := fun w' hb j hj => by
      obtain ⟨b, off, e1, e2, e3⟩ := hvo (by omega)
      obtain ⟨f1, f2, f3⟩ := e3 j hj
      exact ⟨b, off, e1, (hb.cell (p := ⟨b, off + j * 3 + 1, none⟩) e2).trans f2, (hb.cell (p := ⟨b, off + j * 3 + 2, none⟩) e2).trans f3⟩
    clear hvo
    rw [hok]
    clear hok
    go_wp2_with fail
    go_loopw [6] (fun iv wr => ∃ (k : Nat), iv = .int .i64 (k : Int) ∧ k ≤ m.vars.length ∧ Hid (NwAt w.heap.size (w.heap.size + 1) wr ((m.vars.take k).map (fun v => spanL v.lo v.hi))) ∧ Hid (Below w.heap.size w wr) ∧ Hid (Off (fun k => k ≠ w.heap.size ∧ w.heap.size ≤ k) W wr)) (fun iv _ => m.vars.length - (intOf iv).toNat)
    case atStart => exact ⟨0, rfl, Nat.zero_le _, HE0.out w1 HB1.out, HB.out.trans (HB1.out.mono HB.out.size), Off.of_below HB1.out⟩
    case round =>
      obtain ⟨k, rfl, hk, HAr, HBr, HOr⟩ := hrel
      have y0 : wr.cell? ⟨w.heap.size, 0, none⟩ = some (.slice va m.vars.length vp) := cell_of (HV0.out wr HOr.out) 0
      by_cases hkn : k < m.vars.length
      · have hkI : (k : Int) < (m.vars.length : Int) := by omega
        obtain ⟨b, off, rfl, x1, x2⟩ := HVC.out wr HBr.out k hkn
        have HTk : Hid ((m.vars.take (k + 1)).map (fun v => spanL v.lo v.hi) = (m.vars.take k).map (fun v => spanL v.lo v.hi) ++ [spanL m.vars[k].lo m.vars[k].hi]) := by show _ = _; rw [List.take_succ_eq_append_getElem hkn, List.map_append]; rfl
        have hbd := HOk.out m.vars[k] (List.getElem_mem hkn)
        have HVk : Hid (∀ w', Below wr.heap.size wr w' → w'.cell? ⟨w.heap.size, 0, none⟩ = some (.slice (some ⟨b, off, none⟩) m.vars.length vp) ∧ w'.cell? ⟨b, off + k * 3 + 2, none⟩ = some (.int .i64 m.vars[k].hi)) := fun w' hb => by
          refine ⟨cell_of (HV0.out w' (HOr.out.trans (Off.of_below hb))) 0, ?_⟩
          obtain ⟨b', off', e, _, x⟩ := HVC.out w' (HBr.out.trans (hb.mono HBr.out.size)) k hkn
          injection e with e
          injection e with e1 e2
          subst e1 e2
          exact x
        obtain ⟨v, hv⟩ : ∃ v, m.vars[k] = v := ⟨_, rfl⟩
        rw [hv] at x1 x2 HTk hbd HVk
        clear hv
        have hbb := Md.bounds_of hbd
        go_wp2_with fail
        have HSp : Hid (spanL v.lo v.hi = spN v.lo (v.hi - v.lo + 1).toNat) := rfl
        obtain ⟨n, hnn⟩ : ∃ n : Nat, (v.hi - v.lo + 1).toNat = n := ⟨_, rfl⟩
        rw [hnn] at HSp
        have hnn' : (n : Int) = v.hi - v.lo + 1 := by omega
        go_loopw [7, 8] (fun lv iv wz => ∃ (j : Nat) (ov : Value), lv = ov ∧ iv = .int .i64 (v.lo + (j : Int)) ∧ j ≤ n ∧ Hid (wz.ownsRow wr.heap.size 3 1 ov j ((spN v.lo j).map (.int .i64))) ∧ Hid (Below wr.heap.size wr wz)) (fun _ iv _ => (v.hi + 1 - intOf iv).toNat)
        case atStart => exact ⟨0, _, rfl, by simp, Nat.zero_le _, World.ownsRow_nil _ _ _ _, Below.refl _ _⟩
        case round =>
          obtain ⟨j, _, rfl, rfl, hj, HO, HBz⟩ := hrel
          rename World => wz
          obtain ⟨z0, z2⟩ := HVk.out wz HBz.out
          by_cases hjn : j < n
          · have hjI : v.lo + (j : Int) ≤ v.hi := by omega
            have HSu : Hid (spN v.lo (j + 1) = spN v.lo j ++ [v.lo + (j : Int)]) := spN_succ _ _
            go_wp2_with (first
              | (at_builtin; refine append_one wz (.int .i64 (v.lo + (j : Int))) rfl _ _ 38 3 (.int .i64 0) 8 rfl un38 inf3 rfl wr.heap.size _ _ _ (by rfl) HO.out rfl _ rfl (by rfl) (by unfold maxLen; omega) (by omega) HBz.out.size ?_; intro v6 w6 ho6 hg6 hn6))
            have HO6 : Hid (w6.ownsRow wr.heap.size 3 1 v6 (j + 1) ((spN v.lo (j + 1)).map (.int .i64))) := by
              show World.ownsRow _ _ _ _ _ _ _
              rw [HSu.out, List.map_append]
              exact ho6
            have HB6 : Hid (Below wr.heap.size wr w6) := (HBz.out.alloc HBz.out.size _).grown hg6 (Nat.le_trans HBz.out.size (by simp)) (fun g hg => (HO.out.lt g hg).1)
            clear ho6 hg6 hn6
            have e1 : IntKind.i64.wrap (v.lo + (j : Int) + 1) = v.lo + ((j + 1 : Nat) : Int) := by rw [wrap_id (by omega) (by omega)]; omega
            go_wp2_with fail
            go_roundw
            case rel => exact ⟨j + 1, v6, rfl, by first | rfl | go_num | (rw [← e1]; rfl), hjn, HO6, HB6⟩
            case measure => simp [intOf]; omega
          · have hje : j = n := by omega
            subst hje
            have hjI : ¬ v.lo + (j : Int) ≤ v.hi := by omega
            have HAz : Hid (NwAt w.heap.size (w.heap.size + 1) wz ((m.vars.take k).map (fun v => spanL v.lo v.hi))) := HAr.out.below HBz.out
            obtain ⟨dv, cs, a1, a2, a3⟩ := id HAz.out
            have HA1 : Hid (wz.heap[w.heap.size + 1]? = some (.cells #[dv, .slice none 0 0] 85 (0, 0)) ∧ wz.ownsRow w.heap.size 38 1 dv ((m.vars.take k).map (fun v => spanL v.lo v.hi)).length cs ∧ ∀ i (h : i < ((m.vars.take k).map (fun v => spanL v.lo v.hi)).length), ∃ u, cs[i]? = some u ∧ wz.ownsRow w.heap.size 3 1 u ((m.vars.take k).map (fun v => spanL v.lo v.hi))[i].length (((m.vars.take k).map (fun v => spanL v.lo v.hi))[i].map (.int .i64))) := ⟨a1, a2, a3⟩
            have p0 : wz.cell? ⟨w.heap.size + 1, 0, none⟩ = some dv := cell_of a1 0
            have pz : ∀ i, wz.frozen? ⟨w.heap.size + 1, i, none⟩ = false := frozen_of a1
            have HU : Hid (wz.ownsRow w.heap.size 3 1 u7 (spanL v.lo v.hi).length ((spanL v.lo v.hi).map (.int .i64))) := by
              show World.ownsRow _ _ _ _ _ _ _
              rw [HSp.out, spN_len]
              exact own_lessR HO.out HBr.out.size
            have HKl : ((m.vars.take k).map (fun v => spanL v.lo v.hi)).length = k := by rw [List.length_map, List.length_take]; omega
            have HBw : Hid (Below w.heap.size w wz) := HBr.out.trans (HBz.out.mono HBr.out.size)
            obtain ⟨ua, uc, rfl⟩ : ∃ ua uc, u7 = .slice ua j uc := by
              rcases HO.out.2 with ⟨e, e2⟩ | ⟨g', cap', _, e, _⟩
              · exact ⟨none, 0, by rw [e, e2]⟩
              · exact ⟨_, _, e⟩
            have HNe : Hid (∀ g, dv.ownBlock = some g → g ≠ w.heap.size ∧ w.heap.size ≤ g) := fun g hg => by
              refine ⟨fun e => ?_, (a2.lt g hg).1⟩
              obtain ⟨cur, hcur⟩ := own_type a2 hg
              rw [e, HV0.out wz (HOr.out.trans (Off.of_below HBz.out))] at hcur
              injection hcur with hcur
              injection hcur with _ e2 _
              cases e2
            clear a1 a2 a3
            go_wp2_with (first
              | (at_builtin; refine append_one wz (.slice ua j uc) rfl _ _ 59 38 (.slice none 0 0) 24 rfl un63 inf53 rfl w.heap.size _ _ _ (by rfl) HA1.out.2.1 rfl _ rfl (by rfl) (by unfold maxLen; omega) (by omega) HBw.out.size ?_; intro v6 w6 ho6 hg6 hn6; obtain ⟨a6, c6, rfl⟩ := own_slice ho6; (have hnx := NwAt.next HA1.out.1 HA1.out.2.1 HA1.out.2.2 HU.out ho6 hg6); (have HNx : Hid (NwAt w.heap.size (w.heap.size + 1) (w6.setCell ⟨w.heap.size + 1, 0, none⟩ (.slice a6 _ c6)) ((m.vars.take k).map (fun v => spanL v.lo v.hi) ++ [spanL v.lo v.hi])) := hnx.1); (have q0 : w6.cell? ⟨w.heap.size + 1, 0, none⟩ = some dv := cell_of hnx.2 0); (have qz : ∀ i, w6.frozen? ⟨w.heap.size + 1, i, none⟩ = false := frozen_of hnx.2); (have HB6 : Hid (Below w.heap.size w w6) := (HBw.out.alloc HBw.out.size _).grown hg6 (Nat.le_trans HBw.out.size (by simp)) (fun g hg => (HA1.out.2.1.lt g hg).1)); (have HO6 : Hid (Off (fun k => k ≠ w.heap.size ∧ w.heap.size ≤ k) W w6) := (HOr.out.trans (Off.of_below HBz.out)).trans ((Off.of_below ((Below.refl _ _).alloc (Nat.le_refl _) _)).trans (Off.grown hg6 (fun g hg => HNe.out g hg)))); clear hnx ho6 hg6 hn6))
            go_roundw
            case rel => exact ⟨k + 1, by go_num, hkn, by rw [HTk.out]; have := HNx.out; rw [HKl] at this; exact this, HB6.out.setCell (Nat.le_succ _) _, HO6.out.trans (Off.set _ ⟨by omega, Nat.le_succ _⟩)⟩
            case measure => simp [intOf]; omega
      · have hke : k = m.vars.length := by omega
        subst hke
        rw [List.take_length, ← HNs.out] at HAr
        have hkI : ¬ (m.vars.length : Int) < (m.vars.length : Int) := by omega
        go_wp2_with fail
        go_ret
        refine ⟨_, _, rfl, HAr.out.done (Nat.le_succ _) ⟨?_, ?_⟩, HBr.out⟩
        · rw [HNs.out, List.length_map]; exact hn.2
        · intro L hL
          rw [HNs.out] at hL
          obtain ⟨v, hv, rfl⟩ := List.mem_map.1 hL
          have := Md.bounds_of (HOk.out v hv)
          simp [spanL]
          omega
  · have hok' : ((Md.check m).2 == 0) = false := by simpa using hok
    have HNs : Hid (newLL m = []) := by show _ = _; unfold newLL; rw [if_neg hok]
    go_wp2_with fail
    go_loopw [6] (fun iv wr => iv = .int .i64 0 ∧ w1 = wr) (fun _ _ => 0)
    case atStart => exact ⟨rfl, rfl⟩
    case round =>
      obtain ⟨rfl, rfl⟩ := hrel
      have y0 : w1.cell? ⟨w.heap.size, 0, none⟩ = some (.slice va m.vars.length vp) := cell_of (HV0.out w1 (Off.of_below HB1.out)) 0
      by_cases hl : 0 < m.vars.length
      · have hlI : (0 : Int) < (m.vars.length : Int) := by omega
        go_wp2_with fail
        go_ret
        exact ⟨_, _, rfl, by rw [HNs.out]; exact (HE0.out w1 HB1.out).done (Nat.le_succ _) ⟨Nat.zero_le _, fun L hL => by cases hL⟩, HB.out.trans (HB1.out.mono HB.out.size)⟩
      · have hlI : ¬ (0 : Int) < (m.vars.length : Int) := by omega
        go_wp2_with fail
        go_ret
        exact ⟨_, _, rfl, by rw [HNs.out]; exact (HE0.out w1 HB1.out).done (Nat.le_succ _) ⟨Nat.zero_le _, fun L hL => by cases hL⟩, HB.out.trans (HB1.out.mono HB.out.size)⟩
end Go.Proofs.YtdfbmfikhccajaaGreatDoor

namespace Go.Proofs.YtdfbmfikhccajaaGreatDoor
open Go.RowKit

theorem own_lt {B : Nat} {w : World} {p : Nat} {nv mv : Value} {s : St} (h : StAt B w p nv mv s) {k : Nat} (hk : Own p nv mv k) : k < w.heap.size := by
  rcases hk with h1 | h1 | h1
  · rw [h1]; exact h.lt
  · exact (row_lt h.n h1).2
  · exact (row_lt h.m h1).2
theorem own_lo {B : Nat} {w : World} {p : Nat} {nv mv : Value} {s : St} (h : StAt B w p nv mv s) {k : Nat} (hk : Own p nv mv k) : B ≤ k := by
  rcases hk with h1 | h1 | h1
  · rw [h1]; exact h.p1
  · exact (row_lt h.n h1).1
  · exact (row_lt h.m h1).1
/-- What the marks noted, as lists. -/
def mksOf (s : St) : List (List (List Int)) := (List.range s.marks).map fun i => ((s.noted.drop (i * s.now.length)).take s.now.length).map Dm.all
def AllsM (s : St) : Prop := ∀ d ∈ s.noted, d.Ok ∧ d.Any
/-- A cut, of lists as of words. -/
theorem cut_rel {s : St} (h : Alls s) (k x v : Int) : (s.cut k x v).now.map Dm.all = cutLL (s.now.map Dm.all) k x v ∧ s.went k x v = wentLL (s.now.map Dm.all) k x v ∧ s.may k x v = mayLL (s.now.map Dm.all) k x v := by
  cases hi : isB s.now.length x with
  | false =>
    obtain ⟨e1, e2, e3⟩ := cut_no (k := k) (v := v) hi
    obtain ⟨f1, f2, f3⟩ := cutLL_no (LL := s.now.map Dm.all) (k := k) (x := x) (v := v) (by rw [List.length_map]; exact hi)
    rw [e1, e2, e3, f1, f2, f3]
    exact ⟨rfl, rfl, rfl⟩
  | true =>
    obtain ⟨q, rfl, hq⟩ : ∃ q : Nat, x = (q : Int) ∧ q < s.now.length := by
      simp [isB] at hi
      exact ⟨x.toNat, by omega, by omega⟩
    obtain ⟨e1, e2, e3⟩ := cut_yes (k := k) (v := v) hq
    obtain ⟨f1, f2, f3⟩ := cutLL_yes (LL := s.now.map Dm.all) (k := k) (v := v) (q := q) (by rw [List.length_map]; exact hq)
    obtain ⟨ho, ha⟩ := h _ (List.getElem_mem hq)
    obtain ⟨g1, g2, g3⟩ := went_is ho ha k v
    have hqm : q < (s.now.map Dm.all).length := by rw [List.length_map]; exact hq
    have hl : lfR k v (s.now.map Dm.all)[q] = lft k v s.now[q].all := by rw [List.getElem_map]; rfl
    rw [e1, e2, e3, f1, f2, f3, hl]
    refine ⟨?_, by rw [g1, List.getElem_map], g2⟩
    cases hw : s.now[q].went k v with
    | true =>
      rw [hw] at g1 g3
      have hE : (lft k v s.now[q].all).isEmpty = false := by
        cases hb : (lft k v s.now[q].all).isEmpty with
        | false => rfl
        | true => rw [hb] at g1; simp at g1
      rw [hE] at g3
      rw [hE]
      simp only [if_true] at g3 ⊢
      simp [g3]
    | false =>
      rw [hw] at g3
      simp only [Bool.false_eq_true, if_false] at g3 ⊢
      cases hb : (lft k v s.now[q].all).isEmpty with
      | true => rfl
      | false =>
        rw [hb] at g3
        simp only [Bool.false_eq_true, if_false] at g3 ⊢
        rw [← g3]
        apply List.ext_getElem?
        intro i
        by_cases e : i = q
        · subst e; simp [hq]
        · rw [List.getElem?_set_ne (by omega)]
theorem cut_mks (s : St) (k x v : Int) : mksOf (s.cut k x v) = mksOf s := by
  obtain ⟨e1, e2, e3⟩ := cut_len s k x v
  unfold mksOf
  rw [e1, e2, e3]
theorem new_rel (m : Md.Mo) : (newS m).now.map Dm.all = newLL m ∧ mksOf (newS m) = [] ∧ AllsM (newS m) := by
  unfold newS newLL
  split
  · rename_i h
    refine ⟨?_, rfl, fun d hd => by cases hd⟩
    simp only [List.map_map]
    exact List.map_congr_left fun v hv => whole_all ((Md.right_of h).var v hv).2
  · exact ⟨rfl, rfl, fun d hd => by cases hd⟩
/-- A pair in memory. -/
structure PaAt (B P : Nat) (O : Nat → Prop) (w : World) (s : St) : Prop where
  ex : ∃ p nv mv r S Bs, w.heap[P]? = some (.cells #[.pointer (some ⟨p, 0, none⟩), .pointer (some ⟨r, 0, none⟩)] 42 (0, 0)) ∧ StAt Bs w p nv mv s ∧ RsAt B S w r (s.now.map Dm.all) (mksOf s) ∧ B ≤ Bs ∧ (∀ k, Own p nv mv k → O k ∧ k ≠ P) ∧ (∀ k, S k → O k ∧ k ≠ P) ∧ ∀ k, Own p nv mv k → ¬ S k
  op : O P
  lo : ∀ k, O k → B ≤ k
  lt : ∀ k, O k → k < w.heap.size
  al : Alls s
  alm : AllsM s
theorem PaAt.keep {B P : Nat} {O : Nat → Prop} {w w' : World} {s : St} (h : PaAt B P O w s) (hz : w.heap.size ≤ w'.heap.size) (hk : ∀ k, O k → w'.heap[k]? = w.heap[k]?) : PaAt B P O w' s := by
  obtain ⟨p, nv, mv, r, S, Bs, h1, h2, h3, h4, h5, h6, h7⟩ := h.ex
  exact { h with
    ex := ⟨p, nv, mv, r, S, Bs, (hk P h.op).trans h1, h2.keep (fun k _ ho => hk k (h5 k ho).1), h3.keep hz (fun k hS => hk k (h6 k hS).1), h4, h5, h6, h7⟩
    lt := fun k hS => Nat.lt_of_lt_of_le (h.lt k hS) hz }
theorem PaAt.below {B P : Nat} {O : Nat → Prop} {w w' : World} {s : St} (h : PaAt B P O w s) (hb : Below w.heap.size w w') : PaAt B P O w' s := h.keep hb.size fun k hk => hb.block k (h.lt k hk)
def PcOut (B P : Nat) (O : Nat → Prop) (s : St) (k x v : Int) (w : World) (e : Ending) (w' : World) : Prop := e = .returned (.bool true) ∧ ∃ O', PaAt B P O' w' (s.cut k x v) ∧ SStp B O w w' ∧ Grown O w w' O'

end Go.Proofs.YtdfbmfikhccajaaGreatDoor

namespace Go.Proofs.YtdfbmfikhccajaaGreatDoor
open Go.RowKit

theorem all_bits {d : Dm} (h : d.Ok) (ha : d.Any) : d.all = ((List.range 64).filter (bt d.a d.b)).map fun k : Nat => d.f + (k : Int) := by
  have hf := fine_of h ha
  refine up_ext hf.up ?_ fun v => ?_
  · rw [List.pairwise_map]
    exact ((List.pairwise_lt_range (n := 64)).filter _).imp fun hlt => by omega
  · rw [hf.all, Dm.has_is h, List.mem_map]
    constructor
    · rintro ⟨k, hk, rfl, hb⟩
      exact ⟨k, List.mem_filter.2 ⟨List.mem_range.2 hk, hb⟩, rfl⟩
    · rintro ⟨k, hk, rfl⟩
      obtain ⟨h1, h2⟩ := List.mem_filter.1 hk
      exact ⟨k, List.mem_range.1 h1, rfl, h2⟩
theorem all_len {d : Dm} (h : d.Ok) (ha : d.Any) : (d.all.length : Int) = d.size := by
  rw [all_bits h ha, List.length_map, ← List.countP_eq_length_filter]
  exact (bSize_is h.a h.b).symm
theorem all_len64 {d : Dm} (h : d.Ok) (ha : d.Any) : d.all.length ≤ 64 := by
  rw [all_bits h ha, List.length_map]
  exact Nat.le_trans (List.length_filter_le _ _) (by simp)
theorem all_pos {d : Dm} (h : d.Ok) (ha : d.Any) : 0 < d.all.length := List.length_pos_iff.2 (all_ne (fine_of h ha))
theorem up_first : ∀ {L : List Int} (h : 0 < L.length) {x : Int}, L.Pairwise (· < ·) → x ∈ L → (∀ v ∈ L, x ≤ v) → L[0] = x
  | l :: L, _, x, hu, hx, hm => by
    rcases List.mem_cons.1 hx with e | e
    · exact e.symm
    · have h1 := (List.pairwise_cons.1 hu).1 x e
      have h2 := hm l (by simp)
      omega
theorem up_last {L : List Int} (h : 0 < L.length) {x : Int} (hu : L.Pairwise (· < ·)) (hx : x ∈ L) (hm : ∀ v ∈ L, v ≤ x) : L[L.length - 1] = x := by
  obtain ⟨i, hi, rfl⟩ := List.mem_iff_getElem.1 hx
  have h1 := hm L[L.length - 1] (List.getElem_mem _)
  by_cases e : i = L.length - 1
  · simp [e]
  · have := List.pairwise_iff_getElem.1 hu i (L.length - 1) hi (by omega) (by omega)
    omega
theorem all_first {d : Dm} (h : d.Ok) (ha : d.Any) : d.all[0]'(all_pos h ha) = d.lo := by
  have hf := fine_of h ha
  exact up_first _ hf.up ((hf.all _).2 hf.loIn) fun v hv => hf.least v ((hf.all v).1 hv)
theorem all_last {d : Dm} (h : d.Ok) (ha : d.Any) : d.all[d.all.length - 1]'(by have := all_pos h ha; omega) = d.hi := by
  have hf := fine_of h ha
  exact up_last (all_pos h ha) hf.up ((hf.all _).2 hf.hiIn) fun v hv => hf.most v ((hf.all v).1 hv)
theorem all_has {d : Dm} (h : d.Ok) (ha : d.Any) (v : Int) : d.has v = d.all.any (fun u => u == v) := by
  have hf := fine_of h ha
  cases hh : d.has v with
  | true =>
    symm
    rw [List.any_eq_true]
    exact ⟨v, (hf.all v).2 hh, by simp⟩
  | false =>
    symm
    rw [List.any_eq_false]
    intro u hu e
    have : u = v := by simpa using e
    subst this
    rw [(hf.all u).1 hu] at hh
    cases hh

/-- Marks. -/
theorem mks_mark {s : St} (hl : s.noted.length = s.marks * s.now.length) : mksOf s.mark = mksOf s ++ [s.now.map Dm.all] := by
  unfold mksOf St.mark
  simp only
  rw [List.range_succ, List.map_append]
  congr 1
  · refine List.map_congr_left fun i hi => ?_
    have hi := List.mem_range.1 hi
    have : (i + 1) * s.now.length ≤ s.marks * s.now.length := Nat.mul_le_mul_right _ hi
    rw [Nat.succ_mul] at this
    rw [List.drop_append_of_le_length (by omega), List.take_append_of_le_length (by rw [List.length_drop]; omega)]
  · simp only [List.map_cons, List.map_nil]
    rw [List.drop_append, List.drop_eq_nil_of_le (by omega), hl]
    simp
end Go.Proofs.YtdfbmfikhccajaaGreatDoor

namespace Go.Proofs.YtdfbmfikhccajaaGreatDoor
open Go.RowKit
section
variable {B p : Nat} {nv mv : Value} {s : St}
set_option maxRecDepth 10000 in
set_option maxHeartbeats 400000 in
theorem lo_no (x : Int) (hx : isB s.now.length x = false) (w : World) (h : StAt B w p nv mv s) : Calls Tryz.prog 17 #[.pointer (some ⟨p, 0, none⟩), .int .i64 x] w fun e w' => e = .returned (.int .i64 0) ∧ Below w.heap.size w w' := by
  have HIs : Hid (Calls Tryz.prog 29 #[.pointer (some ⟨p, 0, none⟩), .int .i64 x] w fun e w' => e = .returned (.bool false) ∧ w' = w) := by
    have := is_any B p nv mv s x w h
    rw [hx] at this
    exact this
  clear h hx
  go_enter Tryz.func17, Tryz.ntmps17
  go_wp2_with fail
  refine calls_at HIs.out (by with_reducible rfl) (by with_reducible rfl) ?_
  rintro e w1 ⟨rfl, rfl⟩
  go_wp2_with fail
  go_ret
  exact ⟨rfl, Below.refl _ _⟩
set_option maxRecDepth 10000 in
set_option maxHeartbeats 400000 in
theorem hi_no (x : Int) (hx : isB s.now.length x = false) (w : World) (h : StAt B w p nv mv s) : Calls Tryz.prog 16 #[.pointer (some ⟨p, 0, none⟩), .int .i64 x] w fun e w' => e = .returned (.int .i64 0) ∧ Below w.heap.size w w' := by
  have HIs : Hid (Calls Tryz.prog 29 #[.pointer (some ⟨p, 0, none⟩), .int .i64 x] w fun e w' => e = .returned (.bool false) ∧ w' = w) := by
    have := is_any B p nv mv s x w h
    rw [hx] at this
    exact this
  clear h hx
  go_enter Tryz.func16, Tryz.ntmps16
  go_wp2_with fail
  refine calls_at HIs.out (by with_reducible rfl) (by with_reducible rfl) ?_
  rintro e w1 ⟨rfl, rfl⟩
  go_wp2_with fail
  go_ret
  exact ⟨rfl, Below.refl _ _⟩
set_option maxRecDepth 10000 in
set_option maxHeartbeats 400000 in
theorem size_no (x : Int) (hx : isB s.now.length x = false) (w : World) (h : StAt B w p nv mv s) : Calls Tryz.prog 13 #[.pointer (some ⟨p, 0, none⟩), .int .i64 x] w fun e w' => e = .returned (.int .i64 0) ∧ Below w.heap.size w w' := by
  have HIs : Hid (Calls Tryz.prog 29 #[.pointer (some ⟨p, 0, none⟩), .int .i64 x] w fun e w' => e = .returned (.bool false) ∧ w' = w) := by
    have := is_any B p nv mv s x w h
    rw [hx] at this
    exact this
  clear h hx
  go_enter Tryz.func13, Tryz.ntmps13
  go_wp2_with fail
  refine calls_at HIs.out (by with_reducible rfl) (by with_reducible rfl) ?_
  rintro e w1 ⟨rfl, rfl⟩
  go_wp2_with fail
  go_ret
  exact ⟨rfl, Below.refl _ _⟩
set_option maxRecDepth 10000 in
set_option maxHeartbeats 400000 in
theorem vals_no (x : Int) (hx : isB s.now.length x = false) (w : World) (h : StAt B w p nv mv s) : Calls Tryz.prog 14 #[.pointer (some ⟨p, 0, none⟩), .int .i64 x] w fun e w' => e = .returned (.slice none 0 0) ∧ Below w.heap.size w w' := by
  have HIs : Hid (Calls Tryz.prog 29 #[.pointer (some ⟨p, 0, none⟩), .int .i64 x] w fun e w' => e = .returned (.bool false) ∧ w' = w) := by
    have := is_any B p nv mv s x w h
    rw [hx] at this
    exact this
  clear h hx
  go_enter Tryz.func14, Tryz.ntmps14
  go_wp2_with fail
  refine calls_at HIs.out (by with_reducible rfl) (by with_reducible rfl) ?_
  rintro e w1 ⟨rfl, rfl⟩
  go_wp2_with fail
  go_ret
  exact ⟨rfl, Below.refl _ _⟩
set_option maxRecDepth 10000 in
set_option maxHeartbeats 400000 in
theorem has_no (x : Int) (hx : isB s.now.length x = false) (v : Int) (w : World) (h : StAt B w p nv mv s) : Calls Tryz.prog 15 #[.pointer (some ⟨p, 0, none⟩), .int .i64 x, .int .i64 v] w fun e w' => e = .returned (.bool false) ∧ Below w.heap.size w w' := by
  have HIs : Hid (Calls Tryz.prog 29 #[.pointer (some ⟨p, 0, none⟩), .int .i64 x] w fun e w' => e = .returned (.bool false) ∧ w' = w) := by
    have := is_any B p nv mv s x w h
    rw [hx] at this
    exact this
  clear h hx
  go_enter Tryz.func15, Tryz.ntmps15
  go_wp2_with fail
  refine calls_at HIs.out (by with_reducible rfl) (by with_reducible rfl) ?_
  rintro e w1 ⟨rfl, rfl⟩
  go_wp2_with fail
  go_ret
  exact ⟨rfl, Below.refl _ _⟩
end
theorem vs_none {w : World} : ∀ e w', (e = .returned (.slice none 0 0) ∧ Below w.heap.size w w') → VsOut [] w e w' := fun _ _ h => ⟨_, h.1, World.ownsRow_nil _ _ _ _, h.2⟩
theorem open_rel {s : St} (ha : Alls s) : ∀ k, k ≤ s.now.length → openR (s.now.map Dm.all) k = openL s.now k
  | 0, _ => rfl
  | k + 1, hk => by
    have hkl : k < s.now.length := hk
    obtain ⟨ho, hA⟩ := ha _ (List.getElem_mem hkl)
    rw [openR_succ _ _ (by rw [List.length_map]; exact hkl), openL_succ _ _ hkl, open_rel ha k (by omega)]
    refine congrArg (HAppend.hAppend _) ?_
    have e : ((s.now.map Dm.all)[k]'(by rw [List.length_map]; exact hkl)).length = s.now[k].all.length := by rw [List.getElem_map]
    have e3 : (s.now[k].all.length : Int) = bSize s.now[k].a s.now[k].b := all_len ho hA
    rw [e]
    by_cases h1 : 1 < s.now[k].all.length
    · rw [if_pos h1, if_pos (by omega)]
    · rw [if_neg h1, if_neg (by omega)]
end Go.Proofs.YtdfbmfikhccajaaGreatDoor
