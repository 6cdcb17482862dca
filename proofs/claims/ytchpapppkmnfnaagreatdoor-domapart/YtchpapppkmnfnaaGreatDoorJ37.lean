/-
  Put together: DrNew, DrOwn, DrMark.
-/
import Derived.Test.YtchpapppkmnfnaaGreatDoorJ22
import Derived.Test.YtchpapppkmnfnaaGreatDoorJ36
import Derived.Test.YtchpapppkmnfnaaGreatDoorDmMark
import Derived.Test.YtchpapppkmnfnaaGreatDoorJ18
import Derived.Test.YtchpapppkmnfnaaGreatDoorDrReads
import Derived.Test.YtchpapppkmnfnaaGreatDoorMdRegU
namespace Go.Proofs.YtchpapppkmnfnaaGreatDoor
open Go.RowKit

def newLL (m : Md.Mo) : List (List Int) := if (Md.check m).2 = 0 then m.vars.map (fun v => spanL v.lo v.hi) else []
/-- A store that is being made. -/
def NwAt (n r : Nat) (w : World) (LL : List (List Int)) : Prop := ∃ dv cs, w.heap[r]? = some (.cells #[dv, .slice none 0 0] 92 (0, 0)) ∧ w.ownsRow n 42 1 dv LL.length cs ∧ ∀ i (h : i < LL.length), ∃ u, cs[i]? = some u ∧ w.ownsRow n 3 1 u LL[i].length (LL[i].map (.int .i64))
theorem own_belowR {w w' : World} {B : Nat} {e : TypeId} {size : Nat} {v : Value} {n : Nat} {xs : List Value} (h : w.ownsRow B e size v n xs) (hb : Below w.heap.size w w') : w'.ownsRow B e size v n xs := own_keep h fun g hg => hb.block g (h.lt g hg).2
theorem NwAt.below {n r : Nat} {w w' : World} {LL : List (List Int)} (h : NwAt n r w LL) (hb : Below w.heap.size w w') : NwAt n r w' LL := by
  obtain ⟨dv, cs, h1, h2, h3⟩ := h
  refine ⟨dv, cs, (hb.block r (Array.getElem?_eq_some_iff.1 h1).1).trans h1, own_belowR h2 hb, fun i hi => ?_⟩
  obtain ⟨u, hu, hl⟩ := h3 i hi
  exact ⟨u, hu, own_belowR hl hb⟩
theorem NwAt.done {n r : Nat} {w : World} {LL : List (List Int)} (h : NwAt n r w LL) (hr : n ≤ r) (hf : Few LL) : RsAt n (fun k => n ≤ k ∧ k < w.heap.size) w r LL [] := by
  obtain ⟨dv, cs, h1, h2, h3⟩ := h
  refine ⟨⟨dv, .slice none 0 0, h1, ⟨cs, own_lessR h2 (Nat.zero_le _), fun g hg => h2.lt g hg, fun i hi => ?_⟩, ⟨[], World.ownsRow_nil _ _ _ _, (fun g hg => by cases hg), fun i hi => absurd hi (Nat.not_lt_zero _)⟩⟩, ⟨hr, (Array.getElem?_eq_some_iff.1 h1).1⟩, fun k hk => hk.1, fun k hk => hk.2, hf, (fun M hM => by cases hM), Nat.zero_le _⟩
  obtain ⟨u, hu, hl⟩ := h3 i hi
  exact ⟨u, hu, own_lessR hl (Nat.zero_le _), fun g hg => hl.lt g hg⟩
/-- One list more. -/
theorem NwAt.next {n r : Nat} {w w' : World} {LL : List (List Int)} {dv u v' : Value} {cs : List Value} {L : List Int} (h1 : w.heap[r]? = some (.cells #[dv, .slice none 0 0] 92 (0, 0))) (h2 : w.ownsRow n 42 1 dv LL.length cs) (h3 : ∀ i (h : i < LL.length), ∃ u, cs[i]? = some u ∧ w.ownsRow n 3 1 u LL[i].length (LL[i].map (.int .i64)))
    (hu : w.ownsRow n 3 1 u L.length (L.map (.int .i64))) (ho : w'.ownsRow n 42 1 v' (LL.length + 1) (cs ++ [u])) (hg : (w.alloc (.cells #[u] 42)).grownBy w' dv.ownBlock) : NwAt n r (w'.setCell ⟨r, 0, none⟩ v') (LL ++ [L]) ∧ w'.heap[r]? = some (.cells #[dv, .slice none 0 0] 92 (0, 0)) := by
  have hcl : cs.length = LL.length := by have := h2.1; omega
  have hT : ∀ (g : Nat) (cur : Array Value) (t : TypeId), t ≠ 42 → w.heap[g]? = some (.cells cur t (0, 0)) → w'.heap[g]? = some (.cells cur t (0, 0)) := fun g cur t ht hc => by
    have hlt := (Array.getElem?_eq_some_iff.1 hc).1
    rw [hg.block g (by simp; omega) (fun e => ?_), heap_alloc_old w _ hlt]
    · exact hc
    · obtain ⟨cur', hcur'⟩ := own_type h2 e.symm
      rw [hc] at hcur'
      injection hcur' with hcur'
      injection hcur' with _ e2 _
      exact ht e2
  have hr := hT r _ 92 (by decide) h1
  have hrl := (Array.getElem?_eq_some_iff.1 hr).1
  have row : ∀ {v : Value} {m : Nat} {xs : List Value}, w.ownsRow n 3 1 v m xs → (w'.setCell ⟨r, 0, none⟩ v').ownsRow n 3 1 v m xs := fun {v m xs} hv => by
    refine own_keep hv fun g hgv => ?_
    obtain ⟨cur, hcur⟩ := own_type hv hgv
    have e := hT g cur 3 (by decide) hcur
    rw [heap_setCell_other _ _ _ _ (fun e1 => ?_), e, hcur]
    subst e1
    rw [h1] at hcur
    injection hcur with hcur
    injection hcur with _ e2 _
    cases e2
  refine ⟨⟨v', cs ++ [u], ?_, ?_, fun i hi => ?_⟩, hr⟩
  · rw [heap_setCell_same _ _ _ _ _ _ hr]
    rfl
  · rw [List.length_append]
    refine own_keep ho fun g hgv => heap_setCell_other _ _ _ _ fun e1 => ?_
    subst e1
    obtain ⟨cur, hcur⟩ := own_type ho hgv
    rw [hr] at hcur
    injection hcur with hcur
    injection hcur with _ e2 _
    cases e2
  · rw [List.length_append, List.length_singleton] at hi
    by_cases hil : i < LL.length
    · obtain ⟨x, hx, hl⟩ := h3 i hil
      refine ⟨x, by rw [List.getElem?_append_left (by omega)]; exact hx, ?_⟩
      rw [List.getElem_append_left hil]
      exact row hl
    · have : i = LL.length := by omega
      subst this
      refine ⟨u, by rw [List.getElem?_append_right (by omega), hcl]; simp, ?_⟩
      rw [List.getElem_append_right (Nat.le_refl _)]
      simp only [Nat.sub_self, List.getElem_singleton]
      exact row hu
def spN (lo : Int) (k : Nat) : List Int := (List.range k).map fun j : Nat => lo + (j : Int)
theorem spN_succ (lo : Int) (k : Nat) : spN lo (k + 1) = spN lo k ++ [lo + (k : Int)] := by unfold spN; rw [List.range_succ, List.map_append]; rfl
theorem spN_len (lo : Int) (k : Nat) : (spN lo k).length = k := by simp [spN]
def RnOut (m : Md.Mo) (w : World) (e : Ending) (w' : World) : Prop := ∃ r S, e = .returned (.pointer (some ⟨r, 0, none⟩)) ∧ RsAt w.heap.size S w' r (newLL m) [] ∧ Below w.heap.size w w'

set_option maxRecDepth 10000 in
set_option maxHeartbeats 1000000 in
theorem rNew_any (m : Md.Mo) (vv vc vg : Value) (w : World) (h : MoAt w m vv vc vg) : Calls Tryz.prog 8 #[moVal m vv vc vg] w (RnOut m w) := by
  obtain ⟨W, hW⟩ : ∃ W, (w.alloc (.cells #[vv, vc, .bool m.has, vg] 26)).alloc (.cells #[.slice none 0 0, .slice none 0 0] 92) = W := ⟨_, rfl⟩
  have hb0 : Below w.heap.size w W := by rw [← hW]; exact ((Below.refl _ _).alloc (Nat.le_refl _) _).alloc (by simp) _
  have HB : Hid (Below w.heap.size w W) := hb0
  have g0 : W.heap[w.heap.size]? = some (.cells #[vv, vc, .bool m.has, vg] 26 (0, 0)) := by rw [← hW, heap_alloc_old (w.alloc _) _ (by simp)]; exact heap_alloc_new w _
  have g1 : W.heap[w.heap.size + 1]? = some (.cells #[.slice none 0 0, .slice none 0 0] 92 (0, 0)) := by rw [← hW]; exact heap_alloc2_new w _ _
  have hlt := (Array.getElem?_eq_some_iff.1 g0).1
  have HM : Hid (MoAt w m vv vc vg) := h
  have HCh : Hid (Calls Tryz.prog 32 #[.agg #[vv, vc, .bool m.has, vg]] W fun e w' => e = .returned (.tuple #[.int .i64 (Md.check m).1, .int .i64 (Md.check m).2]) ∧ Below W.heap.size W w') := Doc.refCheck_any m vv vc vg W (h.below hb0)
  have HE0 : Hid (∀ w', Below W.heap.size W w' → NwAt w.heap.size (w.heap.size + 1) w' []) := fun w' hb => ⟨_, [], (hb.block _ (Array.getElem?_eq_some_iff.1 g1).1).trans g1, World.ownsRow_nil _ _ _ _, fun i hi => absurd hi (Nat.not_lt_zero _)⟩
  have HV0 : Hid (∀ w', Off (fun k => k ≠ w.heap.size ∧ w.heap.size ≤ k) W w' → w'.heap[w.heap.size]? = some (.cells #[vv, vc, .bool m.has, vg] 26 (0, 0))) := fun w' ho => (ho.block _ hlt (fun e => e.1 rfl)).trans g0
  have c0 : W.cell? ⟨w.heap.size, 0, none⟩ = some vv := cell_of g0 0
  have c1 : W.cell? ⟨w.heap.size, 1, none⟩ = some vc := cell_of g0 1
  have c2 : W.cell? ⟨w.heap.size, 2, none⟩ = some (.bool m.has) := cell_of g0 2
  have c3 : W.cell? ⟨w.heap.size, 3, none⟩ = some vg := cell_of g0 3
  obtain ⟨va, vp, rfl, hvm, _, hvo⟩ := id HM.out.v
  clear hb0 g0 g1 hlt h
  unfold moVal
  go_enter Tryz.func8, Tryz.ntmps8
  go_wp2_with fail
  refine calls_at HCh.out (by with_reducible rfl) (by with_reducible rfl) ?_
  rintro e w1 ⟨rfl, hb1⟩
  have HB1 : Hid (Below W.heap.size W w1) := hb1
  clear hb1 c0 c1 c2 c3 hW
  by_cases hok : (Md.check m).2 = 0
  · have hR := Md.right_of hok
    have HNs : Hid (newLL m = m.vars.map (fun v => spanL v.lo v.hi)) := by show _ = _; unfold newLL; rw [if_pos hok]
    have hn := hR.nv
    have HOk : Hid (∀ v ∈ m.vars, Md.boundsB v.lo v.hi = true) := fun v hv => (hR.var v hv).2
    clear hR
    have HVC : Hid (∀ w', Below w.heap.size w w' → ∀ j (hj : j < m.vars.length), ∃ b off, va = some ⟨b, off, none⟩ ∧ w'.cell? ⟨b, off + j * 3 + 1, none⟩ = some (.int .i64 m.vars[j].lo) ∧ w'.cell? ⟨b, off + j * 3 + 2, none⟩ = some (.int .i64 m.vars[j].hi)) := fun w' hb j hj => by
      obtain ⟨b, off, e1, e2, e3⟩ := hvo (by omega)
      obtain ⟨f1, f2, f3⟩ := e3 j hj
      exact ⟨b, off, e1, (hb.cell (p := ⟨b, off + j * 3 + 1, none⟩) e2).trans f2, (hb.cell (p := ⟨b, off + j * 3 + 2, none⟩) e2).trans f3⟩
    clear hvo
    rw [hok]
    clear hok
    go_wp2_with fail
    go_loopw [6] (fun iv wr => ∃ (k : Nat), iv = .int .i64 (k : Int) ∧ k ≤ m.vars.length ∧ Hid (NwAt w.heap.size (w.heap.size + 1) wr ((m.vars.take k).map (fun v => spanL v.lo v.hi))) ∧ Hid (Below w.heap.size w wr) ∧ Hid (Off (fun k => k ≠ w.heap.size ∧ w.heap.size ≤ k) W wr)) (fun iv _ => m.vars.length - (intOf iv).toNat)
    case atStart => exact ⟨0, rfl, Nat.zero_le _, HE0.out w1 HB1.out, HB.out.trans (HB1.out.mono HB.out.size), Off.of_below HB1.out⟩
    case round =>
      obtain ⟨k, rfl, hk, HAr, HBr, HOr⟩ := hrel
      have y0 : wr.cell? ⟨w.heap.size, 0, none⟩ = some (.slice va m.vars.length vp) := cell_of (HV0.out wr HOr.out) 0
      by_cases hkn : k < m.vars.length
      · have hkI : (k : Int) < (m.vars.length : Int) := by omega
        obtain ⟨b, off, rfl, x1, x2⟩ := HVC.out wr HBr.out k hkn
        have HTk : Hid ((m.vars.take (k + 1)).map (fun v => spanL v.lo v.hi) = (m.vars.take k).map (fun v => spanL v.lo v.hi) ++ [spanL m.vars[k].lo m.vars[k].hi]) := by show _ = _; rw [List.take_succ_eq_append_getElem hkn, List.map_append]; rfl
        have hbd := HOk.out m.vars[k] (List.getElem_mem hkn)
        have HVk : Hid (∀ w', Below wr.heap.size wr w' → w'.cell? ⟨w.heap.size, 0, none⟩ = some (.slice (some ⟨b, off, none⟩) m.vars.length vp) ∧ w'.cell? ⟨b, off + k * 3 + 2, none⟩ = some (.int .i64 m.vars[k].hi)) := fun w' hb => by
          refine ⟨cell_of (HV0.out w' (HOr.out.trans (Off.of_below hb))) 0, ?_⟩
          obtain ⟨b', off', e, _, x⟩ := HVC.out w' (HBr.out.trans (hb.mono HBr.out.size)) k hkn
          injection e with e
          injection e with e1 e2
          subst e1 e2
          exact x
        obtain ⟨v, hv⟩ : ∃ v, m.vars[k] = v := ⟨_, rfl⟩
        rw [hv] at x1 x2 HTk hbd HVk
        clear hv
        have hbb := Md.bounds_of hbd
        go_wp2_with fail
        have HSp : Hid (spanL v.lo v.hi = spN v.lo (v.hi - v.lo + 1).toNat) := rfl
        obtain ⟨n, hnn⟩ : ∃ n : Nat, (v.hi - v.lo + 1).toNat = n := ⟨_, rfl⟩
        rw [hnn] at HSp
        have hnn' : (n : Int) = v.hi - v.lo + 1 := by omega
        go_loopw [7, 8] (fun lv iv wz => ∃ (j : Nat) (ov : Value), lv = ov ∧ iv = .int .i64 (v.lo + (j : Int)) ∧ j ≤ n ∧ Hid (wz.ownsRow wr.heap.size 3 1 ov j ((spN v.lo j).map (.int .i64))) ∧ Hid (Below wr.heap.size wr wz)) (fun _ iv _ => (v.hi + 1 - intOf iv).toNat)
        case atStart => exact ⟨0, _, rfl, by simp, Nat.zero_le _, World.ownsRow_nil _ _ _ _, Below.refl _ _⟩
        case round =>
          obtain ⟨j, _, rfl, rfl, hj, HO, HBz⟩ := hrel
          rename World => wz
          obtain ⟨z0, z2⟩ := HVk.out wz HBz.out
          by_cases hjn : j < n
          · have hjI : v.lo + (j : Int) ≤ v.hi := by omega
            have HSu : Hid (spN v.lo (j + 1) = spN v.lo j ++ [v.lo + (j : Int)]) := spN_succ _ _
            go_wp2_with (first
              | (at_builtin; refine append_one wz (.int .i64 (v.lo + (j : Int))) rfl _ _ 42 3 (.int .i64 0) 8 rfl un53 inf3 rfl wr.heap.size _ _ _ (by rfl) HO.out rfl _ rfl (by rfl) (by unfold maxLen; omega) (by omega) HBz.out.size ?_; intro v6 w6 ho6 hg6 hn6))
            have HO6 : Hid (w6.ownsRow wr.heap.size 3 1 v6 (j + 1) ((spN v.lo (j + 1)).map (.int .i64))) := by
              show World.ownsRow _ _ _ _ _ _ _
              rw [HSu.out, List.map_append]
              exact ho6
            have HB6 : Hid (Below wr.heap.size wr w6) := (HBz.out.alloc HBz.out.size _).grown hg6 (Nat.le_trans HBz.out.size (by simp)) (fun g hg => (HO.out.lt g hg).1)
            clear ho6 hg6 hn6
            have e1 : IntKind.i64.wrap (v.lo + (j : Int) + 1) = v.lo + ((j + 1 : Nat) : Int) := by rw [wrap_id (by omega) (by omega)]; omega
            go_wp2_with fail
            go_roundw
            case rel => exact ⟨j + 1, v6, rfl, by first | rfl | go_num | (rw [← e1]; rfl), hjn, HO6, HB6⟩
            case measure => simp [intOf]; omega
          · have hje : j = n := by omega
            subst hje
            have hjI : ¬ v.lo + (j : Int) ≤ v.hi := by omega
            have HAz : Hid (NwAt w.heap.size (w.heap.size + 1) wz ((m.vars.take k).map (fun v => spanL v.lo v.hi))) := HAr.out.below HBz.out
            obtain ⟨dv, cs, a1, a2, a3⟩ := id HAz.out
            have HA1 : Hid (wz.heap[w.heap.size + 1]? = some (.cells #[dv, .slice none 0 0] 92 (0, 0)) ∧ wz.ownsRow w.heap.size 42 1 dv ((m.vars.take k).map (fun v => spanL v.lo v.hi)).length cs ∧ ∀ i (h : i < ((m.vars.take k).map (fun v => spanL v.lo v.hi)).length), ∃ u, cs[i]? = some u ∧ wz.ownsRow w.heap.size 3 1 u ((m.vars.take k).map (fun v => spanL v.lo v.hi))[i].length (((m.vars.take k).map (fun v => spanL v.lo v.hi))[i].map (.int .i64))) := ⟨a1, a2, a3⟩
            have p0 : wz.cell? ⟨w.heap.size + 1, 0, none⟩ = some dv := cell_of a1 0
            have pz : ∀ i, wz.frozen? ⟨w.heap.size + 1, i, none⟩ = false := frozen_of a1
            have HU : Hid (wz.ownsRow w.heap.size 3 1 u7 (spanL v.lo v.hi).length ((spanL v.lo v.hi).map (.int .i64))) := by
              show World.ownsRow _ _ _ _ _ _ _
              rw [HSp.out, spN_len]
              exact own_lessR HO.out HBr.out.size
            have HKl : ((m.vars.take k).map (fun v => spanL v.lo v.hi)).length = k := by rw [List.length_map, List.length_take]; omega
            have HBw : Hid (Below w.heap.size w wz) := HBr.out.trans (HBz.out.mono HBr.out.size)
            obtain ⟨ua, uc, rfl⟩ : ∃ ua uc, u7 = .slice ua j uc := by
              rcases HO.out.2 with ⟨e, e2⟩ | ⟨g', cap', _, e, _⟩
              · exact ⟨none, 0, by rw [e, e2]⟩
              · exact ⟨_, _, e⟩
            have HNe : Hid (∀ g, dv.ownBlock = some g → g ≠ w.heap.size ∧ w.heap.size ≤ g) := fun g hg => by
              refine ⟨fun e => ?_, (a2.lt g hg).1⟩
              obtain ⟨cur, hcur⟩ := own_type a2 hg
              rw [e, HV0.out wz (HOr.out.trans (Off.of_below HBz.out))] at hcur
              injection hcur with hcur
              injection hcur with _ e2 _
              cases e2
            clear a1 a2 a3
            go_wp2_with (first
              | (at_builtin; refine append_one wz (.slice ua j uc) rfl _ _ 41 42 (.slice none 0 0) 24 rfl un63 inf53 rfl w.heap.size _ _ _ (by rfl) HA1.out.2.1 rfl _ rfl (by rfl) (by unfold maxLen; omega) (by omega) HBw.out.size ?_; intro v6 w6 ho6 hg6 hn6; obtain ⟨a6, c6, rfl⟩ := own_slice ho6; (have hnx := NwAt.next HA1.out.1 HA1.out.2.1 HA1.out.2.2 HU.out ho6 hg6); (have HNx : Hid (NwAt w.heap.size (w.heap.size + 1) (w6.setCell ⟨w.heap.size + 1, 0, none⟩ (.slice a6 _ c6)) ((m.vars.take k).map (fun v => spanL v.lo v.hi) ++ [spanL v.lo v.hi])) := hnx.1); (have q0 : w6.cell? ⟨w.heap.size + 1, 0, none⟩ = some dv := cell_of hnx.2 0); (have qz : ∀ i, w6.frozen? ⟨w.heap.size + 1, i, none⟩ = false := frozen_of hnx.2); (have HB6 : Hid (Below w.heap.size w w6) := (HBw.out.alloc HBw.out.size _).grown hg6 (Nat.le_trans HBw.out.size (by simp)) (fun g hg => (HA1.out.2.1.lt g hg).1)); (have HO6 : Hid (Off (fun k => k ≠ w.heap.size ∧ w.heap.size ≤ k) W w6) := (HOr.out.trans (Off.of_below HBz.out)).trans ((Off.of_below ((Below.refl _ _).alloc (Nat.le_refl _) _)).trans (Off.grown hg6 (fun g hg => HNe.out g hg)))); clear hnx ho6 hg6 hn6))
            go_roundw
            case rel => exact ⟨k + 1, by go_num, hkn, by rw [HTk.out]; have := HNx.out; rw [HKl] at this; exact this, HB6.out.setCell (Nat.le_succ _) _, HO6.out.trans (Off.set _ ⟨by omega, Nat.le_succ _⟩)⟩
            case measure => simp [intOf]; omega
      · have hke : k = m.vars.length := by omega
        subst hke
        rw [List.take_length, ← HNs.out] at HAr
        have hkI : ¬ (m.vars.length : Int) < (m.vars.length : Int) := by omega
        go_wp2_with fail
        go_ret
        refine ⟨_, _, rfl, HAr.out.done (Nat.le_succ _) ⟨?_, ?_⟩, HBr.out⟩
        · rw [HNs.out, List.length_map]; exact hn.2
        · intro L hL
          rw [HNs.out] at hL
          obtain ⟨v, hv, rfl⟩ := List.mem_map.1 hL
          have := Md.bounds_of (HOk.out v hv)
          simp [spanL]
          omega
  · have hok' : ((Md.check m).2 == 0) = false := by simpa using hok
    have HNs : Hid (newLL m = []) := by show _ = _; unfold newLL; rw [if_neg hok]
    go_wp2_with fail
    go_loopw [6] (fun iv wr => iv = .int .i64 0 ∧ w1 = wr) (fun _ _ => 0)
    case atStart => exact ⟨rfl, rfl⟩
    case round =>
      obtain ⟨rfl, rfl⟩ := hrel
      have y0 : w1.cell? ⟨w.heap.size, 0, none⟩ = some (.slice va m.vars.length vp) := cell_of (HV0.out w1 (Off.of_below HB1.out)) 0
      by_cases hl : 0 < m.vars.length
      · have hlI : (0 : Int) < (m.vars.length : Int) := by omega
        go_wp2_with fail
        go_ret
        exact ⟨_, _, rfl, by rw [HNs.out]; exact (HE0.out w1 HB1.out).done (Nat.le_succ _) ⟨Nat.zero_le _, fun L hL => by cases hL⟩, HB.out.trans (HB1.out.mono HB.out.size)⟩
      · have hlI : ¬ (0 : Int) < (m.vars.length : Int) := by omega
        go_wp2_with fail
        go_ret
        exact ⟨_, _, rfl, by rw [HNs.out]; exact (HE0.out w1 HB1.out).done (Nat.le_succ _) ⟨Nat.zero_le _, fun L hL => by cases hL⟩, HB.out.trans (HB1.out.mono HB.out.size)⟩
end Go.Proofs.YtchpapppkmnfnaaGreatDoor

namespace Go.Proofs.YtchpapppkmnfnaaGreatDoor
open Go.RowKit

/-- Lists in blocks that are n or more. -/
def FrR (n : Nat) (w : World) (u : Value) (LL : List (List Int)) : Prop := ∃ cs, w.ownsRow n 42 1 u LL.length cs ∧ ∀ i (h : i < LL.length), ∃ x, cs[i]? = some x ∧ w.ownsRow n 3 1 x LL[i].length (LL[i].map (.int .i64))
theorem FrR.below {n : Nat} {w w' : World} {u : Value} {LL : List (List Int)} (h : FrR n w u LL) (hb : Below w.heap.size w w') : FrR n w' u LL := by
  obtain ⟨cs, h2, h3⟩ := h
  refine ⟨cs, own_belowR h2 hb, fun i hi => ?_⟩
  obtain ⟨x, hx, hl⟩ := h3 i hi
  exact ⟨x, hx, own_belowR hl hb⟩
theorem FrR.nil (n : Nat) (w : World) : FrR n w (.slice none 0 0) [] := ⟨[], World.ownsRow_nil _ _ _ _, fun _ hi => absurd hi (Nat.not_lt_zero _)⟩
theorem FrR.lss {n : Nat} {S : Nat → Prop} {w : World} {u : Value} {LL : List (List Int)} (h : FrR n w u LL) (hS : ∀ k, n ≤ k → k < w.heap.size → S k) : LssR S w u LL := by
  obtain ⟨cs, h2, h3⟩ := h
  refine ⟨cs, own_lessR h2 (Nat.zero_le _), fun g hg => hS g (h2.lt g hg).1 (h2.lt g hg).2, fun i hi => ?_⟩
  obtain ⟨x, hx, hl⟩ := h3 i hi
  exact ⟨x, hx, own_lessR hl (Nat.zero_le _), fun g hg => hS g (hl.lt g hg).1 (hl.lt g hg).2⟩
theorem FrR.lo {n : Nat} {w : World} {u : Value} {LL : List (List Int)} (h : FrR n w u LL) {g : Nat} (hg : u.ownBlock = some g) : n ≤ g ∧ g < w.heap.size := by
  obtain ⟨cs, h2, _⟩ := h
  exact h2.lt g hg
theorem FrR.next {n : Nat} {w w' : World} {LL : List (List Int)} {ov u v' : Value} {L : List Int} {cs : List Value} (h2 : w.ownsRow n 42 1 ov LL.length cs) (h3 : ∀ i (h : i < LL.length), ∃ x, cs[i]? = some x ∧ w.ownsRow n 3 1 x LL[i].length (LL[i].map (.int .i64)))
    (hu : w.ownsRow n 3 1 u L.length (L.map (.int .i64))) (ho : w'.ownsRow n 42 1 v' (LL.length + 1) (cs ++ [u])) (hg : (w.alloc (.cells #[u] 42)).grownBy w' ov.ownBlock) : FrR n w' v' (LL ++ [L]) := by
  have hcl : cs.length = LL.length := by have := h2.1; omega
  have row : ∀ {v : Value} {m : Nat} {xs : List Value}, w.ownsRow n 3 1 v m xs → w'.ownsRow n 3 1 v m xs := fun {v m xs} hv => by
    refine own_keep hv fun g hgv => ?_
    obtain ⟨cur, hcur⟩ := own_type hv hgv
    have hlt := (Array.getElem?_eq_some_iff.1 hcur).1
    rw [hg.block g (by simp; omega) (fun e => ?_), heap_alloc_old w _ hlt]
    obtain ⟨cur', hcur'⟩ := own_type h2 e.symm
    rw [hcur] at hcur'
    injection hcur' with hcur'
    injection hcur' with _ e2 _
    cases e2
  refine ⟨cs ++ [u], by rw [List.length_append]; exact ho, fun i hi => ?_⟩
  rw [List.length_append, List.length_singleton] at hi
  by_cases hil : i < LL.length
  · obtain ⟨x, hx, hl⟩ := h3 i hil
    refine ⟨x, by rw [List.getElem?_append_left (by omega)]; exact hx, ?_⟩
    rw [List.getElem_append_left hil]
    exact row hl
  · have : i = LL.length := by omega
    subst this
    refine ⟨u, by rw [List.getElem?_append_right (by omega), hcl]; simp, ?_⟩
    rw [List.getElem_append_right (Nat.le_refl _)]
    simp only [Nat.sub_self, List.getElem_singleton]
    exact row hu
def OwOut (LL : List (List Int)) (w : World) (e : Ending) (w' : World) : Prop := ∃ u, e = .returned u ∧ FrR w.heap.size w' u LL ∧ Below w.heap.size w w'

set_option maxRecDepth 10000 in
set_option maxHeartbeats 1000000 in
theorem own_any {S : Nat → Prop} {v : Value} {LL : List (List Int)} (w : World) (h : LssR S w v LL) (hS : ∀ k, S k → k < w.heap.size) (hf : Few LL) : Calls Tryz.prog 80 #[v] w (OwOut LL w) := by
  obtain ⟨a, cap, rfl, hr⟩ := h.form
  have HR : Hid (∀ w', Below w.heap.size w w' → ∀ j (hj : j < LL.length), ∃ g u, a = some ⟨g, 0, none⟩ ∧ w'.cell? ⟨g, j, none⟩ = some u ∧ LsR S w' u LL[j]) := fun w' hb j hj => by
    obtain ⟨g, u, e, h1, h2, h3, _⟩ := hr j hj
    exact ⟨g, u, e, (hb.cell (p := ⟨g, j, none⟩) (hS g h1)).trans h2, h3.keep fun k hk => hb.block k (hS k hk)⟩
  have hn := hf.n
  have HLn : Hid (∀ j (hj : j < LL.length), LL[j].length ≤ 64) := fun j hj => hf.ls _ (List.getElem_mem hj)
  have HNil : Hid (∀ (w : World) (B : Nat) (e : TypeId) (s : Nat), w.ownsRow B e s (.slice none 0 0) 0 []) := fun w B e s => World.ownsRow_nil w B e s
  clear h hr hS hf
  go_enter Tryz.func80, Tryz.ntmps80
  go_wp2_with fail
  go_loopw [3, 4] (fun oq iv wr => ∃ (k : Nat) (ov : Value), oq = ov ∧ iv = .int .i64 (k : Int) ∧ k ≤ LL.length ∧ Hid (FrR w.heap.size wr ov (LL.take k)) ∧ Hid (Below w.heap.size w wr)) (fun _ iv _ => LL.length - (intOf iv).toNat)
  case atStart => exact ⟨0, _, rfl, rfl, Nat.zero_le _, FrR.nil _ _, Below.refl _ _⟩
  case round =>
    obtain ⟨k, _, rfl, rfl, hk, HF, HBr⟩ := hrel
    by_cases hkn : k < LL.length
    · have hkI : (k : Int) < (LL.length : Int) := by omega
      obtain ⟨g, u, rfl, c0, hl⟩ := HR.out wr HBr.out k hkn
      have hl64 := HLn.out k hkn
      have HTk : Hid (LL.take (k + 1) = LL.take k ++ [LL[k]]) := List.take_succ_eq_append_getElem hkn
      have HSr := ls_src hl
      obtain ⟨la, lc, rfl, _⟩ := hl.form
      obtain ⟨L, hLL⟩ : ∃ L, LL[k] = L := ⟨_, rfl⟩
      rw [hLL] at hl64 HTk HSr c0
      have HSrc : Hid (SrcAt wr (.slice la L.length lc) L.length 1 (L.map (.int .i64))) := HSr
      have HKl : Hid ((LL.take k).length = k) := by show _ = _; rw [List.length_take]; omega
      clear HSr hl hLL
      go_wp2_with (first
        | (at_builtin; refine append_src wr rfl (.const (.slice none 0 0)) (.tmp 15) 42 3 (.int .i64 0) 1 8 rfl un53 inf3 rfl (by decide) wr.heap.size _ _ 0 L.length [] _ (by rfl) (by rfl) (HNil.out _ _ _ _) HSrc.out (by unfold maxLen; omega) (by omega) (Nat.le_refl _) ?_; intro v2 w2 ho2 hg2 hn2; rw [Nat.zero_add, List.nil_append] at ho2; obtain ⟨a2, c2, rfl⟩ := own_slice ho2; (have hbx : Below wr.heap.size wr w2 := (Below.refl _ _).grown hg2 (Nat.le_refl _) (fun g hg => by cases hg)); (have HB2 : Hid (Below w.heap.size w w2) := HBr.out.trans (hbx.mono HBr.out.size)); (have HU2 : Hid (w2.ownsRow w.heap.size 3 1 (.slice a2 L.length c2) L.length (L.map (.int .i64))) := own_lessR ho2 HBr.out.size); obtain ⟨cs, k2, k3⟩ := HF.out.below hbx; (have HK : Hid (w2.ownsRow w.heap.size 42 1 u3 (LL.take k).length cs ∧ ∀ i (h : i < (LL.take k).length), ∃ x, cs[i]? = some x ∧ w2.ownsRow w.heap.size 3 1 x (LL.take k)[i].length ((LL.take k)[i].map (.int .i64))) := ⟨k2, k3⟩); clear ho2 hg2 hn2 hbx k2 k3)
        | (at_builtin; refine append_one w2 (.slice a2 L.length c2) rfl _ _ 41 42 (.slice none 0 0) 24 rfl un63 inf53 rfl w.heap.size _ _ _ (by rfl) HK.out.1 rfl _ rfl (by rfl) (by rw [HKl.out]; unfold maxLen; omega) (by rw [HKl.out]; omega) HB2.out.size ?_; intro v6 w6 ho6 hg6 hn6; (have HF6 : Hid (FrR w.heap.size w6 v6 (LL.take k ++ [L])) := FrR.next HK.out.1 HK.out.2 HU2.out ho6 hg6); (have HB6 : Hid (Below w.heap.size w w6) := (HB2.out.alloc HB2.out.size _).grown hg6 (Nat.le_trans HB2.out.size (by simp)) (fun g hg => (HK.out.1.lt g hg).1)); clear ho6 hg6 hn6))
      go_roundw
      case rel => exact ⟨k + 1, v6, rfl, by go_num, hkn, by rw [HTk.out]; exact HF6, HB6⟩
      case measure => simp [intOf]; omega
    · have hke : k = LL.length := by omega
      subst hke
      have hkI : ¬ (LL.length : Int) < (LL.length : Int) := by omega
      rw [List.take_length] at HF
      go_wp2_with fail
      go_ret
      exact ⟨_, rfl, HF.out, HBr.out⟩
end Go.Proofs.YtchpapppkmnfnaaGreatDoor

namespace Go.Proofs.YtchpapppkmnfnaaGreatDoor
open Go.RowKit

/-- Lists stay, where blocks of their types stay. -/
def Keeps (S : Nat → Prop) (w w' : World) : Prop := ∀ k cur t, S k → (t = 42 ∨ t = 3) → w.heap[k]? = some (.cells cur t (0, 0)) → w'.heap[k]? = some (.cells cur t (0, 0))
theorem own_keeps {S : Nat → Prop} {w w' : World} {B : Nat} {e : TypeId} {size : Nat} {v : Value} {n : Nat} {xs : List Value} (h : w.ownsRow B e size v n xs) (hS : ∀ g, v.ownBlock = some g → S g) (he : e = 42 ∨ e = 3) (hk : Keeps S w w') : w'.ownsRow B e size v n xs :=
  own_keep h fun g hg => by
    obtain ⟨cur, hc⟩ := own_type h hg
    rw [hk g cur e (hS g hg) he hc, hc]
theorem LssR.keepT {S : Nat → Prop} {w w' : World} {v : Value} {LL : List (List Int)} (h : LssR S w v LL) (hk : Keeps S w w') : LssR S w' v LL := by
  obtain ⟨cs, h1, h2, h3⟩ := h
  refine ⟨cs, own_keeps h1 h2 (.inl rfl) hk, h2, fun i hi => ?_⟩
  obtain ⟨u, hu, hl⟩ := h3 i hi
  exact ⟨u, hu, own_keeps hl.1 hl.2 (.inr rfl) hk, hl.2⟩
theorem type_ne {w : World} {k g : Nat} {c d : Array Value} {s t : TypeId} (h1 : w.heap[k]? = some (.cells c s (0, 0))) (h2 : w.heap[g]? = some (.cells d t (0, 0))) (h : s ≠ t) : k ≠ g := fun e => by
  rw [e, h2] at h1
  injection h1 with h1
  injection h1 with _ e2 _
  exact h e2.symm
theorem rs_mark {B : Nat} {S : Nat → Prop} {w w2 w6 : World} {r : Nat} {LL NN : List (List Int)} {MM : List (List (List Int))} {dv mv u v6 : Value} {cs : List Value} (h : RsAt B S w r LL MM) (ho : w.heap[r]? = some (.cells #[dv, mv] 92 (0, 0))) (hd : LssR S w dv LL)
    (m1 : w.ownsRow 0 41 1 mv MM.length cs) (m2 : ∀ g, mv.ownBlock = some g → S g) (m3 : ∀ i (h : i < MM.length), ∃ x, cs[i]? = some x ∧ LssR S w x MM[i] ∧ ∀ g, dv.ownBlock = some g → x.ownBlock ≠ some g)
    (hb : Below w.heap.size w w2) (hN : Few NN) (hF : FrR w.heap.size w2 u NN) (ho6 : w6.ownsRow 0 41 1 v6 (MM.length + 1) (cs ++ [u])) (hg : (w2.alloc (.cells #[u] 41)).grownBy w6 mv.ownBlock) (hv6 : mv.ownBlock = v6.ownBlock ∨ ∃ g, v6.ownBlock = some g ∧ w2.heap.size ≤ g) (hm : MM.length + 1 ≤ 10000) :
    (∃ S', RsAt B S' (w6.setCell ⟨r, 1, none⟩ v6) r LL (MM ++ [NN]) ∧ SStp B S w (w6.setCell ⟨r, 1, none⟩ v6) ∧ Grown S w (w6.setCell ⟨r, 1, none⟩ v6) S') ∧ w6.heap[r]? = some (.cells #[dv, mv] 92 (0, 0)) := by
  have hBw : B ≤ w.heap.size := Nat.le_of_lt (Nat.lt_of_le_of_lt (h.lo r h.sr) (h.lt r h.sr))
  have hs6 : w2.heap.size + 1 ≤ w6.heap.size := by have := hg.size; simpa using this
  have hmr : ∀ g, mv.ownBlock = some g → g ≠ r := fun g hg' => by
    obtain ⟨cur, hc⟩ := own_type m1 hg'
    exact type_ne hc ho (by decide)
  have far : ∀ k, k < w2.heap.size → mv.ownBlock ≠ some k → w6.heap[k]? = w2.heap[k]? := fun k hk hn => by
    rw [hg.block k (by simp; omega) (fun e => hn e.symm), heap_alloc_old w2 _ hk]
  have hr6 : w6.heap[r]? = some (.cells #[dv, mv] 92 (0, 0)) := by
    rw [far r (Nat.lt_of_lt_of_le (h.lt r h.sr) hb.size) (fun e => hmr r e rfl), hb.block r (h.lt r h.sr), ho]
  have hsz : (w6.setCell ⟨r, 1, none⟩ v6).heap.size = w6.heap.size := by simp
  have hK : Keeps (fun _ => True) w2 (w6.setCell ⟨r, 1, none⟩ v6) := fun k cur t _ ht hc => by
    have hkl := (Array.getElem?_eq_some_iff.1 hc).1
    have h1 : mv.ownBlock ≠ some k := fun e => by
      obtain ⟨cur', hc'⟩ := own_type (own_keep m1 (w' := w2) fun g hg' => hb.block g (h.lt g (m2 g hg'))) e
      refine type_ne hc hc' ?_ rfl
      rcases ht with rfl | rfl <;> decide
    have h2 : w6.heap[k]? = some (.cells cur t (0, 0)) := (far k hkl h1).trans hc
    rw [heap_setCell_other _ _ _ _ (type_ne h2 hr6 (by rcases ht with rfl | rfl <;> decide)), h2]
  have hKS : Keeps S w (w6.setCell ⟨r, 1, none⟩ v6) := fun k cur t hS ht hc => hK k cur t trivial ht ((hb.block k (h.lt k hS)).trans hc)
  have hcl : cs.length = MM.length := by have := m1.1; omega
  have sub : ∀ k, S k → S k ∨ (w.heap.size ≤ k ∧ k < w6.heap.size) := fun k hk => .inl hk
  have hul : ∀ g, u.ownBlock = some g → w.heap.size ≤ g ∧ g < w2.heap.size := fun g hg' => hF.lo hg'
  have hnew : LssR (fun k => S k ∨ (w.heap.size ≤ k ∧ k < w6.heap.size)) (w6.setCell ⟨r, 1, none⟩ v6) u NN :=
    (hF.lss (S := fun k => S k ∨ (w.heap.size ≤ k ∧ k < w6.heap.size)) (fun k a b => .inr ⟨a, by omega⟩)).keepT fun k cur t _ ht hc => hK k cur t trivial ht hc
  refine ⟨⟨fun k => S k ∨ (w.heap.size ≤ k ∧ k < w6.heap.size), ⟨⟨dv, v6, ?_, (hd.keepT hKS).more sub, ⟨cs ++ [u], ?_, ?_, fun i hi => ?_⟩⟩, .inl h.sr, ?_, ?_, h.few, ?_, by rw [List.length_append]; exact hm⟩, ⟨?_, ?_⟩, ?_⟩, hr6⟩
  · rw [heap_setCell_same _ _ _ _ _ _ hr6]
    rfl
  · rw [List.length_append]
    refine own_keep ho6 fun g hg' => heap_setCell_other _ _ _ _ ?_
    obtain ⟨cur, hc⟩ := own_type ho6 hg'
    exact type_ne hc hr6 (by decide)
  · intro g hg'
    rcases hv6 with e | ⟨g', e, e2⟩
    · exact .inl (m2 g (e.trans hg'))
    · rw [e] at hg'
      injection hg' with hg'
      subst hg'
      exact .inr ⟨Nat.le_trans hb.size e2, (ho6.lt _ e).2⟩
  · rw [List.length_append, List.length_singleton] at hi
    by_cases hil : i < MM.length
    · obtain ⟨x, hx, hl, ha⟩ := m3 i hil
      refine ⟨x, by rw [List.getElem?_append_left (by omega)]; exact hx, ?_, ha⟩
      rw [List.getElem_append_left hil]
      exact (hl.keepT hKS).more sub
    · have : i = MM.length := by omega
      subst this
      refine ⟨u, by rw [List.getElem?_append_right (by omega), hcl]; simp, ?_, fun g hg' e => ?_⟩
      · rw [List.getElem_append_right (Nat.le_refl _)]
        simp only [Nat.sub_self, List.getElem_singleton]
        exact hnew
      · obtain ⟨_, _, d2, _⟩ := hd
        have a1 := h.lt g (d2 g hg')
        have a2 := hul g e
        omega
  · rintro k (e | e)
    · exact h.lo k e
    · omega
  · rintro k (e | e)
    · rw [hsz]; have := h.lt k e; have := hb.size; omega
    · rw [hsz]; exact e.2
  · intro M hM
    rcases List.mem_append.1 hM with hM | hM
    · exact h.fews M hM
    · rw [List.mem_singleton.1 hM]; exact hN
  · exact (((hb.mono hBw).alloc (Nat.le_trans hBw hb.size) _).grown hg (by simp; have := hb.size; omega) (fun g hg' => h.lo g (m2 g hg'))).setCell (h.lo r h.sr) _
  · exact ((Off.of_below hb).trans ((Off.of_below ((Below.refl _ _).alloc (Nat.le_refl _) _)).trans (Off.grown hg fun g hg' => m2 g hg'))).trans (Off.set _ h.sr)
  · rintro k (e | e)
    · exact .inl e
    · exact .inr (by rw [hsz]; exact e)
def RmOut (B : Nat) (S : Nat → Prop) (r : Nat) (LL : List (List Int)) (MM : List (List (List Int))) (w : World) (e : Ending) (w' : World) : Prop := e = .returned (.int .i64 (MM.length : Int)) ∧ ∃ S', RsAt B S' w' r LL (MM ++ [LL]) ∧ SStp B S w w' ∧ Grown S w w' S'

theorem src_1 {w : World} {b : Nat} {u : Value} {t : TypeId} (h : w.heap[b]? = some (.cells #[u] t (0, 0))) (h1 : u.oneCell' = true) : SrcAt w (.slice (some ⟨b, 0, none⟩) 1 1) 1 1 [u] :=
  ⟨_, _, rfl, rfl, (fun v hv => by rw [List.mem_singleton.1 hv]; exact h1), (fun e => by cases e), fun ad e j v hj => by
    injection e with e
    subst e
    exact World.news_of_block h j v hj⟩
set_option maxRecDepth 10000 in
set_option maxHeartbeats 1000000 in
theorem rMark_any {B : Nat} {S : Nat → Prop} {r : Nat} {LL : List (List Int)} {MM : List (List (List Int))} (w : World) (h : RsAt B S w r LL MM) (hm : MM.length + 1 ≤ 10000) : Calls Tryz.prog 34 #[.pointer (some ⟨r, 0, none⟩)] w (RmOut B S r LL MM w) := by
  obtain ⟨dv, mv, ho, hd, cs, m1, m2, m3⟩ := h.ex
  have HOw : Hid (∀ w', Below w.heap.size w w' → Calls Tryz.prog 80 #[dv] w' (OwOut LL w')) := fun w' hb => own_any w' (hd.keep fun k hk => hb.block k (h.lt k hk)) (fun k hk => Nat.lt_of_lt_of_le (h.lt k hk) hb.size) h.few
  have HC : Hid (∀ w', Below w.heap.size w w' → w'.cell? ⟨r, 0, none⟩ = some dv ∧ w'.cell? ⟨r, 1, none⟩ = some mv ∧ w'.ownsRow 0 41 1 mv MM.length cs) := fun w' hb => by
    have f := (hb.block r (h.lt r h.sr)).trans ho
    exact ⟨cell_of f 0, cell_of f 1, own_keep m1 fun g hg => hb.block g (h.lt g (m2 g hg))⟩
  have HE : Hid (∀ (w2 w6 : World) (u v6 : Value), Below w.heap.size w w2 → FrR w.heap.size w2 u LL → w6.ownsRow 0 41 1 v6 (MM.length + 1) (cs ++ [u]) → (w2.alloc (.cells #[u] 41)).grownBy w6 mv.ownBlock → (mv.ownBlock = v6.ownBlock ∨ ∃ g, v6.ownBlock = some g ∧ w2.heap.size ≤ g) → (∃ S', RsAt B S' (w6.setCell ⟨r, 1, none⟩ v6) r LL (MM ++ [LL]) ∧ SStp B S w (w6.setCell ⟨r, 1, none⟩ v6) ∧ Grown S w (w6.setCell ⟨r, 1, none⟩ v6) S') ∧ w6.heap[r]? = some (.cells #[dv, mv] 92 (0, 0))) := fun w2 w6 u v6 a1 a2 a3 a4 a5 => rs_mark h ho hd m1 m2 m3 a1 h.few a2 a3 a4 a5 hm
  have HC0 : Hid (w.drew.cell? ⟨r, 0, none⟩ = some dv ∧ w.drew.cell? ⟨r, 1, none⟩ = some mv) := ⟨(HC.out _ (Below.refl _ _).drew).1, (HC.out _ (Below.refl _ _).drew).2.1⟩
  obtain ⟨da, dc, rfl⟩ : ∃ a c, dv = .slice a LL.length c := by obtain ⟨_, d1, _⟩ := hd; exact own_slice d1
  obtain ⟨ma, mc, rfl⟩ := own_slice m1
  have hmI : (MM.length : Int) + 1 ≤ 10000 := by omega
  clear h ho hd m1 m2 m3
  go_enter Tryz.func34, Tryz.ntmps34
  go_wp2_with fail
  refine wp_region_T (fun w' => w'.cell? ⟨r, 0, none⟩ = some (.slice da LL.length dc)) (fun w' => w'.cell? ⟨r, 1, none⟩ = some (.slice ma MM.length mc)) [14] (by kernel_rfl) HC0.out (fun hHeld => ?_)
  clear HC0
  have HWs : Hid (Below w.heap.size w w.drew) := (Below.refl _ _).drew
  generalize w.drew = U at hHeld HWs ⊢
  refine wpAnyT_takeB (i := 0) (oi := ⟨some 3, .move (.tmp 0), _, _, _, _⟩) (v := ?vR1x0) rfl (by kernel_rfl) (by kernel_rfl) (by kernel_rfl) (by kernel_rfl) (fun _ _ _ h => h) (Or.inl ⟨by rfl, ?hyR1x0⟩) (by assumption) ?restR1x0
  case hyR1x0 => (intro w hSw; (try dsimp only at hSw); go_simp; try (with_reducible rfl))
  try simp only [Act.put, List.setIfInBounds_toArray, List.set_cons_zero, List.set_cons_succ]
  refine wpAnyT_takeB (i := 1) (oi := ⟨some 4, .move (.tmp 0), _, _, _, _⟩) (v := ?vR1x1) rfl (by kernel_rfl) (by kernel_rfl) (by kernel_rfl) (by kernel_rfl) (fun _ _ _ h => h) (Or.inl ⟨by rfl, ?hyR1x1⟩) (by assumption) ?restR1x1
  case hyR1x1 => (intro w hSw; (try dsimp only at hSw); go_simp; try (with_reducible rfl))
  try simp only [Act.put, List.setIfInBounds_toArray, List.set_cons_zero, List.set_cons_succ]
  refine wpAnyT_takeB (i := 2) (oi := ⟨some 5, .nilCheck (.tmp 4), _, _, _, _⟩) (v := ?vR1x2) rfl (by kernel_rfl) (by kernel_rfl) (by kernel_rfl) (by kernel_rfl) (fun _ _ _ h => h) (Or.inl ⟨by rfl, ?hyR1x2⟩) (by assumption) ?restR1x2
  case hyR1x2 => (intro w hSw; (try dsimp only at hSw); go_simp; try (with_reducible rfl))
  try simp only [Act.put, List.setIfInBounds_toArray, List.set_cons_zero, List.set_cons_succ]
  refine wpAnyT_takeB (i := 3) (oi := ⟨some 6, .fieldAddr 92 (.tmp 5) 1, _, _, _, _⟩) (v := ?vR1x3) rfl (by kernel_rfl) (by kernel_rfl) (by kernel_rfl) (by kernel_rfl) (fun _ _ _ h => h) (Or.inl ⟨by rfl, ?hyR1x3⟩) (by assumption) ?restR1x3
  case hyR1x3 => (intro w hSw; (try dsimp only at hSw); go_simp; try (with_reducible rfl))
  try simp only [Act.put, List.setIfInBounds_toArray, List.set_cons_zero, List.set_cons_succ]
  refine wpAnyT_take (i := 4) (oi := ⟨some 7, .load 50 (.tmp 6), _, _, _, _⟩) (v := ?vR1x4) rfl (by kernel_rfl) (by kernel_rfl) (by kernel_rfl) (by kernel_rfl) (by kernel_rfl) (fun _ _ _ h => h) (Or.inl ⟨by rfl, ?hyR1x4⟩) (by assumption) ?restR1x4
  case hyR1x4 => (intro w hSw; (try dsimp only at hSw); go_simp; try (with_reducible rfl))
  try simp only [Act.put, List.setIfInBounds_toArray, List.set_cons_zero, List.set_cons_succ]
  refine wpAnyT_takeB (i := 5) (oi := ⟨some 8, .move (.tmp 0), _, _, _, _⟩) (v := ?vR1x5) rfl (by kernel_rfl) (by kernel_rfl) (by kernel_rfl) (by kernel_rfl) (fun _ _ _ h => h) (Or.inl ⟨by rfl, ?hyR1x5⟩) (by assumption) ?restR1x5
  case hyR1x5 => (intro w hSw; (try dsimp only at hSw); go_simp; try (with_reducible rfl))
  try simp only [Act.put, List.setIfInBounds_toArray, List.set_cons_zero, List.set_cons_succ]
  refine wpAnyT_takeB (i := 6) (oi := ⟨some 9, .nilCheck (.tmp 8), _, _, _, _⟩) (v := ?vR1x6) rfl (by kernel_rfl) (by kernel_rfl) (by kernel_rfl) (by kernel_rfl) (fun _ _ _ h => h) (Or.inl ⟨by rfl, ?hyR1x6⟩) (by assumption) ?restR1x6
  case hyR1x6 => (intro w hSw; (try dsimp only at hSw); go_simp; try (with_reducible rfl))
  try simp only [Act.put, List.setIfInBounds_toArray, List.set_cons_zero, List.set_cons_succ]
  refine wpAnyT_takeB (i := 7) (oi := ⟨some 10, .fieldAddr 92 (.tmp 9) 0, _, _, _, _⟩) (v := ?vR1x7) rfl (by kernel_rfl) (by kernel_rfl) (by kernel_rfl) (by kernel_rfl) (fun _ _ _ h => h) (Or.inl ⟨by rfl, ?hyR1x7⟩) (by assumption) ?restR1x7
  case hyR1x7 => (intro w hSw; (try dsimp only at hSw); go_simp; try (with_reducible rfl))
  try simp only [Act.put, List.setIfInBounds_toArray, List.set_cons_zero, List.set_cons_succ]
  refine wpAnyT_takeB (i := 8) (oi := ⟨some 11, .load 41 (.tmp 10), _, _, _, _⟩) (v := ?vR1x8) rfl (by kernel_rfl) (by kernel_rfl) (by kernel_rfl) (by kernel_rfl) (fun _ _ _ h => h) (Or.inl ⟨by rfl, ?hyR1x8⟩) (by assumption) ?restR1x8
  case hyR1x8 => (intro w hSw; (try dsimp only at hSw); go_simp; try (with_reducible rfl))
  try simp only [Act.put, List.setIfInBounds_toArray, List.set_cons_zero, List.set_cons_succ]
  refine wpAnyT_one (i := 9) (o := ⟨some 12, .call { callee := .value (.func 80), args := #[(.tmp 11)], argTypes := #[41] }, _, _, _, _⟩) (by kernel_rfl) rfl (fun K hK => ?_)
  go_simp
  refine calls_at (HOw.out U HWs.out) (by with_reducible rfl) (by with_reducible rfl) ?_
  rintro e w2 ⟨u, rfl, hF, hb⟩
  obtain ⟨ua, uc, rfl⟩ : ∃ a c, u = .slice a LL.length c := by obtain ⟨_, d1, _⟩ := hF; exact own_slice d1
  go_wp2_with fail
  have HB2 : Hid (Below w.heap.size w w2) := bl_next HWs.out hb
  have HF : Hid (FrR w.heap.size w2 (.slice ua LL.length uc) LL) := by
    obtain ⟨cs', f1, f2⟩ := hF
    refine ⟨cs', own_lessR f1 HWs.out.size, fun i hi => ?_⟩
    obtain ⟨x, hx, hl⟩ := f2 i hi
    exact ⟨x, hx, own_lessR hl HWs.out.size⟩
  clear hHeld hb hF
  have hHeld : _ ∧ _ := ⟨(HC.out w2 HB2.out).1, (HC.out w2 HB2.out).2.1⟩
  refine hK.out _ _ ⟨hHeld.1, fun _ => hHeld.2⟩ ?_
  clear hK K
  try simp only [Act.put, List.setIfInBounds_toArray, List.set_cons_zero, List.set_cons_succ]
  refine wpAnyT_one (i := 10) (o := ⟨some 13, .buildSlice 50 1 #[(0, (.tmp 12))], _, _, _, _⟩) (by kernel_rfl) rfl (fun K hK => ?_)
  go_simp
  obtain ⟨Y, hY⟩ : ∃ Y, w2.alloc (.cells #[.slice ua LL.length uc] 41) = Y := ⟨_, rfl⟩
  have HBY : Hid (Below w.heap.size w Y) := by show Below _ _ _; rw [← hY]; exact HB2.out.alloc HB2.out.size _
  have HSc2 : Hid (SrcAt Y (.slice (some ⟨w2.heap.size, 0, none⟩) 1 1) 1 1 [.slice ua LL.length uc]) := src_1 (by rw [← hY]; exact heap_alloc_new w2 _) rfl
  have HY : Hid (w2.alloc (.cells #[.slice ua LL.length uc] 41) = Y) := hY
  have HYs : Hid (w2.heap.size ≤ Y.heap.size) := by show _ ≤ _; rw [← hY]; simp
  rw [hY]
  clear hY hHeld
  have hHeld : _ ∧ _ := ⟨(HC.out Y HBY.out).1, (HC.out Y HBY.out).2.1⟩
  refine hK.out _ _ ⟨hHeld.1, fun _ => hHeld.2⟩ ?_
  clear hK K
  try simp only [Act.put, List.setIfInBounds_toArray, List.set_cons_zero, List.set_cons_succ]
  refine wpAnyT_one (i := 11) (o := ⟨some 14, .call { callee := .builtin .append, args := #[(.tmp 7), (.tmp 13)], argTypes := #[50, 50] }, _, _, _, _⟩) (by kernel_rfl) rfl (fun K hK => ?_)
  have hown : Y.ownsRow 0 41 1 (.slice ma MM.length mc) MM.length cs := (HC.out Y HBY.out).2.2
  refine op_append_src Y (.tmp 7) (.tmp 13) 50 41 (.slice none 0 0) 1 24 rfl un64 inf63 rfl (by decide) 0 _ _ MM.length 1 cs _ (by rfl) (by rfl) hown HSc2.out (by unfold maxLen; omega) (by omega) (Nat.zero_le _) (by rfl) ?_
  intro v6 w6 o1 o2 o3
  obtain ⟨a6, c6, rfl⟩ := own_slice o1
  have hE := HE.out w2 w6 _ _ HB2.out HF.out o1 (by rw [HY.out]; exact o2) (by
    rcases o3 with e | e
    · exact .inl e.symm
    · exact .inr ⟨_, e, HYs.out⟩)
  have HSx : Hid (∃ S', RsAt B S' (w6.setCell ⟨r, 1, none⟩ (.slice a6 (MM.length + 1) c6)) r LL (MM ++ [LL]) ∧ SStp B S w (w6.setCell ⟨r, 1, none⟩ (.slice a6 (MM.length + 1) c6)) ∧ Grown S w (w6.setCell ⟨r, 1, none⟩ (.slice a6 (MM.length + 1) c6)) S') := hE.1
  have GP : Hid (w6.heap[r]? = some (.cells #[.slice da LL.length dc, .slice ma MM.length mc] 92 (0, 0))) := hE.2
  have c0 : w6.cell? ⟨r, 0, none⟩ = some (.slice da LL.length dc) := cell_of hE.2 0
  have c1 : w6.cell? ⟨r, 1, none⟩ = some (.slice ma MM.length mc) := cell_of hE.2 1
  have cz : ∀ i, w6.frozen? ⟨r, i, none⟩ = false := frozen_of hE.2
  clear hE o1 o2 o3 hown hHeld
  refine hK.out _ _ ⟨c0, fun _ => c1⟩ ?_
  have hHeld := (⟨c0, c1⟩ : _ ∧ _)
  clear hK K
  try simp only [Act.put, List.setIfInBounds_toArray, List.set_cons_zero, List.set_cons_succ]
  refine wpAnyT_takeB (i := 12) (oi := ⟨some 15, .nilCheck (.tmp 3), _, _, _, _⟩) (v := ?vR1x12) rfl (by kernel_rfl) (by kernel_rfl) (by kernel_rfl) (by kernel_rfl) (fun _ _ _ h => h) (Or.inl ⟨by rfl, ?hyR1x12⟩) (by assumption) ?restR1x12
  case hyR1x12 => (intro w hSw; (try dsimp only at hSw); go_simp; try (with_reducible rfl))
  try simp only [Act.put, List.setIfInBounds_toArray, List.set_cons_zero, List.set_cons_succ]
  refine wpAnyT_takeB (i := 13) (oi := ⟨some 16, .fieldAddr 92 (.tmp 15) 1, _, _, _, _⟩) (v := ?vR1x13) rfl (by kernel_rfl) (by kernel_rfl) (by kernel_rfl) (by kernel_rfl) (fun _ _ _ h => h) (Or.inl ⟨by rfl, ?hyR1x13⟩) (by assumption) ?restR1x13
  case hyR1x13 => (intro w hSw; (try dsimp only at hSw); go_simp; try (with_reducible rfl))
  try simp only [Act.put, List.setIfInBounds_toArray, List.set_cons_zero, List.set_cons_succ]
  refine wpAnyT_late (i := 14) (o := ⟨none, .store 50 (.tmp 16) (.tmp 14), _, _, _, _⟩) (by kernel_rfl) rfl (by kernel_rfl) (fun K hK => ?_)
  go_simp
  refine hK.out _ _ ?shR1x14 ?restR1x14
  case shR1x14 => ((try dsimp only); exact (cell_of (heap_setCell_same w6 r 1 _ 92 _ GP.out) 0).trans rfl)
  clear hK K
  try simp only [Act.put, List.setIfInBounds_toArray, List.set_cons_zero, List.set_cons_succ]
  refine wpAnyT_done (by kernel_rfl) ?_ _
  obtain ⟨X, hX⟩ : ∃ X, w6.setCell ⟨r, 1, none⟩ (.slice a6 (MM.length + 1) c6) = X := ⟨_, rfl⟩
  have x1 : X.cell? ⟨r, 1, none⟩ = some (.slice a6 (MM.length + 1) c6) := by rw [← hX]; exact (cell_of (heap_setCell_same w6 r 1 _ 92 _ GP.out) 1).trans rfl
  rw [hX] at HSx
  try rw [hX]
  clear hX c0 c1 cz hHeld
  go_wp2_with fail
  go_ret
  exact ⟨ret_int (by omega), HSx.out⟩
end Go.Proofs.YtchpapppkmnfnaaGreatDoor
