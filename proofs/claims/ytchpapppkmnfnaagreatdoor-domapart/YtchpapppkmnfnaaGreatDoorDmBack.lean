/-
  Package dom: Back.
-/
import Derived.Test.YtchpapppkmnfnaaGreatDoorDmMark
import Derived.Laws.CopyRow
namespace Go.Proofs.YtchpapppkmnfnaaGreatDoor
open Go.RowKit

/-- copy, of elements of three cells. -/
theorem run_copy3 (w : World) (ty : TypeId) (g dLen dCap : Nat) (a : Addr) (sLen sCap : Nat) (cur : Array Value) (t : TypeId) (cs : List Value)
    (hg : w.heap[g]? = some (.cells cur t (0, 0))) (hn : cs.length = Nat.min sLen dLen * 3)
    (hsrc : ∀ j v, cs[j]? = some v → w.cell? (a.add j) = some v) (hfit : cs.length ≤ cur.size) (h1 : ∀ v ∈ cs, v.oneCell' = true) :
    (Builtin.copy_ #[79, 79] ty #[.slice (some ⟨g, 0, none⟩) dLen dCap, .slice (some a) sLen sCap]).run Tryz.prog w =
      .ok (goInt (Nat.min sLen dLen)) (w.setRow g (cs ++ cur.toList.drop cs.length).toArray) := by
  have hl := run_loadCells_list (P := Tryz.prog) w a cs hsrc
  have hst := run_storeCells_at Tryz.prog g 0 t cs 0 cur w hg (by simpa using hfit) h1
  simp only [Nat.zero_add, Nat.add_zero, List.take_zero, List.nil_append] at hst
  obtain ⟨i, hq, _, hi, _⟩ := info_of info67b
  simp [Builtin.copy_, run_underlying und57, Builtin.lenOf, Builtin.firstCells, sizeOf, typeInfo, hq, hi, ← hn, hl, hst]
theorem run_copy0 (w : World) (ty : TypeId) (d a : Option Addr) (dCap sLen sCap : Nat) :
    (Builtin.copy_ #[79, 79] ty #[.slice d 0 dCap, .slice a sLen sCap]).run Tryz.prog w = .ok (goInt 0) w := by
  obtain ⟨i, hq, _, _, _⟩ := info_of info67b
  have hl : ∀ a, (loadCells a 0).run Tryz.prog w = .ok #[] w := fun a => run_loadCells_list (P := Tryz.prog) w a [] (by simp)
  cases d <;> cases a <;> simp [Builtin.copy_, run_underlying und57, Builtin.lenOf, Builtin.firstCells, sizeOf, typeInfo, hq, storeCells, hl]
/-- copy, as one step. -/
theorem step_copy {P : Program} {ops : Array Oper} {o : Oper} {a : Act} {w w' : World} {K : Act → World → Prop} {Q : Exit → Act → World → Prop} {E : Prop} (hgd : o.guard = none) (d s : Operand) (dT sT : TypeId)
    (ho : o.op = .call { callee := .builtin .copy, args := #[d, s], argTypes := #[dT, sT] }) (dv sv : Value) (hd : a.eval d = dv) (hs : a.eval s = sv) (n : Nat)
    (hrun : ∀ ty, (Builtin.copy_ #[dT, sT] ty #[dv, sv]).run P w = .ok (goInt n) w') (h : K (a.put o.dst (goInt n)) w') : if Region.wanted o (yielded ops a.tmps) = true then Oper.wp P o a w K Q else E := by
  have hw : Region.wanted o (yielded ops a.tmps) = true := by simp [Region.wanted, hgd]
  rw [if_pos hw]
  unfold Oper.wp
  simp [execOp, ho, resolve, invoke, builtin, hd, hs, hrun, Result.andThen]
  exact h

def St.backB (s : St) (k : Int) : Bool := decide (0 ≤ k) && decide (k < (s.marks : Int))
def St.back (s : St) (k : Int) : St := if s.backB k then ⟨(s.noted.drop (k.toNat * s.now.length)).take s.now.length, s.noted.take (k.toNat * s.now.length), k.toNat⟩ else s
/-- What Back leaves. -/
def BackOut (B p : Nat) (nv mv : Value) (s : St) (k : Int) (w : World) (e : Ending) (w' : World) : Prop := ∃ mv', e = .returned (.bool (s.backB k)) ∧ StAt B w' p nv mv' (s.back k) ∧ Stp B p nv mv w w' ∧ ∀ g, mv'.ownBlock = some g → mv.ownBlock = some g

theorem dms_take (L : List Dm) (k : Nat) : dms (L.take k) = (dms L).take (k * 3) := by
  induction L generalizing k with
  | nil => simp [dms]
  | cons d L ih =>
    cases k with
    | zero => simp [dms]
    | succ k =>
      have e : ∀ (d : Dm) (L : List Dm), dms (d :: L) = .int .i64 d.f :: .int .u32 d.a :: .int .u32 d.b :: dms L := fun d L => by simp [dms, Dm.cells]
      rw [List.take_succ_cons, e, e, ih, show (k + 1) * 3 = k * 3 + 1 + 1 + 1 by omega, List.take_succ_cons, List.take_succ_cons, List.take_succ_cons]
theorem dms_drop (L : List Dm) (k : Nat) : dms (L.drop k) = (dms L).drop (k * 3) := by
  induction L generalizing k with
  | nil => simp [dms]
  | cons d L ih =>
    cases k with
    | zero => simp [dms]
    | succ k =>
      have e : ∀ (d : Dm) (L : List Dm), dms (d :: L) = .int .i64 d.f :: .int .u32 d.a :: .int .u32 d.b :: dms L := fun d L => by simp [dms, Dm.cells]
      rw [List.drop_succ_cons, e, ih, show (k + 1) * 3 = k * 3 + 1 + 1 + 1 by omega, List.drop_succ_cons, List.drop_succ_cons, List.drop_succ_cons]

theorem back_at {B p g g' cap cap' q m : Nat} {cur cur' : Array Value} {s : St} {w V : World} (h : StAt B w p (.slice (some ⟨g, 0, none⟩) s.now.length cap) (.slice (some ⟨g', 0, none⟩) s.noted.length cap') s)
    (e2 : B ≤ g) (e5 : cap ≤ maxLen) (e4 : s.now.length ≤ cap) (e6 : cur.size = cap * 3) (f2 : B ≤ g') (f3 : w.heap[g']? = some (.cells cur' 89 (0, 0))) (f4 : s.noted.length ≤ cap') (f5 : cap' ≤ maxLen) (f6 : cur'.size = cap' * 3) (f7 : cur'.toList.take (s.noted.length * 3) = dms s.noted)
    (hgg : g ≠ g') (hq : q < s.marks) (hmk : m ≤ s.noted.length) (hn : 0 < s.now.length) (hle : m + s.now.length ≤ s.noted.length)
    (hV : V.heap[g]? = some (.cells (dms ((s.noted.drop m).take s.now.length) ++ cur.toList.drop (s.now.length * 3)).toArray 89 (0, 0)) ∧ ∀ j, j ≠ g → V.heap[j]? = w.heap[j]?)
    (gp : V.heap[p]? = some (.cells #[.slice (some ⟨g, 0, none⟩) s.now.length cap, .slice (some ⟨g', 0, none⟩) s.noted.length cap', .int .i64 (s.marks : Int)] 81 (0, 0))) (hm : q * s.now.length = m) :
    StAt B ((V.setCell ⟨p, 1, none⟩ (.slice (some ⟨g', 0, none⟩) m cap')).setCell ⟨p, 2, none⟩ (.int .i64 (q : Int))) p (.slice (some ⟨g, 0, none⟩) s.now.length cap) (.slice (some ⟨g', 0, none⟩) m cap') ⟨(s.noted.drop m).take s.now.length, s.noted.take m, q⟩ := by
  have hln : ((s.noted.drop m).take s.now.length).length = s.now.length := by rw [List.length_take, List.length_drop]; omega
  have hlm : (s.noted.take m).length = m := by rw [List.length_take]; omega
  have hcl : (dms ((s.noted.drop m).take s.now.length)).length = s.now.length * 3 := by rw [dms_len, hln]
  have hpg : g ≠ p := fun e => h.ne1 (by rw [e]; rfl)
  have hpg' : g' ≠ p := fun e => h.ne2 (by rw [e]; rfl)
  have hE := heap_setCell_same _ p 2 _ 81 (.int .i64 (q : Int)) (heap_setCell_same V p 1 _ 81 (.slice (some ⟨g', 0, none⟩) m cap') gp)
  have hoth : ∀ k, k ≠ p → ((V.setCell ⟨p, 1, none⟩ (.slice (some ⟨g', 0, none⟩) m cap')).setCell ⟨p, 2, none⟩ (.int .i64 (q : Int))).heap[k]? = V.heap[k]? := fun k hk => by
    rw [heap_setCell_other _ _ _ _ hk, heap_setCell_other _ _ _ _ hk]
  exact {
    o := by simpa only [List.setIfInBounds_toArray, List.set_cons_zero, List.set_cons_succ] using hE
    n := by
      show World.ownsRow _ _ _ _ _ ((s.noted.drop m).take s.now.length).length _
      rw [hln]
      refine ⟨hcl, .inr ⟨g, cap, _, rfl, e2, (hoth g hpg).trans hV.1, e4, e5, ?_, ?_⟩⟩
      · rw [List.size_toArray, List.length_append, hcl, List.length_drop, Array.length_toList, e6]
        have := Nat.mul_le_mul_right 3 e4
        omega
      · show List.take _ (_ ++ _) = _
        rw [← hcl, List.take_left]
    m := by
      show World.ownsRow _ _ _ _ _ (s.noted.take m).length (dms (s.noted.take m))
      rw [hlm]
      refine ⟨by rw [dms_len, hlm], .inr ⟨g', cap', cur', rfl, f2, ((hoth g' hpg').trans (hV.2 g' (Ne.symm hgg))).trans f3, by omega, f5, f6, ?_⟩⟩
      rw [dms_take, ← f7, List.take_take, Nat.min_eq_left (by omega)]
    b1 := h.b1
    p1 := h.p1
    ne1 := h.ne1
    ne2 := fun e => h.ne2 e
    ne3 := fun k hk e => h.ne3 k hk e
    good := fun d hd => h.goodm d (List.mem_of_mem_drop (List.mem_of_mem_take hd))
    goodm := fun d hd => h.goodm d (List.mem_of_mem_take hd)
    len := by show (s.noted.take m).length = q * ((s.noted.drop m).take s.now.length).length; rw [hlm, hln, hm]
    n32 := by show ((s.noted.drop m).take s.now.length).length ≤ 32; rw [hln]; exact h.n32
    mks := by show q ≤ 10000; have := h.mks; omega }

set_option maxRecDepth 10000 in
set_option maxHeartbeats 1000000 in
theorem back_any (B p : Nat) (nv mv : Value) (s : St) (k : Int) (w : World) (h : StAt B w p nv mv s) : Calls Tryz.prog 26 #[.pointer (some ⟨p, 0, none⟩), .int .i64 k] w (BackOut B p nv mv s k w) := by
  have c0 : w.cell? ⟨p, 0, none⟩ = some nv := cell_of h.o 0
  have c1 : w.cell? ⟨p, 1, none⟩ = some mv := cell_of h.o 1
  have c2 : w.cell? ⟨p, 2, none⟩ = some (.int .i64 (s.marks : Int)) := cell_of h.o 2
  have cz : ∀ i, w.frozen? ⟨p, i, none⟩ = false := frozen_of h.o
  have HA : Hid (StAt B w p nv mv s) := h
  by_cases hk0 : 0 ≤ k
  · by_cases hk1 : k < (s.marks : Int)
    · have HBk : Hid (s.backB k = true) := by show _ = _; simp [St.backB, hk0, hk1]
      obtain ⟨q, rfl⟩ : ∃ q : Nat, k = (q : Int) := ⟨k.toNat, by omega⟩
      have hq : q < s.marks := by omega
      have HBs : Hid (s.back q = ⟨(s.noted.drop (q * s.now.length)).take s.now.length, s.noted.take (q * s.now.length), q⟩) := by show _ = _; unfold St.back; rw [HBk.out, if_pos rfl]; rfl
      have hlen := h.len
      have hn32 := h.n32
      have hmk := h.mks
      have hsz := h.size
      rcases Nat.eq_zero_or_pos s.now.length with hn | hn
      · have hnil : s.now = [] := List.length_eq_zero_iff.1 hn
        have hml : s.noted = [] := List.length_eq_zero_iff.1 (by rw [hlen, hn, Nat.mul_zero])
        have HBs2 : Hid (s.back q = ⟨s.now, s.noted, q⟩) := by show _ = _; rw [HBs.out, hnil, hml]; simp
        have hm1 := h.m
        have hn1 := h.n
        obtain ⟨na, nc, rfl⟩ := own_slice hn1
        have hmr : ∃ ma mc, mv = .slice ma 0 mc ∧ (ma = none ∧ mc = 0 ∨ ∃ g', ma = some ⟨g', 0, none⟩) := by
          rcases hm1.2 with ⟨rfl, _⟩ | ⟨g', cap', cur', rfl, _⟩
          · exact ⟨none, 0, rfl, .inl ⟨rfl, rfl⟩⟩
          · exact ⟨_, cap', by rw [hml]; rfl, .inr ⟨g', rfl⟩⟩
        obtain ⟨ma, mc, rfl, hma⟩ := hmr
        have RC : Hid (∀ ty x c, (Builtin.copy_ #[79, 79] ty #[.slice na 0 nc, .slice x 0 c]).run Tryz.prog w.drew = .ok (goInt 0) w.drew) := fun ty x c => run_copy0 w.drew ty na x nc 0 c
        have HS : Hid (∀ w' : World, w'.heap[p]? = w.heap[p]? → w'.cell? ⟨p, 0, none⟩ = some (.slice na 0 nc) ∧ w'.cell? ⟨p, 1, none⟩ = some (.slice ma 0 mc) ∧ w'.heap[p]? = w.heap[p]?) := fun w' e => ⟨by have hh := cell_of (e.trans HA.out.o) 0; rw [hn] at hh; exact hh, cell_of (e.trans HA.out.o) 1, e⟩
        have HFin : Hid (∀ mv', mv' = .slice ma 0 mc → StAt B ((w.drew.setCell ⟨p, 1, none⟩ mv').setCell ⟨p, 2, none⟩ (.int .i64 (q : Int))) p (.slice na s.now.length nc) mv' ⟨s.now, s.noted, q⟩ ∧ Stp B p (.slice na s.now.length nc) (.slice ma 0 mc) w ((w.drew.setCell ⟨p, 1, none⟩ mv').setCell ⟨p, 2, none⟩ (.int .i64 (q : Int)))) := fun mv' e => by
          subst e
          have hE := heap_setCell_same _ p 2 _ 81 (.int .i64 (q : Int)) (heap_setCell_same w.drew p 1 _ 81 (.slice ma 0 mc) HA.out.o)
          have hoth : ∀ k, k ≠ p → ((w.drew.setCell ⟨p, 1, none⟩ (.slice ma 0 mc)).setCell ⟨p, 2, none⟩ (.int .i64 (q : Int))).heap[k]? = w.heap[k]? := fun k hk => by
            rw [heap_setCell_other _ _ _ _ hk, heap_setCell_other _ _ _ _ hk]
            rfl
          refine ⟨{
            o := by simpa only [List.setIfInBounds_toArray, List.set_cons_zero, List.set_cons_succ] using hE
            n := row_kept HA.out.n (fun g hg => hoth g (fun e => HA.out.ne1 (by rw [← e]; exact hg)))
            m := row_kept HA.out.m (fun g hg => hoth g (fun e => HA.out.ne2 (by rw [← e]; exact hg)))
            b1 := HA.out.b1
            p1 := HA.out.p1
            ne1 := HA.out.ne1
            ne2 := HA.out.ne2
            ne3 := HA.out.ne3
            good := HA.out.good
            goodm := HA.out.goodm
            len := by show s.noted.length = q * s.now.length; rw [hn, hml]; rfl
            n32 := HA.out.n32
            mks := by show q ≤ 10000; omega }, ((Below.refl _ _).drew.setCell HA.out.p1 _).setCell HA.out.p1 _, ?_⟩
          exact ⟨by simp, fun j hj ho => hoth j (fun e => ho (.inl e))⟩
        have hc0 : w.cell? ⟨p, 0, none⟩ = some (.slice na 0 nc) := by rw [hn] at c0; exact c0
        clear h hlen hm1 hn1 c0
        rcases hma with ⟨rfl, rfl⟩ | ⟨g', rfl⟩
        · go_enter Tryz.func26, Tryz.ntmps26
          go_wp2_with fail
          go_region_held3 (fun w' : World => w'.cell? ⟨p, 0, none⟩ = some (.slice na 0 nc) ∧ w'.cell? ⟨p, 1, none⟩ = some (.slice none 0 0) ∧ w'.heap[p]? = w.heap[p]?)
            (first | exact HS.out _ rfl | assumption)
            (first | (refine step_copy rfl (.tmp 26) (.tmp 32) 79 79 rfl _ _ (by rfl) (by rfl) 0 (fun ty => RC.out ty _ _) ?_))
          go_wp2_with fail
          go_ret
          obtain ⟨h1, h2⟩ := HFin.out _ rfl
          exact ⟨_, ret_bool HBk.out.symm, by rw [HBs2.out]; exact h1, h2, fun _ h => h⟩
        · go_enter Tryz.func26, Tryz.ntmps26
          go_wp2_with fail
          go_region_held3 (fun w' : World => w'.cell? ⟨p, 0, none⟩ = some (.slice na 0 nc) ∧ w'.cell? ⟨p, 1, none⟩ = some (.slice (some ⟨g', 0, none⟩) 0 mc) ∧ w'.heap[p]? = w.heap[p]?)
            (first | exact HS.out _ rfl | assumption)
            (first | (refine step_copy rfl (.tmp 26) (.tmp 32) 79 79 rfl _ _ (by rfl) (by rfl) 0 (fun ty => RC.out ty _ _) ?_))
          go_wp2_with fail
          go_ret
          obtain ⟨h1, h2⟩ := HFin.out _ rfl
          exact ⟨_, ret_bool HBk.out.symm, by rw [HBs2.out]; exact h1, h2, fun _ h => h⟩
      · have hle : q * s.now.length + s.now.length ≤ s.noted.length := by
          rw [hlen]
          have : (q + 1) * s.now.length ≤ s.marks * s.now.length := Nat.mul_le_mul_right _ hq
          rw [Nat.add_mul, Nat.one_mul] at this
          exact this
        have hbig : s.noted.length ≤ 320000 := by rw [hlen]; exact Nat.mul_le_mul hmk hn32
        have hn1 := h.n
        have hm1 := h.m
        rcases hn1.2 with ⟨rfl, hn0⟩ | ⟨g, cap, cur, rfl, e2, e3, e4, e5, e6, e7⟩
        · omega
        rcases hm1.2 with ⟨rfl, hm0⟩ | ⟨g', cap', cur', rfl, f2, f3, f4, f5, f6, f7⟩
        · omega
        have hgg : g ≠ g' := fun e => h.ne3 g rfl (by rw [e]; rfl)
        have hgp : g ≠ p := fun e => h.ne1 (by rw [e]; rfl)
        have hgp' : g' ≠ p := fun e => h.ne2 (by rw [e]; rfl)
        obtain ⟨m, hm⟩ : ∃ m, q * s.now.length = m := ⟨_, rfl⟩
        have hmI : (q : Int) * (s.now.length : Int) = (m : Int) := by rw [← hm]; simp
        rw [hm] at hle HBs
        have hwr : IntKind.i64.wrap (m : Int) = (m : Int) := wrap_id (by omega) (by omega)
        have HMq : Hid (q * s.now.length = m) := hm
        clear hm
        have hnI : (m : Int) ≤ (s.noted.length : Int) := by omega
        have hcI : (s.noted.length : Int) ≤ (cap' : Int) := by omega
        have hcI2 : (m : Int) ≤ (cap' : Int) := by omega
        have hcm : ¬ cap' = m := by omega
        obtain ⟨V, hV⟩ : ∃ V, w.drew.setRow g (dms ((s.noted.drop m).take s.now.length) ++ cur.toList.drop (dms ((s.noted.drop m).take s.now.length)).length).toArray = V := ⟨_, rfl⟩
        have hcl : (dms ((s.noted.drop m).take s.now.length)).length = s.now.length * 3 := by rw [dms_len, List.length_take, List.length_drop]; omega
        have hmin : Nat.min (s.noted.length - m) s.now.length = s.now.length := Nat.min_eq_right (by omega)
        have RC : Hid (∀ ty, (Builtin.copy_ #[79, 79] ty #[.slice (some ⟨g, 0, none⟩) s.now.length cap, .slice (some ⟨g', m * 3, none⟩) (s.noted.length - m) (cap' - m)]).run Tryz.prog w.drew = .ok (goInt s.now.length) V) := fun ty => by
          rw [← hV]
          have hr := run_copy3 w.drew ty g s.now.length cap ⟨g', m * 3, none⟩ (s.noted.length - m) (cap' - m) cur 89 (dms ((s.noted.drop m).take s.now.length)) e3 (by rw [hcl, hmin]) ?_ (by rw [hcl]; have := Nat.mul_le_mul_right 3 e4; omega) (dms_one _)
          · rw [hmin] at hr
            exact hr
          · intro j u hj
            have hj2 : j < s.now.length * 3 := by
              have := (List.getElem?_eq_some_iff.1 hj).1
              rwa [hcl] at this
            rw [addr_none]
            show World.cell? w _ = _
            rw [cell_of f3]
            rw [dms_take, List.getElem?_take, if_pos hj2, dms_drop, List.getElem?_drop] at hj
            have : (cur'.toList.take (s.noted.length * 3))[m * 3 + j]? = some u := by rw [f7]; exact hj
            rw [List.getElem?_take, if_pos (by omega)] at this
            simpa using this
        have v1 : V.heap[g]? = some (.cells (dms ((s.noted.drop m).take s.now.length) ++ cur.toList.drop (s.now.length * 3)).toArray 89 (0, 0)) := by
          rw [← hV, hcl]
          exact setRow_heap w.drew g cur _ 89 _ e3
        have hVo : ∀ j, j ≠ g → V.heap[j]? = w.heap[j]? := fun j hj => by rw [← hV]; exact setRow_other w.drew g j _ hj
        have HVb : Hid (Below B w V) := by rw [← hV]; exact below_setRow (Below.refl _ _).drew e2 _
        have HV : Hid (V.heap[g]? = some (.cells (dms ((s.noted.drop m).take s.now.length) ++ cur.toList.drop (s.now.length * 3)).toArray 89 (0, 0)) ∧ ∀ j, j ≠ g → V.heap[j]? = w.heap[j]?) := ⟨v1, hVo⟩
        have vp : V.heap[p]? = w.heap[p]? := hVo p (Ne.symm hgp)
        have HVp : Hid (V.heap[p]? = w.heap[p]?) := vp
        have HLs : Hid (V.heap.size = w.heap.size) := by show _ = _; rw [← hV]; exact setRow_size w.drew g _
        clear h hlen v1 hVo hV hcl hmin
        go_enter Tryz.func26, Tryz.ntmps26
        go_wp2_with fail
        have HS : Hid (∀ w' : World, w'.heap[p]? = w.heap[p]? → w'.cell? ⟨p, 0, none⟩ = some (.slice (some ⟨g, 0, none⟩) s.now.length cap) ∧ w'.cell? ⟨p, 1, none⟩ = some (.slice (some ⟨g', 0, none⟩) s.noted.length cap') ∧ w'.heap[p]? = w.heap[p]?) := fun w' e => ⟨cell_of (e.trans HA.out.o) 0, cell_of (e.trans HA.out.o) 1, e⟩
        go_region_held3 (fun w' : World => w'.cell? ⟨p, 0, none⟩ = some (.slice (some ⟨g, 0, none⟩) s.now.length cap) ∧ w'.cell? ⟨p, 1, none⟩ = some (.slice (some ⟨g', 0, none⟩) s.noted.length cap') ∧ w'.heap[p]? = w.heap[p]?)
          (first | exact HS.out _ rfl | exact HS.out _ HVp.out | assumption)
          (first | (refine step_copy rfl (.tmp 26) (.tmp 32) 79 79 rfl _ _ (by rfl) (by rfl) s.now.length RC.out ?_))
        have gp : V.heap[p]? = some (.cells #[.slice (some ⟨g, 0, none⟩) s.now.length cap, .slice (some ⟨g', 0, none⟩) s.noted.length cap', .int .i64 (s.marks : Int)] 81 (0, 0)) := HVp.out.trans HA.out.o
        have x1 : V.cell? ⟨p, 1, none⟩ = some (.slice (some ⟨g', 0, none⟩) s.noted.length cap') := cell_of gp 1
        have x2 : V.cell? ⟨p, 2, none⟩ = some (.int .i64 (s.marks : Int)) := cell_of gp 2
        have xz : ∀ i, V.frozen? ⟨p, i, none⟩ = false := frozen_of gp
        have GP : Hid (V.heap[p]? = some (.cells #[.slice (some ⟨g, 0, none⟩) s.now.length cap, .slice (some ⟨g', 0, none⟩) s.noted.length cap', .int .i64 (s.marks : Int)] 81 (0, 0))) := gp
        clear gp vp c0 c1 c2 cz
        go_wp2_with fail
        go_ret
        refine ⟨.slice (some ⟨g', 0, none⟩) m cap', ret_bool HBk.out.symm, ?_, ?_, fun _ h => h⟩
        · rw [HBs.out]
          exact back_at HA.out e2 e5 e4 e6 f2 f3 f4 f5 f6 f7 hgg hq (by omega) hn hle HV.out GP.out HMq.out
        · refine ⟨(HVb.out.setCell HA.out.p1 _).setCell HA.out.p1 _, by simpa using Nat.le_of_eq HLs.out.symm, fun j hj ho => ?_⟩
          have j1 : j ≠ p := fun e => ho (.inl e)
          have j2 : j ≠ g := fun e => ho (.inr (.inl (by rw [e]; rfl)))
          rw [heap_setCell_other _ _ _ _ j1, heap_setCell_other _ _ _ _ j1]
          exact HV.out.2 j j2
    · have HBk : Hid (s.backB k = false) := by show _ = _; simp [St.backB, hk1]
      have HBs : Hid (s.back k = s) := by show _ = _; unfold St.back; rw [HBk.out]; rfl
      clear h
      go_enter Tryz.func26, Tryz.ntmps26
      go_wp2_with fail
      go_ret
      exact ⟨mv, ret_bool HBk.out.symm, by rw [HBs.out]; exact HA.out, Stp.refl _ _ _ _ _, fun _ h => h⟩
  · have HBk : Hid (s.backB k = false) := by show _ = _; simp [St.backB, hk0]
    have HBs : Hid (s.back k = s) := by show _ = _; unfold St.back; rw [HBk.out]; rfl
    clear h
    have hkd : decide (k < 0) = true := by simp; omega
    go_enter Tryz.func26, Tryz.ntmps26
    go_wp2_with fail
    all_goals first
      | (exfalso; omega)
      | (go_ret; exact ⟨mv, ret_bool HBk.out.symm, by rw [HBs.out]; exact HA.out, Stp.refl _ _ _ _ _, fun _ h => h⟩)
end Go.Proofs.YtchpapppkmnfnaaGreatDoor
