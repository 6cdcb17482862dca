/-
  Package dom: Cut.
-/
import Derived.Test.YtdfbmfikhccajaaGreatDoorJ37
import Derived.BigQuiet
import Derived.Deep.CutRange
namespace Go.Proofs.YtdfbmfikhccajaaGreatDoor
open Go.RowKit

/-- What a cut leaves of a domain. -/
def Dm.cut (d : Dm) (k v : Int) : Dm := ⟨d.f, lWd (dPlc d.f v) k d.a 0, lWd (dPlc d.f v) k d.b 1⟩
theorem Dm.Ok.cut {d : Dm} (h : d.Ok) (k v : Int) : (d.cut k v).Ok := ⟨h.f1, h.f2, isW_lWd h.a, isW_lWd h.b⟩
def Dm.eqB (d e : Dm) : Bool := d.a == e.a && d.b == e.b
/-- What a cut answers of a domain, and leaves. -/
def Dm.went (d : Dm) (k v : Int) : Bool := !(d.cut k v).eqB d && !(d.cut k v).eqB ⟨0, 0, 0⟩
def Dm.may (d : Dm) (k v : Int) : Bool := (d.cut k v).eqB d || !(d.cut k v).eqB ⟨0, 0, 0⟩
/-- What a cut leaves of a store; what it answers. -/
def St.cut (s : St) (k x v : Int) : St := match s.now[x.toNat]? with
  | none => s
  | some d => if isB s.now.length x && d.went k v then { s with now := s.now.set x.toNat (d.cut k v) } else s
def St.went (s : St) (k x v : Int) : Bool := match s.now[x.toNat]? with
  | none => false
  | some d => isB s.now.length x && d.went k v
def St.may (s : St) (k x v : Int) : Bool := match s.now[x.toNat]? with
  | none => true
  | some d => !isB s.now.length x || d.may k v

theorem dms_set (L : List Dm) (q : Nat) (x y : Int) (hq : q < L.length) : ((dms L).set (q * 3 + 1) (.int .u32 x)).set (q * 3 + 2) (.int .u32 y) = dms (L.set q ⟨L[q].f, x, y⟩) := by
  induction L generalizing q with
  | nil => exact absurd hq (by simp)
  | cons d L ih =>
    have e : ∀ (d : Dm) (L : List Dm), dms (d :: L) = .int .i64 d.f :: .int .u32 d.a :: .int .u32 d.b :: dms L := fun d L => by simp [dms, Dm.cells]
    cases q with
    | zero => rw [e]; simp [e]
    | succ q =>
      have h := ih q (by simpa using hq)
      rw [List.set_cons_succ, e, e]
      have e1 : (q + 1) * 3 + 1 = (q * 3 + 1) + 1 + 1 + 1 := by omega
      have e2 : (q + 1) * 3 + 2 = (q * 3 + 2) + 1 + 1 + 1 := by omega
      rw [e1, e2]
      simp only [List.set_cons_succ, List.getElem_cons_succ]
      rw [h]
/-- Two words of a domain are written. -/
theorem StAt.put {B : Nat} {w : World} {p g cap : Nat} {mv : Value} {s : St} {q : Nat} (h : StAt B w p (.slice (some ⟨g, 0, none⟩) s.now.length cap) mv s) (hq : q < s.now.length) (x y : Int) (hok : Dm.Ok ⟨s.now[q].f, x, y⟩) :
    StAt B ((w.setCell ⟨g, q * 3 + 1, none⟩ (.int .u32 x)).setCell ⟨g, q * 3 + 2, none⟩ (.int .u32 y)) p (.slice (some ⟨g, 0, none⟩) s.now.length cap) mv { s with now := s.now.set q ⟨s.now[q].f, x, y⟩ } := by
  have h1 := ((h.n.stored (q * 3 + 1) (.int .u32 x)).1.stored (q * 3 + 2) (.int .u32 y)).1
  rw [dms_set _ _ _ _ hq] at h1
  have hp : p ≠ g := fun e => h.ne1 (by rw [e]; rfl)
  have hm : ∀ k, mv.ownBlock = some k → k ≠ g := fun k hk e => h.ne3 g rfl (by rw [← e]; exact hk)
  have hkp : ∀ k, k ≠ g → ((w.setCell ⟨g, q * 3 + 1, none⟩ (.int .u32 x)).setCell ⟨g, q * 3 + 2, none⟩ (.int .u32 y)).heap[k]? = w.heap[k]? := fun k hk => by
    rw [heap_setCell_other _ _ _ _ hk, heap_setCell_other _ _ _ _ hk]
  have row : ∀ {v : Value} {n : Nat} {xs : List Value}, w.ownsRow B 73 3 v n xs → (∀ k, v.ownBlock = some k → k ≠ g) → ((w.setCell ⟨g, q * 3 + 1, none⟩ (.int .u32 x)).setCell ⟨g, q * 3 + 2, none⟩ (.int .u32 y)).ownsRow B 73 3 v n xs := by
    intro v n xs ⟨h1, h2⟩ hv
    refine ⟨h1, ?_⟩
    rcases h2 with h2 | ⟨g', cap', cur, e1, e2, e3, e4⟩
    · exact .inl h2
    · exact .inr ⟨g', cap', cur, e1, e2, (hkp g' (hv g' (by rw [e1]; rfl))).trans e3, e4⟩
  exact {
    o := (hkp p hp).trans h.o
    n := by rw [List.length_set]; exact h1
    m := row h.m hm
    b1 := h.b1
    p1 := h.p1
    ne1 := h.ne1
    ne2 := h.ne2
    ne3 := h.ne3
    good := fun d hd => by
      rcases List.mem_or_eq_of_mem_set hd with hd | rfl
      · exact h.good d hd
      · exact hok
    goodm := h.goodm
    len := by show _ = _ * (s.now.set q _).length; rw [List.length_set]; exact h.len
    n32 := by show (s.now.set q _).length ≤ 32; rw [List.length_set]; exact h.n32
    mks := h.mks }

/-- What Cut leaves. -/
def CutOut (B p : Nat) (nv mv : Value) (s : St) (k x v : Int) (w : World) (e : Ending) (w' : World) : Prop := e = .returned (.tuple #[.bool (s.went k x v), .bool (s.may k x v)]) ∧ StAt B w' p nv mv (s.cut k x v) ∧ Stp B p nv mv w w'

theorem cut_no {s : St} {k x v : Int} (h : isB s.now.length x = false) : s.cut k x v = s ∧ s.went k x v = false ∧ s.may k x v = true := by
  unfold St.cut St.went St.may
  rw [h]
  cases s.now[x.toNat]? <;> exact ⟨rfl, rfl, rfl⟩
theorem cut_yes {s : St} {k v : Int} {x : Nat} (hx : x < s.now.length) : s.cut k x v = (if s.now[x].went k v then { s with now := s.now.set x (s.now[x].cut k v) } else s) ∧ s.went k x v = s.now[x].went k v ∧ s.may k x v = s.now[x].may k v := by
  have h : isB s.now.length (x : Int) = true := by simp [isB]; omega
  have e : s.now[((x : Int)).toNat]? = some s.now[x] := by simp [hx]
  unfold St.cut St.went St.may
  rw [h, e]
  simp

set_option maxRecDepth 10000 in
set_option maxHeartbeats 1000000 in
theorem cut_any (B p : Nat) (nv mv : Value) (s : St) (k x v : Int) (w : World) (h : StAt B w p nv mv s) : Calls Tryz.prog 12 #[.pointer (some ⟨p, 0, none⟩), ctVal k x v] w (CutOut B p nv mv s k x v w) := by
  have hB := h.size
  obtain ⟨W, hW⟩ : ∃ W, w.alloc (.cells #[.int .i64 k, .int .i64 x, .int .i64 v] 44) = W := ⟨_, rfl⟩
  have hb0 : Below w.heap.size w W := by rw [← hW]; exact (Below.refl _ _).alloc (Nat.le_refl _) _
  have HB : Hid (Below w.heap.size w W) := hb0
  have hA : StAt B W p nv mv s := h.below hb0
  have HA : Hid (StAt B W p nv mv s) := hA
  have g0 : W.heap[w.heap.size]? = some (.cells #[.int .i64 k, .int .i64 x, .int .i64 v] 44 (0, 0)) := by rw [← hW]; exact heap_alloc_new w _
  have hlt := (Array.getElem?_eq_some_iff.1 g0).1
  have c0 : W.cell? ⟨w.heap.size, 0, none⟩ = some (.int .i64 k) := cell_of g0 0
  have c1 : W.cell? ⟨w.heap.size, 1, none⟩ = some (.int .i64 x) := cell_of g0 1
  have c2 : W.cell? ⟨w.heap.size, 2, none⟩ = some (.int .i64 v) := cell_of g0 2
  have n0 : W.cell? ⟨p, 0, none⟩ = some nv := cell_of hA.o 0
  cases hi : isB s.now.length x with
  | false =>
    have HIs : Hid (Calls Tryz.prog 29 #[.pointer (some ⟨p, 0, none⟩), .int .i64 x] W fun e w' => e = .returned (.bool false) ∧ w' = W) := by
      have := is_any B p nv mv s x W hA
      rw [hi] at this
      exact this
    obtain ⟨e1, e2, e3⟩ := cut_no (k := k) (v := v) hi
    have HE : Hid (s.cut k x v = s ∧ s.went k x v = false ∧ s.may k x v = true) := ⟨e1, e2, e3⟩
    clear h hA hb0 e1 e2 e3 hi g0 hlt
    unfold ctVal
    go_enter Tryz.func12, Tryz.ntmps12
    go_wp2_with fail
    refine calls_at HIs.out (by with_reducible rfl) (by with_reducible rfl) ?_
    rintro e w1 ⟨rfl, rfl⟩
    go_wp2_with fail
    refine bodyPost_ret (v := .tuple #[.bool false, .bool true]) (by simp [results, Tryz.results12, go_sem]) rfl ?_
    refine ⟨?_, ?_, Stp.of_below HB.out hB⟩
    · rw [HE.out.2.1, HE.out.2.2]
    · rw [HE.out.1]; exact HA.out
  | true =>
    have HIs : Hid (Calls Tryz.prog 29 #[.pointer (some ⟨p, 0, none⟩), .int .i64 x] W fun e w' => e = .returned (.bool true) ∧ w' = W) := by
      have := is_any B p nv mv s x W hA
      rw [hi] at this
      exact this
    obtain ⟨q, rfl, hq⟩ : ∃ q : Nat, x = (q : Int) ∧ q < s.now.length := by
      simp [isB] at hi
      exact ⟨x.toNat, by omega, by omega⟩
    have HE : Hid (s.cut k q v = (if s.now[q].went k v then { s with now := s.now.set q (s.now[q].cut k v) } else s) ∧ s.went k q v = s.now[q].went k v ∧ s.may k q v = s.now[q].may k v) := cut_yes hq
    have hok := hA.good s.now[q] (List.getElem_mem hq)
    obtain ⟨a, cap, rfl, hc⟩ := dm_form hA.n
    obtain ⟨g, rfl, hg1, hg2, k0, k1, k2, kz⟩ := hc q hq
    obtain ⟨d, hd⟩ : ∃ d, s.now[q] = d := ⟨_, rfl⟩
    rw [hd] at k0 k1 k2 hok HE
    have HL : Hid (∀ w', Calls Tryz.prog 30 #[dmVal d.f d.a d.b, ctVal k q v] w' fun e w2 => e = .returned (btVal (d.cut k v).a (d.cut k v).b) ∧ Below w'.heap.size w' w2) := fun w' => left_any _ _ _ _ _ _ w' hok.f1 hok.f2
    have HOK : Hid ((d.cut k v).Ok) := hok.cut k v
    have hqI : (q : Int) < (s.now.length : Int) := by omega
    have hn := hA.n32
    clear h hA hb0 hi hc hok
    unfold ctVal dmVal btVal at *
    go_enter Tryz.func12, Tryz.ntmps12
    go_wp2_with fail
    refine calls_at HIs.out (by with_reducible rfl) (by with_reducible rfl) ?_
    rintro e w1 ⟨rfl, rfl⟩
    go_wp2_with fail
    go_region
    go_wp2_with fail
    go_cut [7] from 20 to 37 (fun s7 wx => ∃ A, s7 = .pointer (some ⟨A, 0, none⟩) ∧ Hid (w1.heap.size ≤ A ∧ Below w1.heap.size w1 wx ∧ wx.heap[A]? = some (.cells #[.int .u32 (d.cut k v).a, .int .u32 (d.cut k v).b] 71 (0, 0))))
    case first =>
      have d0 : w1.drew.cell? ⟨g, q * 3, none⟩ = some (.int .i64 d.f) := k0
      have d1 : w1.drew.cell? ⟨g, q * 3 + 1, none⟩ = some (.int .u32 d.a) := k1
      have d2 : w1.drew.cell? ⟨g, q * 3 + 2, none⟩ = some (.int .u32 d.b) := k2
      go_region_with (first
        | (go_at_call 30; refine calls_at (HL.out ((w1.alloc (.cells #[.int .u32 0, .int .u32 0] 71)).drew.drew)) (by with_reducible rfl) (by with_reducible rfl) ?_; rintro e w2 ⟨rfl, hb2⟩; (have f0 : w2.heap[w1.heap.size]? = some (.cells #[.int .u32 0, .int .u32 0] 71 (0, 0)) := (hb2.block w1.heap.size (by show _ < (w1.alloc _).heap.size; simp)).trans (heap_alloc_new w1 _)); (have y0 : w2.cell? ⟨w1.heap.size, 0, none⟩ = some (.int .u32 0) := cell_of f0 0); (have y1 : w2.cell? ⟨w1.heap.size, 1, none⟩ = some (.int .u32 0) := cell_of f0 1); (have yz : ∀ i, w2.frozen? ⟨w1.heap.size, i, none⟩ = false := frozen_of f0); (have HM : Hid (Below w1.heap.size w1 w2 ∧ w2.heap[w1.heap.size]? = some (.cells #[.int .u32 0, .int .u32 0] 71 (0, 0))) := ⟨bl_next ((Below.refl _ _).alloc (Nat.le_refl _) _).drew.drew hb2, f0⟩); clear f0 hb2)
        | (go_at_call 30; refine calls_at (HL.out _) (by with_reducible rfl) (by with_reducible rfl) ?_; rintro e w2 ⟨rfl, hb2⟩; (have HM : Hid (Below w1.heap.size w1 w2) := bl_next (Below.refl _ _).drew.drew hb2); clear hb2))
      all_goals
        go_wp2_with fail
        go_meet
        first
          | exact ⟨_, rfl, HM.out.size, HM.out.alloc HM.out.size _, heap_alloc_new w2 _⟩
          | exact ⟨_, rfl, Nat.le_refl _, (HM.out.1.setCell (Nat.le_refl _) _).setCell (Nat.le_refl _) _, set2 HM.out.2 _ _⟩
    case rest =>
      obtain ⟨A, rfl, HM⟩ := hcut
      rename World => wx
      have a0 : wx.cell? ⟨A, 0, none⟩ = some (.int .u32 (d.cut k v).a) := cell_of HM.out.2.2 0
      have a1 : wx.cell? ⟨A, 1, none⟩ = some (.int .u32 (d.cut k v).b) := cell_of HM.out.2.2 1
      have m1 : wx.cell? ⟨g, q * 3 + 1, none⟩ = some (.int .u32 d.a) := (HM.out.2.1.cell (p := ⟨g, q * 3 + 1, none⟩) hg2).trans k1
      have m2 : wx.cell? ⟨g, q * 3 + 2, none⟩ = some (.int .u32 d.b) := (HM.out.2.1.cell (p := ⟨g, q * 3 + 2, none⟩) hg2).trans k2
      have mz : ∀ i, wx.frozen? ⟨g, i, none⟩ = false := fun i => (HM.out.2.1.frozen (p := ⟨g, i, none⟩) hg2).trans (kz i)
      have HX : Hid (StAt B wx p (.slice (some ⟨g, 0, none⟩) s.now.length cap) mv s) := HA.out.below HM.out.2.1
      have HSt : Hid (Stp B p (.slice (some ⟨g, 0, none⟩) s.now.length cap) mv w wx) := (Stp.of_below HB.out hB).next HM.out.2.1 hB
      have q1 := eq65 (d.cut k v).a (d.cut k v).b d.a d.b
      have q2 := eq65 (d.cut k v).a (d.cut k v).b 0 0
      have HQ : Hid (d.went k v = (!((d.cut k v).a == d.a && (d.cut k v).b == d.b) && !((d.cut k v).a == 0 && (d.cut k v).b == 0)) ∧ d.may k v = (((d.cut k v).a == d.a && (d.cut k v).b == d.b) || !((d.cut k v).a == 0 && (d.cut k v).b == 0))) := ⟨rfl, rfl⟩
      clear HM k0 k1 k2 kz c0 c1 c2 n0 hg2
      cases hb1 : ((d.cut k v).a == d.a && (d.cut k v).b == d.b) with
      | true =>
        rw [hb1] at q1
        go_wp2_with fail
        go_region
        go_wp2_with fail
        refine bodyPost_ret (v := .tuple #[.bool false, .bool true]) (by simp [results, Tryz.results12, go_sem]) rfl ?_
        have e1 : d.went k v = false := by rw [HQ.out.1, hb1]; rfl
        have e2 : d.may k v = true := by rw [HQ.out.2, hb1]; rfl
        refine ⟨?_, ?_, HSt.out.next (Below.refl _ _).drew hB⟩
        · rw [HE.out.2.1, HE.out.2.2, e1, e2]
        · rw [HE.out.1, e1]; exact HX.out.below (Below.refl _ _).drew
      | false =>
        rw [hb1] at q1
        cases hb2 : ((d.cut k v).a == 0 && (d.cut k v).b == 0) with
        | true =>
          rw [hb2] at q2
          go_wp2_with fail
          go_region
          go_wp2_with fail
          refine bodyPost_ret (v := .tuple #[.bool false, .bool false]) (by simp [results, Tryz.results12, go_sem]) rfl ?_
          have e1 : d.went k v = false := by rw [HQ.out.1, hb1, hb2]; rfl
          have e2 : d.may k v = false := by rw [HQ.out.2, hb1, hb2]; rfl
          refine ⟨?_, ?_, HSt.out.next (Below.refl _ _).drew hB⟩
          · rw [HE.out.2.1, HE.out.2.2, e1, e2]
          · rw [HE.out.1, e1]; exact HX.out.below (Below.refl _ _).drew
        | false =>
          rw [hb2] at q2
          go_wp2_with fail
          go_region
          go_wp2_with fail
          refine bodyPost_ret (v := .tuple #[.bool true, .bool true]) (by simp [results, Tryz.results12, go_sem]) rfl ?_
          have e1 : d.went k v = true := by rw [HQ.out.1, hb1, hb2]; rfl
          have e2 : d.may k v = true := by rw [HQ.out.2, hb1, hb2]; rfl
          have hS := HSt.out.next (Below.refl _ _).drew hB
          refine ⟨?_, ?_, (hS.below.setCell hg1 _).setCell hg1 _, (hS.off.trans (Off.set _ (.inr (.inl rfl)))).trans (Off.set _ (.inr (.inl rfl)))⟩
          · rw [HE.out.2.1, HE.out.2.2, e1, e2]
          · rw [HE.out.1, e1, if_pos rfl]
            have := StAt.put (HX.out.below (Below.refl _ _).drew) hq (d.cut k v).a (d.cut k v).b (by rw [hd]; exact HOK.out)
            rw [hd] at this
            exact this
end Go.Proofs.YtdfbmfikhccajaaGreatDoor
