/-
  Put together: DmOrdP, PpLawB, HlSt.
-/
import Derived.Test.YtemnbcilmbojhaaGreatDoorJ36
import Derived.Test.YtemnbcilmbojhaaGreatDoorJ34
import Derived.Test.YtemnbcilmbojhaaGreatDoorDmCut
import Derived.Test.YtemnbcilmbojhaaGreatDoorJ35
namespace Go.Proofs.YtemnbcilmbojhaaGreatDoor
open Go.RowKit

/-- Two stores, each in blocks of its own. -/
structure Pr (Ba Bb p q : Nat) (nv mv nw mw : Value) (s t : St) (w : World) : Prop where
  a : StAt Ba w p nv mv s
  b : StAt Bb w q nw mw t
  apart : ∀ k, Own p nv mv k → ¬ Own q nw mw k
theorem Pr.stepA {Ba Bb p q : Nat} {nv mv nw mw : Value} {s s' t : St} {w w' : World} (h : Pr Ba Bb p q nv mv nw mw s t w) (h1 : StAt Ba w' p nv mv s') (h2 : Stp Ba p nv mv w w') : Pr Ba Bb p q nv mv nw mw s' t w' :=
  ⟨h1, h.b.keep (fun k hk ho => h2.off.block k hk (fun e => h.apart k e ho)), h.apart⟩
theorem Pr.stepB {Ba Bb p q : Nat} {nv mv nw mw : Value} {s t t' : St} {w w' : World} (h : Pr Ba Bb p q nv mv nw mw s t w) (h1 : StAt Bb w' q nw mw t') (h2 : Stp Bb q nw mw w w') : Pr Ba Bb p q nv mv nw mw s t' w' :=
  ⟨h.a.keep (fun k hk ho => h2.off.block k hk (fun e => h.apart k ho e)), h1, h.apart⟩
theorem Pr.below {Ba Bb p q : Nat} {nv mv nw mw : Value} {s t : St} {w w' : World} (h : Pr Ba Bb p q nv mv nw mw s t w) (hb : Below w.heap.size w w') : Pr Ba Bb p q nv mv nw mw s t w' := ⟨h.a.below hb, h.b.below hb, h.apart⟩
/-- A store made later lies apart. -/
theorem Pr.of {Ba p q : Nat} {nv mv nw mw : Value} {s t : St} {w w' : World} (h : StAt Ba w p nv mv s) (hb : Below w.heap.size w w') (h2 : StAt w.heap.size w' q nw mw t) : Pr Ba w.heap.size p q nv mv nw mw s t w' := by
  refine ⟨h.below hb, h2, fun k h1 e => ?_⟩
  have k1 : k < w.heap.size := by
    rcases h1 with h1 | h1 | h1
    · rw [h1]; exact h.lt
    · exact (row_lt h.n h1).2
    · exact (row_lt h.m h1).2
  have k2 : w.heap.size ≤ k := by
    rcases e with e | e | e
    · rw [e]; exact h2.p1
    · exact (row_lt h2.n e).1
    · exact (row_lt h2.m e).1
  omega
theorem new_good (m : Md.Mo) : ∀ d ∈ (newS m).now, d.Ok := by
  unfold newS
  split
  · rename_i h
    intro d hd
    obtain ⟨v, hv, rfl⟩ := List.mem_map.1 hd
    exact wholeD_ok ((Md.right_of h).var v hv).2
  · intro d hd
    cases hd
/-- P11.6: a value is there just where no cut takes it. -/
theorem has_goes {m : Md.Mo} (hR : (Md.check m).2 = 0) {l : List Ct} {t : St} (h : (newS m).cuts l = some t) (y : Nat) (hy : y < m.vars.length) (hy2 : y < t.now.length) (v : Int) (h1 : m.vars[y].lo ≤ v) (h2 : v ≤ m.vars[y].hi) :
    dHas t.now[y].f t.now[y].a t.now[y].b v = !(l.any fun c => decide (c.x = (y : Int)) && takesB c.k c.v v) := by
  have hb := Md.bounds_of ((Md.right_of hR).var m.vars[y] (List.getElem_mem hy)).2
  obtain ⟨g1, _, _, _, g5⟩ := cuts_bits (new_good m) h
  have hN : newS m = ⟨m.vars.map wholeD, [], 0⟩ := by unfold newS; rw [if_pos hR]
  have hy3 : y < (newS m).now.length := by rw [hN]; simpa using hy
  have hd : (newS m).now[y] = wholeD m.vars[y] := by
    have e : (newS m).now = m.vars.map wholeD := by rw [hN]
    simp only [e, List.getElem_map]
  obtain ⟨e1, e2⟩ := g5 y hy3 hy2
  rw [hd] at e1 e2
  have o := g1 t.now[y] (List.getElem_mem hy2)
  obtain ⟨k, hk⟩ : ∃ k : Nat, v = m.vars[y].lo + (k : Int) := ⟨(v - m.vars[y].lo).toNat, by omega⟩
  have hk64 : k < 64 := by omega
  have hp : dPlc t.now[y].f v = (k : Int) := by
    rw [e1]
    show dPlc m.vars[y].lo v = _
    unfold dPlc
    omega
  unfold dHas
  rw [hp, btAt_bt o.a o.b k hk64, e2 k hk64]
  show (bt (wWd m.vars[y].lo m.vars[y].hi 0) (wWd m.vars[y].lo m.vars[y].hi 1) k && _) = _
  rw [bt_whole _ _ k hk64]
  have : (k : Int) ≤ m.vars[y].hi - m.vars[y].lo := by omega
  simp only [this, decide_true, Bool.true_and]
  show (l.all fun c => !(decide (c.x = (y : Int)) && takesB c.k c.v (m.vars[y].lo + (k : Int)))) = _
  rw [← hk, List.all_eq_not_any_not]
  simp
end Go.Proofs.YtemnbcilmbojhaaGreatDoor

namespace Go.Proofs.YtemnbcilmbojhaaGreatDoor
open Go.RowKit

/-- A store behind cuts, whether they may be or not. -/
def foldC (s : St) (L : List Ct) : St := L.foldl (fun s c => s.cut c.k c.x c.v) s
theorem foldC_next {s : St} {L : List Ct} {k : Nat} (hk : k < L.length) : foldC s (L.take (k + 1)) = (foldC s (L.take k)).cut L[k].k L[k].x L[k].v := by
  unfold foldC
  rw [List.take_succ_eq_append_getElem hk, List.foldl_append]
  rfl
/-- What behind leaves. -/
def BhOut (m : Md.Mo) (L : List Ct) (w : World) (e : Ending) (w' : World) : Prop := ∃ B p nv mv, w.heap.size ≤ B ∧ e = .returned (.pointer (some ⟨p, 0, none⟩)) ∧ StAt B w' p nv mv (foldC (newS m) L) ∧ Below w.heap.size w w'

set_option maxRecDepth 10000 in
set_option maxHeartbeats 1000000 in
theorem behind_any (m : Md.Mo) (vv vc vg : Value) (a : Option Addr) (cap : Nat) (L : List Ct) (w : World) (h : MoAt w m vv vc vg) (hs : 0 < w.heap.size) (hL : CtsAt w a L) (hl : L.length ≤ 9223372036854775807) : Calls Tryz.prog 8 #[moVal m vv vc vg, .slice a L.length cap] w (BhOut m L w) := by
  obtain ⟨W, hW⟩ : ∃ W, w.alloc (.cells #[vv, vc, .bool m.has, vg] 26) = W := ⟨_, rfl⟩
  have hb0 : Below w.heap.size w W := by rw [← hW]; exact (Below.refl _ _).alloc (Nat.le_refl _) _
  have g0 : W.heap[w.heap.size]? = some (.cells #[vv, vc, .bool m.has, vg] 26 (0, 0)) := by rw [← hW]; exact heap_alloc_new w _
  have HN : Hid (Calls Tryz.prog 18 #[.agg #[vv, vc, .bool m.has, vg]] W (NewOut m W)) := new_any m vv vc vg W (h.below hb0) (Nat.lt_of_lt_of_le hs hb0.size)
  have HC : Hid (∀ w', Below w.heap.size w w' → CtsAt w' a L) := fun w' hb => hL.below hb
  have HCu : Hid (∀ B p nv mv s (q : Ct) w', StAt B w' p nv mv s → Calls Tryz.prog 19 #[.pointer (some ⟨p, 0, none⟩), .agg #[.int .i64 q.k, .int .i64 q.x, .int .i64 q.v]] w' (CutOut B p nv mv s q.k q.x q.v w')) := fun B p nv mv s q w' h => cut_any B p nv mv s q.k q.x q.v w' h
  have HB0 : Hid (Below w.heap.size w W) := hb0
  have HO : Hid (∀ B p nv mv w', w.heap.size ≤ B → StAt B w' p nv mv (foldC (newS m) L) → Below w.heap.size w w' → BhOut m L w (.returned (.pointer (some ⟨p, 0, none⟩))) w') := fun B p nv mv w' h1 h2 h3 => ⟨B, p, nv, mv, h1, rfl, h2, h3⟩
  obtain ⟨⟨p0, p1, p2, p3⟩, _⟩ := box4 g0
  have hmv : moVal m vv vc vg = .agg #[vv, vc, .bool m.has, vg] := rfl
  rw [hmv]
  clear h hL hb0 g0 hs hmv
  go_enter Tryz.func8, Tryz.ntmps8
  go_wp2_with (go_at_call 18; (try rw [hW]); refine calls_at HN.out (by with_reducible rfl) (by with_reducible rfl) ?_; rintro e w1 ⟨p, nv, mv, rfl, hS1, hb1⟩)
  have HS1 : Hid (StAt W.heap.size w1 p nv mv (foldC (newS m) (L.take 0))) := hS1
  have HB1 : Hid (Below w.heap.size w w1) := HB0.out.trans (hb1.mono HB0.out.size)
  clear hS1 hb1 p0 p1 p2 p3 hW HN
  go_loopw [6] (fun iv wr => ∃ (k : Nat), iv = .int .i64 (k : Int) ∧ k ≤ L.length ∧ Hid (StAt W.heap.size wr p nv mv (foldC (newS m) (L.take k))) ∧ Hid (Below w.heap.size w wr)) (fun iv _ => L.length - (intOf iv).toNat)
  case atStart => exact ⟨0, rfl, Nat.zero_le _, HS1, HB1⟩
  case round =>
  obtain ⟨k, rfl, hk, HS, HBr⟩ := hrel
  by_cases hkn : k < L.length
  · have hkI : (k : Int) < (L.length : Int) := by omega
    obtain ⟨b, off, rfl, c0, c1, c2⟩ := HC.out wr HBr.out k hkn
    have HK : Hid (Calls Tryz.prog 19 #[.pointer (some ⟨p, 0, none⟩), .agg #[.int .i64 L[k].k, .int .i64 L[k].x, .int .i64 L[k].v]] wr (CutOut W.heap.size p nv mv (foldC (newS m) (L.take k)) L[k].k L[k].x L[k].v wr)) := HCu.out _ _ _ _ _ L[k] wr HS.out
    have HX : Hid (foldC (newS m) (L.take (k + 1)) = (foldC (newS m) (L.take k)).cut L[k].k L[k].x L[k].v) := foldC_next hkn
    go_wp2_with (go_at_call 19; refine calls_at HK.out (by with_reducible rfl) (by with_reducible rfl) ?_; rintro e w2 ⟨rfl, hS2, hT2⟩)
    go_roundw
    case rel => exact ⟨k + 1, by go_num, hkn, (by show StAt _ _ _ _ _ _; rw [HX.out]; exact hS2), HBr.out.trans (hT2.below.mono HB0.out.size)⟩
    case measure => simp [intOf]; omega
  · have hke : k = L.length := by omega
    subst hke
    have hkI : ¬ (L.length : Int) < (L.length : Int) := by omega
    have HS2 : Hid (StAt W.heap.size wr p nv mv (foldC (newS m) L)) := by have := HS.out; rw [List.take_length] at this; exact this
    go_wp2_with fail
    go_ret
    exact HO.out _ _ _ _ _ HB0.out.size HS2.out HBr.out

end Go.Proofs.YtemnbcilmbojhaaGreatDoor

namespace Go.Proofs.YtemnbcilmbojhaaGreatDoor
open Go.RowKit

theorem Dm.Fine.le {d : Dm} (h : d.Fine) : d.lo ≤ d.hi := h.least _ h.hiIn
theorem Dm.Fine.bd {d : Dm} (h : d.Fine) {v : Int} (hv : d.has v = true) : -1000000000 ≤ v ∧ v ≤ 2000000000 := ⟨Int.le_trans h.b1 (h.least v hv), Int.le_trans (h.most v hv) h.b2⟩
theorem Dm.Fine.only {d : Dm} (h : d.Fine) (h1 : d.one = true) {v : Int} (hv : d.has v = true) : v = d.lo := by
  have e := h.one.1 h1
  have a := h.least v hv
  have b := h.most v hv
  omega

/-- Values that lie in domains. -/
def Lies : List Dm → List Int → Prop
  | [], [] => True
  | d :: D, v :: vs => d.has v = true ∧ Lies D vs
  | _, _ => False
/-- Less values. -/
def Fewer : List Dm → List Dm → Prop
  | [], [] => True
  | d' :: D', d :: D => (∀ v, d'.has v = true → d.has v = true) ∧ Fewer D' D
  | _, _ => False
def Fines : List Dm → Prop
  | [] => True
  | d :: D => d.Fine ∧ Fines D
theorem Lies.len : ∀ {D : List Dm} {vs : List Int}, Lies D vs → vs.length = D.length
  | [], [], _ => rfl
  | _ :: D, _ :: vs, h => by simp [Lies.len (D := D) (vs := vs) h.2]
  | [], _ :: _, h => h.elim
  | _ :: _, [], h => h.elim
theorem Fewer.len : ∀ {D' D : List Dm}, Fewer D' D → D'.length = D.length
  | [], [], _ => rfl
  | _ :: D', _ :: D, h => by simp [Fewer.len (D' := D') (D := D) h.2]
  | [], _ :: _, h => h.elim
  | _ :: _, [], h => h.elim
theorem Lies.get : ∀ {D : List Dm} {vs : List Int}, Lies D vs → ∀ (x : Nat) (d : Dm), D[x]? = some d → ∃ v, vs[x]? = some v ∧ d.has v = true
  | [], [], _, x, d, h => by simp at h
  | e :: D, v :: vs, h, 0, d, hd => by simp at hd; subst hd; exact ⟨v, rfl, h.1⟩
  | e :: D, v :: vs, h, x + 1, d, hd => by simpa using Lies.get (D := D) (vs := vs) h.2 x d (by simpa using hd)
  | [], _ :: _, h, _, _, _ => h.elim
  | _ :: _, [], h, _, _, _ => h.elim
theorem Fewer.get : ∀ {D' D : List Dm}, Fewer D' D → ∀ (x : Nat) (d' d : Dm), D'[x]? = some d' → D[x]? = some d → ∀ v, d'.has v = true → d.has v = true
  | [], [], _, x, d', d, h, _ => by simp at h
  | e' :: D', e :: D, h, 0, d', d, h1, h2 => by simp at h1 h2; subst h1; subst h2; exact h.1
  | e' :: D', e :: D, h, x + 1, d', d, h1, h2 => Fewer.get (D' := D') (D := D) h.2 x d' d (by simpa using h1) (by simpa using h2)
  | [], _ :: _, h, _, _, _, _, _ => h.elim
  | _ :: _, [], h, _, _, _, _, _ => h.elim
theorem Fines.get : ∀ {D : List Dm}, Fines D → ∀ (x : Nat) (d : Dm), D[x]? = some d → d.Fine
  | [], _, x, d, h => by simp at h
  | e :: D, h, 0, d, hd => by simp at hd; subst hd; exact h.1
  | e :: D, h, x + 1, d, hd => Fines.get (D := D) h.2 x d (by simpa using hd)
theorem fines_of {D : List Dm} (h : ∀ d ∈ D, d.Fine) : Fines D := by
  induction D with
  | nil => trivial
  | cons d D ih => exact ⟨h d (by simp), ih fun e he => h e (by simp [he])⟩

/-- One value each. -/
def Ones (D : List Dm) : Prop := ∀ (x : Nat) (d : Dm), D[x]? = some d → d.one = true
theorem one_fewer {d' d : Dm} (h' : d'.Fine) (h : d.Fine) (hs : ∀ v, d'.has v = true → d.has v = true) (h1 : d.one = true) : d'.one = true ∧ d'.lo = d.lo := by
  have a := h.only h1 (hs _ h'.loIn)
  have b := h.only h1 (hs _ h'.hiIn)
  exact ⟨h'.one.2 (by omega), a⟩

theorem lies_of : ∀ {D : List Dm} {vs : List Int}, vs.length = D.length → (∀ (x : Nat) (d : Dm), D[x]? = some d → ∃ v, vs[x]? = some v ∧ d.has v = true) → Lies D vs
  | [], [], _, _ => trivial
  | [], _ :: _, h, _ => by simp at h
  | _ :: _, [], h, _ => by simp at h
  | d :: D, v :: vs, h, hg => by
    obtain ⟨v', e, h1⟩ := hg 0 d rfl
    have e : v = v' := by simpa using e
    subst e
    exact ⟨h1, lies_of (by simpa using h) fun x d' hd => by simpa using hg (x + 1) d' (by simpa using hd)⟩
theorem fewer_of : ∀ {D' D : List Dm}, D'.length = D.length → (∀ (x : Nat) (d' d : Dm), D'[x]? = some d' → D[x]? = some d → ∀ v, d'.has v = true → d.has v = true) → Fewer D' D
  | [], [], _, _ => trivial
  | [], _ :: _, h, _ => by simp at h
  | _ :: _, [], h, _ => by simp at h
  | d' :: D', d :: D, h, hg => ⟨hg 0 d' d rfl rfl, fewer_of (by simpa using h) fun x e' e h1 h2 => hg (x + 1) e' e (by simpa using h1) (by simpa using h2)⟩
theorem fines_alls {s : St} (h : Alls s) : Fines s.now := fines_of fun d hd => fine_of (h d hd).1 (h d hd).2
theorem Fewer.trans {D1 D2 D3 : List Dm} (h1 : Fewer D1 D2) (h2 : Fewer D2 D3) : Fewer D1 D3 := fewer_of (h1.len.trans h2.len) fun x d1 d3 e1 e3 v hv => by
  have hx : x < D2.length := by rw [← h1.len]; exact (List.getElem?_eq_some_iff.1 e1).1
  exact h2.get x D2[x] d3 (List.getElem?_eq_getElem hx) e3 v (h1.get x d1 D2[x] e1 (List.getElem?_eq_getElem hx) v hv)
theorem cut_less {s : St} (h : Alls s) (k x v : Int) : Fewer (s.cut k x v).now s.now := fewer_of (stcut_len s k x v) fun y d' d h1 h2 u hu => by
  obtain ⟨hy, e2⟩ := List.getElem?_eq_some_iff.1 h2
  obtain ⟨hy', e1⟩ := List.getElem?_eq_some_iff.1 h1
  obtain ⟨_, h3 | ⟨h3, _⟩⟩ := cut_get (s := s) k x v y hy
  · rw [e1, e2] at h3
    rw [← h3]
    exact hu
  · rw [e1, e2] at h3
    rw [h3] at hu
    have ho := (h d (by rw [← e2]; exact List.getElem_mem hy)).1
    exact (cut_fewer ho k v u hu).1
theorem fewer_refl (D : List Dm) : Fewer D D := fewer_of rfl fun x d' d h1 h2 v hv => by
  rw [h1] at h2
  injection h2 with h2
  rw [← h2]
  exact hv
theorem fold_less (L : List Ct) : ∀ {s : St}, Alls s → Alls (foldC s L) ∧ Fewer (foldC s L).now s.now := by
  induction L with
  | nil => exact fun {s} h => ⟨h, fewer_refl _⟩
  | cons c L ih =>
    intro s h
    have h1 := alls_cut h c.k c.x c.v
    obtain ⟨a, b⟩ := ih h1
    exact ⟨a, b.trans (cut_less h c.k c.x c.v)⟩

/-! Values out of the domains. -/
theorem plc_lt (k : Int) (n : Nat) (hn : 0 < n) : (plc k n).toNat < n := by
  unfold plc
  have h1 := Int.tmod_lt_of_pos k (b := (n : Int)) (by omega)
  have h2 := Int.lt_tmod_of_pos k (b := (n : Int)) (by omega)
  split <;> omega
theorem wi1_has {d : Dm} (hf : d.Fine) (ins : List Int) (k : Nat) : ∃ v, wi1 d ins k = [v] ∧ d.has v = true := by
  have hpos : 0 < d.all.length := List.length_pos_of_mem ((hf.all d.lo).2 hf.loIn)
  unfold wi1
  rw [if_pos hpos]
  refine ⟨_, rfl, (hf.all _).1 ?_⟩
  have hi : (if k < ins.length then (plc (ins.getD k 0) d.all.length).toNat else 0) < d.all.length := by
    split
    · exact plc_lt _ _ hpos
    · exact hpos
  rw [List.getD_eq_getElem?_getD, List.getElem?_eq_getElem hi]
  exact List.getElem_mem hi
theorem wi_all {D : List Dm} (hf : Fines D) (ins : List Int) : ∀ k, k ≤ D.length → (wiL D ins k).length = k ∧ ∀ (x : Nat) (d : Dm), x < k → D[x]? = some d → ∃ v, (wiL D ins k)[x]? = some v ∧ d.has v = true := by
  intro k
  induction k with
  | zero => exact fun _ => ⟨rfl, fun x d hx => absurd hx (by omega)⟩
  | succ k ih =>
    intro hk
    obtain ⟨h1, h2⟩ := ih (by omega)
    have hd : D[k]? = some D[k] := List.getElem?_eq_getElem (by omega)
    obtain ⟨v, e, hv⟩ := wi1_has (hf.get k _ hd) ins k
    have e2 : wiL D ins (k + 1) = wiL D ins k ++ [v] := by
      show wiL D ins k ++ (match D[k]? with | some d => wi1 d ins k | none => []) = _
      rw [hd]
      show wiL D ins k ++ wi1 D[k] ins k = _
      rw [e]
    rw [e2]
    refine ⟨by simp [h1], fun x d hx hxd => ?_⟩
    by_cases hxk : x = k
    · subst hxk
      rw [hd] at hxd
      injection hxd with hxd
      subst hxd
      exact ⟨v, by rw [List.getElem?_append_right (by omega), h1]; simp, hv⟩
    · obtain ⟨u, hu, h3⟩ := h2 x d (by omega) hxd
      exact ⟨u, by rw [List.getElem?_append_left (by omega)]; exact hu, h3⟩
theorem wi_lies {D : List Dm} (hf : Fines D) (ins : List Int) : Lies D (wiL D ins D.length) := by
  obtain ⟨h1, h2⟩ := wi_all hf ins D.length (Nat.le_refl _)
  exact lies_of h1 fun x d hd => h2 x d (List.getElem?_eq_some_iff.1 hd).1 hd

/-! One value each. -/
theorem has_nonzero {d : Dm} (h : d.Ok) {v : Int} (hv : d.has v = true) : d.eqB ⟨0, 0, 0⟩ = false := by
  obtain ⟨k, hk, _, hb⟩ := (d.has_is h v).1 hv
  cases e : d.eqB ⟨0, 0, 0⟩
  · rfl
  · unfold Dm.eqB at e
    have e : d.a = 0 ∧ d.b = 0 := by simpa using e
    rw [e.1, e.2] at hb
    unfold bt wb at hb
    split at hb
    · rw [show (0 : Int).toNat = 0 from rfl, Nat.zero_testBit] at hb; cases hb
    · rw [show (0 : Int).toNat = 0 from rfl, Nat.zero_testBit] at hb; cases hb
/-- A cut at a value that stays. -/
theorem cut_at {s : St} (h : Alls s) {k : Int} {x : Nat} {v : Int} {d : Dm} (hd : s.now[x]? = some d) (hv : d.has v = true) (ht : takesB k v v = false) : ∃ d', (s.cut k (x : Int) v).now[x]? = some d' ∧ (∀ u, d'.has u = true ↔ d.has u = true ∧ takesB k v u = false) ∧ ∀ y, y ≠ x → (s.cut k (x : Int) v).now[y]? = s.now[y]? := by
  obtain ⟨hx, ed⟩ := List.getElem?_eq_some_iff.1 hd
  have ho := (h d (by rw [← ed]; exact List.getElem_mem hx)).1
  have hcv := cut_has ho k v v hv ht
  have hnz := has_nonzero (ho.cut k v) hcv
  have hmay : s.may k (x : Int) v = true := by
    unfold St.may
    rw [Int.toNat_natCast, hd]
    show (!isB s.now.length (x : Int) || d.may k v) = true
    unfold Dm.may
    rw [hnz]
    simp
  refine ⟨d.cut k v, ?_, fun u => ⟨fun hu => cut_fewer ho k v u hu, fun hu => cut_has ho k v u hu.1 hu.2⟩, fun y hy => ?_⟩
  · obtain ⟨h2, e⟩ := may_cut (s := s) ⟨k, (x : Int), v⟩ hmay x hx
    rw [List.getElem?_eq_getElem h2, e]
    simp [ed]
  · by_cases hyl : y < s.now.length
    · obtain ⟨h2, e⟩ := may_cut (s := s) ⟨k, (x : Int), v⟩ hmay y hyl
      rw [List.getElem?_eq_getElem h2, e, List.getElem?_eq_getElem hyl]
      have : ¬ (x : Int) = (y : Int) := by omega
      simp [this]
    · rw [List.getElem?_eq_none (by rw [stcut_len]; omega), List.getElem?_eq_none (by omega)]
/-- Each variable has been cut to its value. -/
def oneS (s : St) (vs : List Int) : Nat → St
  | 0 => s
  | k + 1 => ((oneS s vs k).cut 1 (k : Int) (vs.getD k 0)).cut 2 (k : Int) (vs.getD k 0)
theorem takes_self (k v : Int) (h : k = 1 ∨ k = 2) : takesB k v v = false := by
  rcases h with rfl | rfl <;> simp [takesB]
theorem one_all {s : St} {vs : List Int} (h : Alls s) (hl : Lies s.now vs) : ∀ k, k ≤ s.now.length → Alls (oneS s vs k) ∧ (oneS s vs k).now.length = s.now.length ∧ (∀ x, k ≤ x → (oneS s vs k).now[x]? = s.now[x]?) ∧ ∀ x, x < k → ∃ d, (oneS s vs k).now[x]? = some d ∧ ∀ u, d.has u = true ↔ u = vs.getD x 0 := by
  intro k
  induction k with
  | zero => exact fun _ => ⟨h, rfl, fun _ _ => rfl, fun x hx => absurd hx (by omega)⟩
  | succ k ih =>
    intro hk
    obtain ⟨a1, a2, a3, a4⟩ := ih (by omega)
    have hd : s.now[k]? = some s.now[k] := List.getElem?_eq_getElem (by omega)
    obtain ⟨v, hv, hhas⟩ := hl.get k _ hd
    have ev : vs.getD k 0 = v := by rw [List.getD_eq_getElem?_getD, hv]; rfl
    have hd0 : (oneS s vs k).now[k]? = some s.now[k] := (a3 k (Nat.le_refl _)).trans hd
    show Alls (((oneS s vs k).cut 1 (k : Int) (vs.getD k 0)).cut 2 (k : Int) (vs.getD k 0)) ∧ (((oneS s vs k).cut 1 (k : Int) (vs.getD k 0)).cut 2 (k : Int) (vs.getD k 0)).now.length = _ ∧ (∀ x, k + 1 ≤ x → (((oneS s vs k).cut 1 (k : Int) (vs.getD k 0)).cut 2 (k : Int) (vs.getD k 0)).now[x]? = _) ∧ ∀ x, x < k + 1 → ∃ d, (((oneS s vs k).cut 1 (k : Int) (vs.getD k 0)).cut 2 (k : Int) (vs.getD k 0)).now[x]? = some d ∧ _
    rw [ev]
    obtain ⟨d1, e1, h1, o1⟩ := cut_at a1 hd0 hhas (takes_self 1 v (.inl rfl))
    have b1 := alls_cut a1 1 (k : Int) v
    have hd1v : d1.has v = true := (h1 v).2 ⟨hhas, takes_self 1 v (.inl rfl)⟩
    obtain ⟨d2, e2, h2, o2⟩ := cut_at b1 e1 hd1v (takes_self 2 v (.inr rfl))
    refine ⟨alls_cut b1 2 (k : Int) v, by rw [stcut_len, stcut_len, a2], fun x hx => ?_, fun x hx => ?_⟩
    · rw [o2 x (by omega), o1 x (by omega)]
      exact a3 x (by omega)
    · by_cases hxk : x = k
      · subst hxk
        refine ⟨d2, e2, fun u => ?_⟩
        rw [h2 u, h1 u, ev]
        constructor
        · rintro ⟨⟨_, t1⟩, t2⟩
          have t1 : ¬ u < v := by simpa [takesB] using t1
          have t2 : ¬ v < u := by simpa [takesB] using t2
          omega
        · rintro rfl
          exact ⟨⟨hhas, takes_self 1 u (.inl rfl)⟩, takes_self 2 u (.inr rfl)⟩
      · obtain ⟨d, e, hu⟩ := a4 x (by omega)
        exact ⟨d, by rw [o2 x hxk, o1 x hxk]; exact e, hu⟩
theorem one_lies {s : St} {vs : List Int} (h : Alls s) (hl : Lies s.now vs) : Lies (oneS s vs s.now.length).now vs ∧ Ones (oneS s vs s.now.length).now ∧ Alls (oneS s vs s.now.length) ∧ (oneS s vs s.now.length).now.length = s.now.length := by
  obtain ⟨a1, a2, a3, a4⟩ := one_all h hl s.now.length (Nat.le_refl _)
  refine ⟨lies_of (by rw [a2]; exact hl.len) fun x d hd => ?_, fun x d hd => ?_, a1, a2⟩
  · have hx : x < s.now.length := by rw [← a2]; exact (List.getElem?_eq_some_iff.1 hd).1
    obtain ⟨d', e, hu⟩ := a4 x hx
    rw [hd] at e
    have e := Option.some.inj e
    subst e
    obtain ⟨v, hv, _⟩ := hl.get x s.now[x] (List.getElem?_eq_getElem hx)
    exact ⟨v, hv, (hu v).2 (by rw [List.getD_eq_getElem?_getD, hv]; rfl)⟩
  · have hx : x < s.now.length := by rw [← a2]; exact (List.getElem?_eq_some_iff.1 hd).1
    obtain ⟨d', e, hu⟩ := a4 x hx
    rw [hd] at e
    have e := Option.some.inj e
    subst e
    have hf := (fines_alls a1).get x d hd
    have e1 := (hu _).1 hf.loIn
    have e2 := (hu _).1 hf.hiIn
    exact hf.one.2 (by rw [e1, e2])
/-- Values of a right problem's domains are numbers of a problem. -/
theorem new_nums {m : Md.Mo} {vs : List Int} (hl : Lies (newS m).now vs) : vs.all Md.numB = true := by
  rw [List.all_eq_true]
  intro v hv
  obtain ⟨x, hx, rfl⟩ := List.getElem_of_mem hv
  have hxl : x < (newS m).now.length := by rw [← hl.len]; exact hx
  obtain ⟨v', e, h1⟩ := hl.get x _ (List.getElem?_eq_getElem hxl)
  rw [List.getElem?_eq_getElem hx] at e
  have e := Option.some.inj e
  subst e
  have hmem := List.getElem_mem hxl
  generalize (newS m).now[x] = d at h1 hmem
  unfold newS at hmem
  split at hmem
  · rename_i hck
    obtain ⟨v, hv2, rfl⟩ := List.mem_map.1 hmem
    have hb := ((Md.right_of hck).var v hv2).2
    have h2 := (new_has hb _).1 h1
    have h3 := Md.bounds_of hb
    unfold Md.numB
    rw [decide_eq_true_eq]
    omega
  · cases hmem
end Go.Proofs.YtemnbcilmbojhaaGreatDoor
