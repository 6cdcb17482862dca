/-
  Put together: PpLawF, PpMa, PpMb.
-/
import Derived.Test.YtlcegpnnanhloaaGreatDoorJ15
import Derived.Test.YtlcegpnnanhloaaGreatDoorJ13
import Derived.Test.YtlcegpnnanhloaaGreatDoorJ42
import Derived.Test.YtlcegpnnanhloaaGreatDoorJ31
import Derived.Test.YtlcegpnnanhloaaGreatDoorJ37
namespace Go.Proofs.YtlcegpnnanhloaaGreatDoor
open Go.RowKit

set_option maxRecDepth 10000 in
set_option maxHeartbeats 2000000 in
theorem few_any (m : Md.Mo) (vv vc vg : Value) (c : Md.Cn) (vt vx vb vr : Value) (a a2 : Option Addr) (n n2 cap cap2 : Nat) (w : World) (h : MoAt w m vv vc vg) (hC : CnAt w c vt vx vb vr) (hn : n + n2 ≤ 9223372036854775807) :
    Calls Tryz.prog 6 #[moVal m vv vc vg, cnVal c vt vx vb vr, .slice a n cap, .slice a2 n2 cap2] w fun e w' => (∃ b : Bool, e = .returned (.bool b) ∧ (b = true → n + n2 ≤ 20000)) ∧ Below w.heap.size w w' := by
  obtain ⟨W, hW⟩ : ∃ W, (w.alloc (.cells #[vv, vc, .bool m.has, vg] 26)).alloc (.cells #[.int .i64 c.kind, .int .i64 c.op, vt, .int .i64 c.k, .int .i64 c.v, .int .i64 c.x, .int .i64 c.y, vx, vb, vr] 31) = W := ⟨_, rfl⟩
  have hbW : Below w.heap.size w W := by rw [← hW]; exact ((Below.refl _ _).alloc (Nat.le_refl _) _).alloc (by simp) _
  have hN : W.heap[w.heap.size]? = some (.cells #[vv, vc, .bool m.has, vg] 26 (0, 0)) := by rw [← hW]; exact heap_alloc2_old w _ _
  have hN2 : W.heap[w.heap.size + 1]? = some (.cells #[.int .i64 c.kind, .int .i64 c.op, vt, .int .i64 c.k, .int .i64 c.v, .int .i64 c.x, .int .i64 c.y, vx, vb, vr] 31 (0, 0)) := by rw [← hW]; exact heap_alloc2_new w _ _
  obtain ⟨W1, hW1⟩ : ∃ W1, W.alloc (.cells #[.int .i64 20000] 94) = W1 := ⟨_, rfl⟩
  have hbW1 : Below W.heap.size W W1 := by rw [← hW1]; exact (Below.refl _ _).alloc (Nat.le_refl _) _
  have hcnt : CountAt W1 W.heap.size 20000 := by show _ = _; rw [← hW1]; exact heap_alloc_new W _
  have hb1 : Below w.heap.size w W1 := hbW.trans (hbW1.mono hbW.size)
  have HM : Hid (Calls Tryz.prog 20 #[.int .i64 20000] W fun e w' => e = .returned (.pointer (some ⟨W.heap.size, 0, none⟩)) ∧ w' = W1) := by
    have := manyCount_any 20000 W
    rw [hW1] at this; exact this
  have H21 : Hid (Calls Tryz.prog 21 #[.pointer (some ⟨W.heap.size, 0, none⟩), .agg #[vv, vc, .bool m.has, vg]] W1 fun e w' => e = .returned (.tuple #[]) ∧ Took W.heap.size 20000 (costM m) W1 w') :=
    model_count W.heap.size 20000 m _ _ _ W1 hcnt (by decide) (by decide) w h hb1 hbW.size
  have hlt0 := (Array.getElem?_eq_some_iff.1 hN).1
  have hlt1 := (Array.getElem?_eq_some_iff.1 hN2).1
  have HG : Hid (∀ w', W1.grownBy w' (some W.heap.size) → w'.heap[w.heap.size + 1]? = some (.cells #[.int .i64 c.kind, .int .i64 c.op, vt, .int .i64 c.k, .int .i64 c.v, .int .i64 c.x, .int .i64 c.y, vx, vb, vr] 31 (0, 0))) := fun w' hg => by
    rw [hg.block _ (Nat.lt_of_lt_of_le hlt1 hbW1.size) (fun e => by injection e with e; omega), hbW1.block _ hlt1]
    exact hN2
  have H22 : Hid (∀ l w', CountAt w' W.heap.size l → l ≤ 20000 → -9223372036854775807 ≤ l → W1.grownBy w' (some W.heap.size) → Calls Tryz.prog 22 #[.pointer (some ⟨W.heap.size, 0, none⟩), .agg #[.int .i64 c.kind, .int .i64 c.op, vt, .int .i64 c.k, .int .i64 c.v, .int .i64 c.x, .int .i64 c.y, vx, vb, vr]] w' fun e w2 => e = .returned (.tuple #[]) ∧ Took W.heap.size l (costC c) w' w2) := fun l w' h1 h2 h3 h4 => con_count W.heap.size l c vt vx vb vr w' h1 h2 h3 (fun w3 h5 => hC.below (below_grownBy hb1 (grownBy_trans h4 h5) hbW.size))
  have H23 : Hid (∀ l w', CountAt w' W.heap.size l → l ≤ 20000 → -9223372036854775807 ≤ l → Calls Tryz.prog 23 #[.pointer (some ⟨W.heap.size, 0, none⟩), .int .i64 ((n : Int) + (n2 : Int))] w' fun e w2 => IsBool e ∧ Took W.heap.size l ((n : Int) + (n2 : Int)) w' w2) := fun l w' h1 h2 h3 => by
    have := add_any W.heap.size l (n + n2) w' h1 h2 h3 (by unfold maxLen; omega)
    rw [Int.natCast_add] at this
    exact this
  have p0 := cell_of (hbW1.block _ hlt0 |>.trans hN) 0
  have p1 := cell_of (hbW1.block _ hlt0 |>.trans hN) 1
  have p2 := cell_of (hbW1.block _ hlt0 |>.trans hN) 2
  have p3 := cell_of (hbW1.block _ hlt0 |>.trans hN) 3
  have hw : IntKind.i64.wrap ((n : Int) + (n2 : Int)) = (n : Int) + (n2 : Int) := by rw [IntKind.wrap_i64]; omega
  have HB1 : Hid (Below w.heap.size w W1) := hb1
  have HP : Hid (w.heap.size ≤ W.heap.size) := hbW.size
  have hmv : moVal m vv vc vg = .agg #[vv, vc, .bool m.has, vg] := rfl
  have hcv : cnVal c vt vx vb vr = .agg #[.int .i64 c.kind, .int .i64 c.op, vt, .int .i64 c.k, .int .i64 c.v, .int .i64 c.x, .int .i64 c.y, vx, vb, vr] := rfl
  rw [hmv, hcv]
  clear h hC hbW hN hN2 hbW1 hcnt hb1 hW1 hlt0 hlt1 hmv hcv
  go_enter Tryz.func6, Tryz.ntmps6
  go_wp2_with (first
    | (go_at_call 20; (try rw [hW]); refine calls_at HM.out (by with_reducible rfl) (by with_reducible rfl) ?_; rintro e w' ⟨rfl, hww⟩; rw [hww]; clear hww)
    | (go_at_call 21; refine calls_at H21.out (by with_reducible rfl) (by with_reducible rfl) ?_; rintro e w2 ⟨rfl, ⟨⟨l2, hC2, h21, h22, hT2⟩, hG2⟩⟩;
       have HC2 : Hid (CountAt w2 W.heap.size l2) := hC2; have HG2 : Hid (W1.grownBy w2 (some W.heap.size)) := hG2; have HT2 : Hid (0 ≤ l2 → l2 + (costM m : Int) ≤ 20000) := hT2; clear hC2 hT2 hG2;
       obtain ⟨q0, q1, q2, q3, q4, q5, q6, q7, q8, q9⟩ := cn_cells (HG.out w2 HG2.out); clear p0 p1 p2 p3)
    | (go_at_call 22; refine calls_at (H22.out l2 _ HC2.out h21 h22 HG2.out) (by with_reducible rfl) (by with_reducible rfl) ?_; rintro e w3 ⟨rfl, ⟨⟨l3, hC3, h31, h32, hT3⟩, hG3⟩⟩;
       have HC3 : Hid (CountAt w3 W.heap.size l3) := hC3; have HG3 : Hid (W1.grownBy w3 (some W.heap.size)) := grownBy_trans HG2.out hG3; have HT3 : Hid (0 ≤ l3 → l3 + (costC c : Int) ≤ l2) := hT3; clear hC3 hT3 hG3)
    | (go_at_call 23; refine calls_at (H23.out l3 _ HC3.out h31 h32) (by with_reducible rfl) (by with_reducible rfl) ?_; rintro e w4 ⟨⟨b4, rfl⟩, ⟨⟨l4, hC4, h41, h42, hT4⟩, hG4⟩⟩;
       have HC4 : Hid (CountAt w4 W.heap.size l4) := hC4; have HG4 : Hid (W1.grownBy w4 (some W.heap.size)) := grownBy_trans HG3.out hG4; have HT4 : Hid (0 ≤ l4 → l4 + ((n : Int) + (n2 : Int)) ≤ l3) := hT4; clear hC4 hT4 hG4)
    | (go_at_call 24; refine calls_at (ok_any W.heap.size l4 _ HC4.out) (by with_reducible rfl) (by with_reducible rfl) ?_; rintro e w' ⟨rfl, hww⟩; rw [hww]; clear hww))
  go_ret
  refine ⟨⟨_, rfl, fun h => ?_⟩, below_grownBy HB1.out HG4.out HP.out⟩
  have h4 : 0 ≤ l4 := by simpa using h
  have a4 := HT4.out h4
  omega
end Go.Proofs.YtlcegpnnanhloaaGreatDoor

namespace Go.Proofs.YtlcegpnnanhloaaGreatDoor

theorem Dm.Fine.le {d : Dm} (h : d.Fine) : d.lo ≤ d.hi := h.least _ h.hiIn
theorem Dm.Fine.bd {d : Dm} (h : d.Fine) {v : Int} (hv : d.has v = true) : -1000000000 ≤ v ∧ v ≤ 2000000000 := ⟨Int.le_trans h.b1 (h.least v hv), Int.le_trans (h.most v hv) h.b2⟩
theorem Dm.Fine.only {d : Dm} (h : d.Fine) (h1 : d.one = true) {v : Int} (hv : d.has v = true) : v = d.lo := by
  have e := h.one.1 h1
  have a := h.least v hv
  have b := h.most v hv
  omega

/-- A list of sides keeps a value of a variable. -/
def qH (Q : List Sq) (x : Nat) (v : Int) : Prop := ∃ q, Q[x]? = some q ∧ q.has v = true
def sg (t : Bool) (v : Int) : Int := if t then -v else v
theorem sg_f (v : Int) : sg false v = v := rfl
theorem sg_t (v : Int) : sg true v = -v := rfl

theorem qH_set {Q : List Sq} {y : Nat} {s s' : Sq} (hs : Q[y]? = some s) (C : Int → Prop) (h : ∀ v, s'.has v = true ↔ s.has v = true ∧ C v) (x : Nat) (v : Int) : qH (Q.set y s') x v ↔ qH Q x v ∧ (x = y → C v) := by
  have hy : y < Q.length := (List.getElem?_eq_some_iff.1 hs).1
  unfold qH
  by_cases e : x = y
  · subst e
    rw [List.getElem?_set_self hy, hs]
    simp [h v]
  · rw [List.getElem?_set_ne (fun e2 => e e2.symm)]
    simp [e]
theorem qH_none {Q : List Sq} {y : Nat} (hs : Q[y]? = none) (C : Prop) (x : Nat) (v : Int) : qH Q x v ↔ qH Q x v ∧ (x = y → C) := by
  constructor
  · intro h
    refine ⟨h, fun e => ?_⟩
    subst e
    obtain ⟨q, h1, _⟩ := h
    rw [hs] at h1
    cases h1
  · exact fun h => h.1
theorem qH_keep (Q : List Sq) (y : Nat) (a b : Int) (x : Nat) (v : Int) : qH (keepQ Q y a b) x v ↔ qH Q x v ∧ (x = y → a ≤ v ∧ v ≤ b) := by
  unfold keepQ
  split
  · rename_i s hs
    refine qH_set hs (fun v => a ≤ v ∧ v ≤ b) (fun v => ?_) x v
    unfold Sq.has inB
    simp only [Bool.and_eq_true, decide_eq_true_eq]
    constructor
    · rintro ⟨h1, h2, h3⟩
      exact ⟨⟨h1, by omega, by omega⟩, by omega, by omega⟩
    · rintro ⟨⟨h1, h2, h3⟩, h4, h5⟩
      exact ⟨h1, by omega, by omega⟩
  · rename_i hs
    exact qH_none hs _ x v
theorem qH_some (Q : List Sq) (y : Nat) (t : Int → Bool) (x : Nat) (v : Int) : qH (someQ Q y t) x v ↔ qH Q x v ∧ (x = y → t v = true) := by
  unfold someQ
  split
  · rename_i s hs
    refine qH_set hs (fun v => t v = true) (fun v => ?_) x v
    unfold Sq.has
    simp only [Bool.and_eq_true, List.all_append, List.all_cons, List.all_nil]
    constructor
    · rintro ⟨⟨h1, h2, _⟩, h3⟩
      exact ⟨⟨h1, h3⟩, h2⟩
    · rintro ⟨⟨h1, h2⟩, h3⟩
      exact ⟨⟨h1, h3, trivial⟩, h2⟩
  · rename_i hs
    exact qH_none hs _ x v
theorem qH_sKeep (t : Bool) (Q : List Sq) (y : Nat) (a b : Int) (x : Nat) (v : Int) : qH (sKeepQ t Q y a b) x v ↔ qH Q x v ∧ (x = y → a ≤ sg t v ∧ sg t v ≤ b) := by
  unfold sKeepQ sg
  cases t
  · simp only [Bool.false_eq_true, if_false]
    exact qH_keep Q y a b x v
  · simp only [if_true]
    rw [qH_keep]
    constructor
    · rintro ⟨h1, h2⟩
      exact ⟨h1, fun e => by have := h2 e; omega⟩
    · rintro ⟨h1, h2⟩
      exact ⟨h1, fun e => by have := h2 e; omega⟩

/-- Small enough for any end. -/
def Sml (v : Int) : Prop := -9223372036854775807 ≤ v ∧ v ≤ 9223372036854775807
theorem Sml.sg {v : Int} (h : Sml v) (t : Bool) : Sml (sg t v) := by
  unfold Sml Go.Proofs.YtlcegpnnanhloaaGreatDoor.sg at *
  cases t <;> simp <;> omega
theorem Dm.Fine.sml {d : Dm} (h : d.Fine) {v : Int} (hv : d.has v = true) : Sml v := by
  have := h.bd hv
  unfold Sml
  omega

/-- What atMost asks of a value. -/
def amC (t : Bool) (sp : Int) (z : Int × Dm) (v : Int) : Prop := (0 < z.1 → sg t v ≤ spLo t z.2 + sp / z.1) ∧ (z.1 < 0 → spHi t z.2 - sp / (-z.1) ≤ sg t v)
theorem qH_am (t : Bool) (sp : Int) (zs : List (Int × Dm)) (Q : List Sq) (n : Nat) (x : Nat) (v : Int) (hv : Sml v) : qH (amQ t sp zs Q n) x v ↔ qH Q x v ∧ (x < n → ∀ z, zs[x]? = some z → amC t sp z v) := by
  have hs := hv.sg t
  unfold Sml at hs
  induction n with
  | zero => simp [amQ]
  | succ n ih =>
    unfold amQ
    have key : ∀ z, zs[n]? = some z → (qH (amStep t sp (amQ t sp zs Q n) n z) x v ↔ qH (amQ t sp zs Q n) x v ∧ (x = n → amC t sp z v)) := by
      intro z _
      unfold amStep amC
      split
      · rename_i h0
        rw [qH_sKeep]
        constructor
        · rintro ⟨h1, h2⟩
          exact ⟨h1, fun e => ⟨fun _ => (h2 e).2, fun h => absurd h (by omega)⟩⟩
        · rintro ⟨h1, h2⟩
          exact ⟨h1, fun e => ⟨hs.1, (h2 e).1 h0⟩⟩
      · split
        · rename_i h0
          rw [qH_sKeep]
          constructor
          · rintro ⟨h1, h2⟩
            exact ⟨h1, fun e => ⟨fun h => absurd h (by omega), fun _ => (h2 e).1⟩⟩
          · rintro ⟨h1, h2⟩
            exact ⟨h1, fun e => ⟨(h2 e).2 h0, hs.2⟩⟩
        · constructor
          · exact fun h => ⟨h, fun _ => ⟨fun h => absurd h (by omega), fun h => absurd h (by omega)⟩⟩
          · exact fun h => h.1
    split
    · rename_i z hz
      refine (key z hz).trans ?_
      constructor
      · rintro ⟨h12, h3⟩
        obtain ⟨h1, h2⟩ := ih.1 h12
        refine ⟨h1, fun hx z' hz' => ?_⟩
        by_cases e : x = n
        · subst e
          rw [hz] at hz'
          injection hz' with hz'
          rw [← hz']
          exact h3 rfl
        · exact h2 (by omega) z' hz'
      · rintro ⟨h1, h2⟩
        exact ⟨ih.2 ⟨h1, fun hx => h2 (by omega)⟩, fun e => h2 (by omega) z (by rw [e]; exact hz)⟩
    · rename_i hz
      constructor
      · intro h12
        obtain ⟨h1, h2⟩ := ih.1 h12
        refine ⟨h1, fun hx z' hz' => ?_⟩
        by_cases e : x = n
        · subst e
          rw [hz] at hz'
          cases hz'
        · exact h2 (by omega) z' hz'
      · rintro ⟨h1, h2⟩
        exact ih.2 ⟨h1, fun hx => h2 (by omega)⟩
/-- What atMost answers. -/
theorem atMost_is (t : Bool) (D : List Dm) (cs : List Int) (k : Int) (Q : List Sq) : (spareL t (cs.zip D) k < 0 → atMostQ t D cs k Q = none) ∧ (0 ≤ spareL t (cs.zip D) k → ∃ Q', atMostQ t D cs k Q = some Q' ∧ ∀ x v, Sml v → (qH Q' x v ↔ qH Q x v ∧ ∀ z, (cs.zip D)[x]? = some z → amC t (spareL t (cs.zip D) k) z v)) := by
  unfold atMostQ
  constructor
  · intro h
    rw [if_pos h]
  · intro h
    rw [if_neg (by omega)]
    refine ⟨_, rfl, fun x v hv => ?_⟩
    rw [qH_am _ _ _ _ _ _ _ hv]
    constructor
    · rintro ⟨h1, h2⟩
      exact ⟨h1, fun z hz => h2 (List.getElem?_eq_some_iff.1 hz).1 z hz⟩
    · rintro ⟨h1, h2⟩
      exact ⟨h1, fun _ z hz => h2 z hz⟩

/-- Values that lie in domains. -/
def Lies : List Dm → List Int → Prop
  | [], [] => True
  | d :: D, v :: vs => d.has v = true ∧ Lies D vs
  | _, _ => False
/-- Less values. -/
def Fewer : List Dm → List Dm → Prop
  | [], [] => True
  | d' :: D', d :: D => (∀ v, d'.has v = true → d.has v = true) ∧ Fewer D' D
  | _, _ => False
def Fines : List Dm → Prop
  | [] => True
  | d :: D => d.Fine ∧ Fines D
theorem Lies.len : ∀ {D : List Dm} {vs : List Int}, Lies D vs → vs.length = D.length
  | [], [], _ => rfl
  | _ :: D, _ :: vs, h => by simp [Lies.len (D := D) (vs := vs) h.2]
  | [], _ :: _, h => h.elim
  | _ :: _, [], h => h.elim
theorem Fewer.len : ∀ {D' D : List Dm}, Fewer D' D → D'.length = D.length
  | [], [], _ => rfl
  | _ :: D', _ :: D, h => by simp [Fewer.len (D' := D') (D := D) h.2]
  | [], _ :: _, h => h.elim
  | _ :: _, [], h => h.elim
theorem Lies.get : ∀ {D : List Dm} {vs : List Int}, Lies D vs → ∀ (x : Nat) (d : Dm), D[x]? = some d → ∃ v, vs[x]? = some v ∧ d.has v = true
  | [], [], _, x, d, h => by simp at h
  | e :: D, v :: vs, h, 0, d, hd => by simp at hd; subst hd; exact ⟨v, rfl, h.1⟩
  | e :: D, v :: vs, h, x + 1, d, hd => by simpa using Lies.get (D := D) (vs := vs) h.2 x d (by simpa using hd)
  | [], _ :: _, h, _, _, _ => h.elim
  | _ :: _, [], h, _, _, _ => h.elim
theorem Fewer.get : ∀ {D' D : List Dm}, Fewer D' D → ∀ (x : Nat) (d' d : Dm), D'[x]? = some d' → D[x]? = some d → ∀ v, d'.has v = true → d.has v = true
  | [], [], _, x, d', d, h, _ => by simp at h
  | e' :: D', e :: D, h, 0, d', d, h1, h2 => by simp at h1 h2; subst h1; subst h2; exact h.1
  | e' :: D', e :: D, h, x + 1, d', d, h1, h2 => Fewer.get (D' := D') (D := D) h.2 x d' d (by simpa using h1) (by simpa using h2)
  | [], _ :: _, h, _, _, _, _, _ => h.elim
  | _ :: _, [], h, _, _, _, _, _ => h.elim
theorem Fines.get : ∀ {D : List Dm}, Fines D → ∀ (x : Nat) (d : Dm), D[x]? = some d → d.Fine
  | [], _, x, d, h => by simp at h
  | e :: D, h, 0, d, hd => by simp at hd; subst hd; exact h.1
  | e :: D, h, x + 1, d, hd => Fines.get (D := D) h.2 x d (by simpa using hd)
theorem fines_of {D : List Dm} (h : ∀ d ∈ D, d.Fine) : Fines D := by
  induction D with
  | nil => trivial
  | cons d D ih => exact ⟨h d (by simp), ih fun e he => h e (by simp [he])⟩

theorem sp_of {t : Bool} {d : Dm} (h : d.Fine) {v : Int} (hv : d.has v = true) : spLo t d ≤ sg t v ∧ sg t v ≤ spHi t d := by
  have a := h.least v hv
  have b := h.most v hv
  unfold spLo spHi sg
  cases t <;> simp <;> omega
theorem sp_fewer {t : Bool} {d' d : Dm} (h' : d'.Fine) (h : d.Fine) (hs : ∀ v, d'.has v = true → d.has v = true) : spLo t d ≤ spLo t d' ∧ spHi t d' ≤ spHi t d ∧ spLo t d' ≤ spHi t d' := by
  have a := h.least _ (hs _ h'.loIn)
  have b := h.most _ (hs _ h'.hiIn)
  have c := h'.le
  unfold spLo spHi
  cases t <;> simp <;> omega
theorem mul_mono {c a b : Int} (h : 0 ≤ c) (hab : a ≤ b) : c * a ≤ c * b := Int.mul_le_mul_of_nonneg_left hab h
theorem mul_anti {c a b : Int} (h : c ≤ 0) (hab : a ≤ b) : c * b ≤ c * a := Int.mul_le_mul_of_nonpos_left h hab
theorem lst_le {t : Bool} {c : Int} {d : Dm} (h : d.Fine) {v : Int} (hv : d.has v = true) : lst t (c, d) ≤ c * sg t v := by
  obtain ⟨a, b⟩ := sp_of (t := t) h hv
  unfold lst
  rcases Int.le_total 0 c with hc | hc
  · have := mul_mono hc a
    show min (c * spLo t d) (c * spHi t d) ≤ _
    omega
  · have := mul_anti hc b
    show min (c * spLo t d) (c * spHi t d) ≤ _
    omega
theorem lst_pos {t : Bool} {z : Int × Dm} (h : z.2.Fine) (hc : 0 ≤ z.1) : lst t z = z.1 * spLo t z.2 := by
  obtain ⟨_, _, hle⟩ := sp_fewer (t := t) h h (fun v hv => hv)
  have := mul_mono hc hle
  unfold lst
  omega
theorem lst_neg {t : Bool} {z : Int × Dm} (h : z.2.Fine) (hc : z.1 ≤ 0) : lst t z = z.1 * spHi t z.2 := by
  obtain ⟨_, _, hle⟩ := sp_fewer (t := t) h h (fun v hv => hv)
  have := mul_anti hc hle
  unfold lst
  omega
theorem lst_fewer {t : Bool} {c : Int} {d' d : Dm} (h' : d'.Fine) (h : d.Fine) (hs : ∀ v, d'.has v = true → d.has v = true) : lst t (c, d) ≤ lst t (c, d') := by
  obtain ⟨a, b, e⟩ := sp_fewer (t := t) h' h hs
  rcases Int.le_total 0 c with hc | hc
  · rw [lst_pos (z := (c, d)) h hc, lst_pos (z := (c, d')) h' hc]
    exact mul_mono hc a
  · rw [lst_neg (z := (c, d)) h hc, lst_neg (z := (c, d')) h' hc]
    exact mul_anti hc b

def dot : List Int → List Int → Int
  | c :: cs, v :: vs => c * v + dot cs vs
  | _, _ => 0
theorem leastZ_cons (t : Bool) (z : Int × Dm) (l : List (Int × Dm)) : leastZ t (z :: l) = lst t z + leastZ t l := by
  unfold leastZ
  simp
theorem sg_mul (t : Bool) (c v : Int) : sg t (c * v) = c * sg t v := by
  unfold sg
  cases t
  · rfl
  · exact (Int.mul_neg c v).symm
theorem sg_add (t : Bool) (a b : Int) : sg t (a + b) = sg t a + sg t b := by
  unfold sg
  cases t <;> simp <;> omega
theorem sg_zero (t : Bool) : sg t 0 = 0 := by cases t <;> rfl
theorem least_le (t : Bool) : ∀ (cs : List Int) {D : List Dm} {vs : List Int}, Fines D → Lies D vs → leastZ t (cs.zip D) ≤ sg t (dot cs vs)
  | [], D, vs, _, _ => by simp [leastZ, dot, sg_zero]
  | c :: cs, [], [], _, _ => by simp [leastZ, dot, sg_zero]
  | c :: cs, d :: D, v :: vs, hf, hl => by
    rw [List.zip_cons_cons, leastZ_cons]
    unfold dot
    rw [sg_add, sg_mul]
    have := lst_le (t := t) (c := c) hf.1 hl.1
    have := least_le t cs hf.2 hl.2
    omega
  | _ :: _, [], _ :: _, _, h => h.elim
  | _ :: _, _ :: _, [], _, h => h.elim
theorem least_at (t : Bool) : ∀ (cs : List Int) {D : List Dm} {vs : List Int} (x : Nat) (z : Int × Dm) (v : Int), Fines D → Lies D vs → (cs.zip D)[x]? = some z → vs[x]? = some v → leastZ t (cs.zip D) - lst t z + z.1 * sg t v ≤ sg t (dot cs vs)
  | [], D, vs, x, z, v, _, _, h, _ => by simp at h
  | c :: cs, [], [], x, z, v, _, _, h, _ => by simp at h
  | c :: cs, d :: D, u :: vs, 0, z, v, hf, hl, h, hv => by
    simp at h hv
    subst h hv
    rw [List.zip_cons_cons, leastZ_cons]
    unfold dot
    rw [sg_add, sg_mul]
    have := least_le t cs hf.2 hl.2
    show lst t (c, d) + leastZ t (cs.zip D) - lst t (c, d) + c * sg t u ≤ _
    omega
  | c :: cs, d :: D, u :: vs, x + 1, z, v, hf, hl, h, hv => by
    rw [List.zip_cons_cons, leastZ_cons]
    unfold dot
    rw [sg_add, sg_mul]
    have := lst_le (t := t) (c := c) hf.1 hl.1
    have := least_at t cs x z v hf.2 hl.2 (by simpa using h) (by simpa using hv)
    omega
  | _ :: _, [], _ :: _, _, _, _, _, h, _, _ => h.elim
  | _ :: _, _ :: _, [], _, _, _, _, h, _, _ => h.elim
theorem least_fewer (t : Bool) : ∀ (cs : List Int) {D' D : List Dm}, Fines D' → Fines D → Fewer D' D → leastZ t (cs.zip D) ≤ leastZ t (cs.zip D')
  | [], D', D, _, _, _ => by simp [leastZ]
  | c :: cs, [], [], _, _, _ => by simp [leastZ]
  | c :: cs, d' :: D', d :: D, hf', hf, hs => by
    rw [List.zip_cons_cons, List.zip_cons_cons, leastZ_cons, leastZ_cons]
    have := lst_fewer (t := t) (c := c) hf'.1 hf.1 hs.1
    have := least_fewer t cs hf'.2 hf.2 hs.2
    omega
  | _ :: _, [], _ :: _, _, _, h => h.elim
  | _ :: _, _ :: _, [], _, _, h => h.elim
theorem rest_fewer (t : Bool) : ∀ (cs : List Int) {D' D : List Dm} (x : Nat) (z' z : Int × Dm), Fines D' → Fines D → Fewer D' D → (cs.zip D')[x]? = some z' → (cs.zip D)[x]? = some z → leastZ t (cs.zip D) - lst t z ≤ leastZ t (cs.zip D') - lst t z' ∧ z'.1 = z.1 ∧ z'.2.Fine ∧ z.2.Fine
  | [], D', D, x, z', z, _, _, _, h, _ => by simp at h
  | c :: cs, [], [], x, z', z, _, _, _, h, _ => by simp at h
  | c :: cs, d' :: D', d :: D, 0, z', z, hf', hf, hs, h', h => by
    simp at h h'
    subst h h'
    rw [List.zip_cons_cons, List.zip_cons_cons, leastZ_cons, leastZ_cons]
    have := least_fewer t cs hf'.2 hf.2 hs.2
    exact ⟨by omega, rfl, hf'.1, hf.1⟩
  | c :: cs, d' :: D', d :: D, x + 1, z', z, hf', hf, hs, h', h => by
    rw [List.zip_cons_cons, List.zip_cons_cons, leastZ_cons, leastZ_cons]
    have := lst_fewer (t := t) (c := c) hf'.1 hf.1 hs.1
    obtain ⟨h1, h2⟩ := rest_fewer t cs x z' z hf'.2 hf.2 hs.2 (by simpa using h') (by simpa using h)
    exact ⟨by omega, h2⟩
  | _ :: _, [], _ :: _, _, _, _, _, _, h, _, _ => h.elim
  | _ :: _, _ :: _, [], _, _, _, _, _, h, _, _ => h.elim
/-- What atMost asks, said without a quotient. -/
theorem amC_is {t : Bool} {sp : Int} {z : Int × Dm} {v : Int} (h : z.2.Fine) : amC t sp z v ↔ (z.1 = 0 ∨ z.1 * sg t v ≤ sp + lst t z) := by
  unfold amC
  constructor
  · rintro ⟨h1, h2⟩
    rcases Int.lt_trichotomy z.1 0 with hc | hc | hc
    · right
      rw [lst_neg h (Int.le_of_lt hc)]
      have h3 := h2 hc
      have h4 : spHi t z.2 - sg t v ≤ sp / (-z.1) := by omega
      rw [Int.le_ediv_iff_mul_le (by omega)] at h4
      have e : (spHi t z.2 - sg t v) * -z.1 = z.1 * sg t v - z.1 * spHi t z.2 := by
        rw [Int.mul_neg, Int.sub_mul, Int.mul_comm (sg t v), Int.mul_comm (spHi t z.2)]; omega
      omega
    · exact .inl hc
    · right
      rw [lst_pos h (Int.le_of_lt hc)]
      have h3 := h1 hc
      have h4 : sg t v - spLo t z.2 ≤ sp / z.1 := by omega
      rw [Int.le_ediv_iff_mul_le hc] at h4
      have e : (sg t v - spLo t z.2) * z.1 = z.1 * sg t v - z.1 * spLo t z.2 := by
        rw [Int.sub_mul, Int.mul_comm (sg t v), Int.mul_comm (spLo t z.2)]
      omega
  · intro h3
    constructor
    · intro hc
      have h4 : z.1 * sg t v ≤ sp + lst t z := h3.resolve_left (by omega)
      rw [lst_pos h (Int.le_of_lt hc)] at h4
      have e : (sg t v - spLo t z.2) * z.1 = z.1 * sg t v - z.1 * spLo t z.2 := by
        rw [Int.sub_mul, Int.mul_comm (sg t v), Int.mul_comm (spLo t z.2)]
      have h5 : sg t v - spLo t z.2 ≤ sp / z.1 := by
        rw [Int.le_ediv_iff_mul_le hc]
        omega
      omega
    · intro hc
      have h4 : z.1 * sg t v ≤ sp + lst t z := h3.resolve_left (by omega)
      rw [lst_neg h (Int.le_of_lt hc)] at h4
      have e : (spHi t z.2 - sg t v) * -z.1 = z.1 * sg t v - z.1 * spHi t z.2 := by
        rw [Int.mul_neg, Int.sub_mul, Int.mul_comm (sg t v), Int.mul_comm (spHi t z.2)]; omega
      have h5 : spHi t z.2 - sg t v ≤ sp / (-z.1) := by
        rw [Int.le_ediv_iff_mul_le (by omega)]
        omega
      omega
theorem zip_get {cs : List Int} {D : List Dm} {x : Nat} {z : Int × Dm} (h : (cs.zip D)[x]? = some z) : D[x]? = some z.2 ∧ cs[x]? = some z.1 := by
  rw [List.getElem?_zip_eq_some] at h
  exact ⟨h.2, h.1⟩

/-- atMost: safe, ends, less. -/
theorem atMost_safe {t : Bool} {D : List Dm} {cs vs : List Int} {k : Int} (Q : List Sq) (hf : Fines D) (hl : Lies D vs) (h : sg t (dot cs vs) ≤ turnK t k) : ∃ Q', atMostQ t D cs k Q = some Q' ∧ ∀ x v, vs[x]? = some v → qH Q x v → qH Q' x v := by
  have h0 := least_le t cs hf hl
  have hsp : 0 ≤ spareL t (cs.zip D) k := by unfold spareL; omega
  obtain ⟨Q', e, hq⟩ := (atMost_is t D cs k Q).2 hsp
  refine ⟨Q', e, fun x v hv hx => ?_⟩
  have hxl : x < D.length := by
    rw [← hl.len]
    exact (List.getElem?_eq_some_iff.1 hv).1
  obtain ⟨v', hv', hd⟩ := hl.get x D[x] (List.getElem?_eq_getElem hxl)
  rw [hv] at hv'
  injection hv' with hv'
  subst hv'
  refine (hq x v ((hf.get x _ (List.getElem?_eq_getElem hxl)).sml hd)).2 ⟨hx, fun z hz => ?_⟩
  rw [amC_is (hf.get x _ (zip_get hz).1)]
  right
  have := least_at t cs x z v hf hl hz hv
  unfold spareL
  omega
theorem atMost_some {t : Bool} {D : List Dm} {cs : List Int} {k : Int} {Q Q' : List Sq} (h : atMostQ t D cs k Q = some Q') : leastZ t (cs.zip D) ≤ turnK t k ∧ ∀ x v, Sml v → (qH Q' x v ↔ qH Q x v ∧ ∀ z, (cs.zip D)[x]? = some z → amC t (spareL t (cs.zip D) k) z v) := by
  by_cases hs : spareL t (cs.zip D) k < 0
  · rw [(atMost_is t D cs k Q).1 hs] at h
    cases h
  · obtain ⟨Q2, e, hq⟩ := (atMost_is t D cs k Q).2 (by omega)
    rw [h] at e
    injection e with e
    subst e
    refine ⟨?_, hq⟩
    unfold spareL at hs
    omega
theorem atMost_less {t : Bool} {D' D : List Dm} {cs : List Int} {k : Int} {Q1' Q' : List Sq} (Q1 : List Sq) (hf' : Fines D') (hf : Fines D) (hs : Fewer D' D) (h : atMostQ t D' cs k Q1' = some Q') : ∃ Q, atMostQ t D cs k Q1 = some Q ∧ ∀ x v, Sml v → (qH Q1' x v → qH Q1 x v) → qH Q' x v → qH Q x v := by
  obtain ⟨h1, h2⟩ := atMost_some h
  have h3 := least_fewer t cs hf' hf hs
  have hsp : 0 ≤ spareL t (cs.zip D) k := by unfold spareL; omega
  obtain ⟨Q, e, hq⟩ := (atMost_is t D cs k Q1).2 hsp
  refine ⟨Q, e, fun x v hv hi hx => ?_⟩
  obtain ⟨a, b⟩ := (h2 x v hv).1 hx
  refine (hq x v hv).2 ⟨hi a, fun z hz => ?_⟩
  have hz2 := zip_get hz
  have hxl : x < D'.length := by
    rw [hs.len]
    exact (List.getElem?_eq_some_iff.1 hz2.1).1
  have hz' : (cs.zip D')[x]? = some (z.1, D'[x]) := by
    rw [List.getElem?_zip_eq_some]
    exact ⟨hz2.2, List.getElem?_eq_getElem hxl⟩
  obtain ⟨r1, r2, r3, r4⟩ := rest_fewer t cs x _ z hf' hf hs hz' hz
  have hb := b _ hz'
  rw [amC_is r3] at hb
  rw [amC_is r4]
  rcases hb with hb | hb
  · exact .inl hb
  · right
    unfold spareL at hb ⊢
    rw [r2] at hb
    omega
end Go.Proofs.YtlcegpnnanhloaaGreatDoor

namespace Go.Proofs.YtlcegpnnanhloaaGreatDoor

/-- One value each. -/
def Ones (D : List Dm) : Prop := ∀ (x : Nat) (d : Dm), D[x]? = some d → d.one = true
theorem dAt_is {D : List Dm} {x : Int} (h : 0 ≤ x ∧ x < (D.length : Int)) : D[x.toNat]? = some (dAt D x) := by
  have hx : x.toNat < D.length := by omega
  unfold dAt
  rw [List.getD_eq_getElem?_getD, List.getElem?_eq_getElem hx]
  rfl
theorem Lies.at {D : List Dm} {vs : List Int} (hf : Fines D) (hl : Lies D vs) {x : Int} (h : 0 ≤ x ∧ x < (D.length : Int)) : (dAt D x).Fine ∧ (dAt D x).has (Md.val vs x) = true ∧ vs[x.toNat]? = some (Md.val vs x) := by
  have hd := dAt_is h
  obtain ⟨v, hv, h1⟩ := hl.get _ _ hd
  have e : Md.val vs x = v := by
    unfold Md.val
    rw [List.getD_eq_getElem?_getD, hv]
    rfl
  rw [e]
  exact ⟨hf.get _ _ hd, h1, hv⟩
theorem Fewer.at {D' D : List Dm} (hf' : Fines D') (hf : Fines D) (hs : Fewer D' D) {x : Int} (h : 0 ≤ x ∧ x < (D.length : Int)) : (dAt D' x).Fine ∧ (dAt D x).Fine ∧ (∀ v, (dAt D' x).has v = true → (dAt D x).has v = true) := by
  have hd := dAt_is h
  have hd' := dAt_is (D := D') (x := x) (by rw [hs.len]; exact h)
  exact ⟨hf'.get _ _ hd', hf.get _ _ hd, hs.get _ _ _ hd' hd⟩
theorem one_fewer {d' d : Dm} (h' : d'.Fine) (h : d.Fine) (hs : ∀ v, d'.has v = true → d.has v = true) (h1 : d.one = true) : d'.one = true ∧ d'.lo = d.lo := by
  have a := h.only h1 (hs _ h'.loIn)
  have b := h.only h1 (hs _ h'.hiIn)
  exact ⟨h'.one.2 (by omega), a⟩

/-- What is asked of a rule. -/
def Safe (R : List Dm → List Sq → Option (List Sq)) (n : Nat) (C : List Int → Prop) : Prop := ∀ D vs Q, D.length = n → Fines D → Lies D vs → C vs → ∃ Q', R D Q = some Q' ∧ ∀ x v, vs[x]? = some v → qH Q x v → qH Q' x v
def Less (R : List Dm → List Sq → Option (List Sq)) (n : Nat) : Prop := ∀ D' D Q1' Q1 Q', D.length = n → Fines D' → Fines D → Fewer D' D → R D' Q1' = some Q' → ∃ Q, R D Q1 = some Q ∧ ∀ (x : Nat) (v : Int) (d' : Dm), D'[x]? = some d' → d'.has v = true → (qH Q1' x v → qH Q1 x v) → qH Q' x v → qH Q x v
def Tells (R : List Dm → List Sq → Option (List Sq)) (n : Nat) (C : List Int → Prop) : Prop := ∀ D vs Q Q', D.length = n → Fines D → Lies D vs → Ones D → R D Q = some Q' → (∀ x v, vs[x]? = some v → qH Q' x v) → C vs

/-! The sum of terms. -/
def dotF : (Nat → Int) → List Int → Int
  | _, [] => 0
  | f, v :: vs => f 0 * v + dotF (fun x => f (x + 1)) vs
theorem dot_range (f : Nat → Int) (vs : List Int) : dot ((List.range vs.length).map f) vs = dotF f vs := by
  induction vs generalizing f with
  | nil => rfl
  | cons v vs ih =>
    rw [List.length_cons, List.range_succ_eq_map, List.map_cons, List.map_map]
    show f 0 * v + dot ((List.range vs.length).map (f ∘ Nat.succ)) vs = f 0 * v + dotF (fun x => f (x + 1)) vs
    rw [ih]
    rfl
theorem dotF_zero (vs : List Int) : dotF (fun _ => 0) vs = 0 := by
  induction vs with
  | nil => rfl
  | cons v vs ih => show 0 * v + dotF (fun _ => 0) vs = 0; rw [ih]; simp
theorem dotF_add (f g : Nat → Int) (vs : List Int) : dotF (fun x => f x + g x) vs = dotF f vs + dotF g vs := by
  induction vs generalizing f g with
  | nil => rfl
  | cons v vs ih =>
    show (f 0 + g 0) * v + dotF (fun x => f (x + 1) + g (x + 1)) vs = (f 0 * v + dotF (fun x => f (x + 1)) vs) + (g 0 * v + dotF (fun x => g (x + 1)) vs)
    rw [ih (fun x => f (x + 1)) (fun x => g (x + 1)), Int.add_mul]
    omega
theorem dotF_one (c : Int) (m : Nat) (vs : List Int) : dotF (fun x => if m = x then c else 0) vs = c * vs.getD m 0 := by
  induction vs generalizing m with
  | nil => simp [dotF]
  | cons v vs ih =>
    show (if m = 0 then c else 0) * v + dotF (fun x => if m = x + 1 then c else 0) vs = _
    cases m with
    | zero =>
      have e : (fun x : Nat => if 0 = x + 1 then c else 0) = fun _ => 0 := by funext x; simp
      rw [e, dotF_zero]
      simp
    | succ m =>
      have e : (fun x : Nat => if m + 1 = x + 1 then c else 0) = fun x => if m = x then c else 0 := by funext x; simp
      rw [e, ih]
      simp
def csum : List (Int × Int) → Nat → Int
  | [], _ => 0
  | q :: t, x => (if q.2 = (x : Int) then q.1 else 0) + csum t x
theorem csum_cons (q : Int × Int) (t : List (Int × Int)) (x : Nat) : csum (q :: t) x = (if q.2 = (x : Int) then q.1 else 0) + csum t x := rfl
theorem coef_fold (t : List (Int × Int)) (x : Nat) (a : Int) : t.foldl (fun (c : Int) (q : Int × Int) => if q.2 = (x : Int) then c + q.1 else c) a = a + csum t x := by
  induction t generalizing a with
  | nil => simp [csum]
  | cons q t ih =>
    rw [List.foldl_cons, ih, csum_cons]
    split <;> omega
theorem sum_fold (t : List (Int × Int)) (vs : List Int) (a : Int) : t.foldl (fun n t => n + t.1 * Md.val vs t.2) a = a + Md.sum t vs := by
  unfold Md.sum
  induction t generalizing a with
  | nil => simp
  | cons q t ih =>
    rw [List.foldl_cons, List.foldl_cons, ih, ih (0 + q.1 * Md.val vs q.2)]
    omega
theorem sum_cons (q : Int × Int) (t : List (Int × Int)) (vs : List Int) : Md.sum (q :: t) vs = q.1 * Md.val vs q.2 + Md.sum t vs := by
  have := sum_fold t vs (0 + q.1 * Md.val vs q.2)
  show (q :: t).foldl _ 0 = _
  rw [List.foldl_cons, this]
  omega
theorem dot_coef (t : List (Int × Int)) (vs : List Int) (n : Nat) (hn : vs.length = n) (ht : ∀ q ∈ t, 0 ≤ q.2) : dot (coefL t n) vs = Md.sum t vs := by
  have e : coefL t n = (List.range n).map (csum t) := by
    unfold coefL
    apply List.map_congr_left
    intro x _
    rw [coef_fold]
    omega
  rw [e, ← hn, dot_range]
  clear e hn
  induction t with
  | nil => exact dotF_zero vs
  | cons q t ih =>
    have e : csum (q :: t) = fun x => (fun x : Nat => if q.2.toNat = x then q.1 else 0) x + csum t x := by
      funext x
      have h0 := ht q (by simp)
      rw [csum_cons]
      show _ = (if q.2.toNat = x then q.1 else 0) + csum t x
      by_cases h : q.2 = (x : Int)
      · have h2 : q.2.toNat = x := by omega
        rw [if_pos h, if_pos h2]
      · have h2 : ¬ q.2.toNat = x := by omega
        rw [if_neg h, if_neg h2]
    rw [e, dotF_add (fun x : Nat => if q.2.toNat = x then q.1 else 0) (csum t), dotF_one, ih (fun p hp => ht p (by simp [hp])), sum_cons]
    rfl
theorem least_one (t : Bool) : ∀ (cs : List Int) {D : List Dm} {vs : List Int}, Fines D → Lies D vs → Ones D → sg t (dot cs vs) ≤ leastZ t (cs.zip D)
  | [], D, vs, _, _, _ => by simp [leastZ, dot, sg_zero]
  | c :: cs, [], [], _, _, _ => by simp [leastZ, dot, sg_zero]
  | c :: cs, d :: D, v :: vs, hf, hl, ho => by
    rw [List.zip_cons_cons, leastZ_cons]
    unfold dot
    rw [sg_add, sg_mul]
    have h1 := hf.1.only (ho 0 d rfl) hl.1
    have h2 := hf.1.one.1 (ho 0 d rfl)
    have e : lst t (c, d) = c * sg t v := by
      unfold lst spLo spHi sg
      rw [← h2, ← h1]
      cases t <;> simp
    have := least_one t cs hf.2 hl.2 (fun x d' h => ho (x + 1) d' (by simpa using h))
    omega
  | _ :: _, [], _ :: _, _, h, _ => h.elim
  | _ :: _, _ :: _, [], _, h, _ => h.elim

theorem clampK_in_l {k : Int} (h : -1000000000 ≤ k ∧ k ≤ 1000000001) : clampK k = k := by unfold clampK; omega
theorem turnK_in_l {t : Bool} {k : Int} (h : -1000000000 ≤ k ∧ k ≤ 1000000001) : turnK t k = sg t k := by
  unfold turnK sg
  rw [clampK_in_l h]

/-! Lin. -/
theorem lin_safe (c : Md.Cn) (n : Nat) (hk : -1000000000 ≤ c.k ∧ c.k ≤ 1000000000) (ho : 1 ≤ c.op ∧ c.op ≤ 3) (ht : ∀ q ∈ c.terms, 0 ≤ q.2 ∧ q.2 < (n : Int)) : Safe (fun D Q => linQ D c Q) n (fun vs => Md.linB c vs = true) := by
  intro D vs Q hn hf hl hc
  have hd := dot_coef c.terms vs D.length hl.len (fun q hq => (ht q hq).1)
  have hc' : (c.op = 3 ∨ Md.sum c.terms vs ≤ c.k) ∧ (c.op = 1 ∨ c.k ≤ Md.sum c.terms vs) := by
    unfold Md.linB Md.cmpB at hc
    split at hc
    · exact ⟨.inr (by simpa using hc), .inl (by assumption)⟩
    · split at hc
      · have : Md.sum c.terms vs = c.k := by simpa using hc
        exact ⟨.inr (by omega), .inr (by omega)⟩
      · exact ⟨.inl (by omega), .inr (by simpa using hc)⟩
  have step1 : ∃ Q1, (if c.op = 3 then some Q else atMostQ false D (coefL c.terms D.length) c.k Q) = some Q1 ∧ ∀ x v, vs[x]? = some v → qH Q x v → qH Q1 x v := by
    split
    · exact ⟨Q, rfl, fun _ _ _ h => h⟩
    · refine atMost_safe Q hf hl ?_
      rw [hd, turnK_in_l (by omega)]
      show Md.sum c.terms vs ≤ c.k
      omega
  obtain ⟨Q1, e1, h1⟩ := step1
  show ∃ Q', linQ D c Q = some Q' ∧ _
  unfold linQ
  rw [e1]
  show ∃ Q', (if c.op = 1 then some Q1 else atMostQ true D (coefL c.terms D.length) c.k Q1) = some Q' ∧ _
  split
  · exact ⟨Q1, rfl, h1⟩
  · obtain ⟨Q2, e2, h2⟩ := atMost_safe (t := true) (k := c.k) (cs := coefL c.terms D.length) Q1 hf hl (by
      rw [hd, turnK_in_l (by omega)]
      show -Md.sum c.terms vs ≤ -c.k
      omega)
    exact ⟨Q2, e2, fun x v hv hx => h2 x v hv (h1 x v hv hx)⟩
theorem lin_less (c : Md.Cn) (n : Nat) : Less (fun D Q => linQ D c Q) n := by
  intro D' D Q1' Q1 Q' hn hf' hf hs h
  have hD : D'.length = D.length := hs.len
  have h : linQ D' c Q1' = some Q' := h
  unfold linQ at h
  rw [hD] at h
  obtain ⟨P', hP', h2⟩ : ∃ P', (if c.op = 3 then some Q1' else atMostQ false D' (coefL c.terms D.length) c.k Q1') = some P' ∧ (if c.op = 1 then some P' else atMostQ true D' (coefL c.terms D.length) c.k P') = some Q' := by
    generalize hg : (if c.op = 3 then some Q1' else atMostQ false D' (coefL c.terms D.length) c.k Q1') = g at h
    cases g with
    | none => cases h
    | some P' => exact ⟨P', rfl, h⟩
  have step1 : ∃ P, (if c.op = 3 then some Q1 else atMostQ false D (coefL c.terms D.length) c.k Q1) = some P ∧ ∀ x v, Sml v → (qH Q1' x v → qH Q1 x v) → qH P' x v → qH P x v := by
    split
    · rename_i h3
      rw [if_pos h3] at hP'
      injection hP' with hP'
      subst hP'
      exact ⟨Q1, rfl, fun _ _ _ h h2 => h h2⟩
    · rename_i h3
      rw [if_neg h3] at hP'
      exact atMost_less Q1 hf' hf hs hP'
  obtain ⟨P, e1, h1⟩ := step1
  show ∃ Q, linQ D c Q1 = some Q ∧ _
  unfold linQ
  rw [e1]
  show ∃ Q, (if c.op = 1 then some P else atMostQ true D (coefL c.terms D.length) c.k P) = some Q ∧ _
  split
  · rename_i h3
    rw [if_pos h3] at h2
    injection h2 with h2
    subst h2
    exact ⟨P, rfl, fun x v d' hd' hv hi hx => h1 x v ((hf'.get x d' hd').sml hv) hi hx⟩
  · rename_i h3
    rw [if_neg h3] at h2
    obtain ⟨Q, e2, h5⟩ := atMost_less P hf' hf hs h2
    refine ⟨Q, e2, fun x v d' hd' hv hi hx => ?_⟩
    have hsm := (hf'.get x d' hd').sml hv
    exact h5 x v hsm (fun hp => h1 x v hsm hi hp) hx
theorem lin_tells (c : Md.Cn) (n : Nat) (hk : -1000000000 ≤ c.k ∧ c.k ≤ 1000000000) (ho : 1 ≤ c.op ∧ c.op ≤ 3) (ht : ∀ q ∈ c.terms, 0 ≤ q.2 ∧ q.2 < (n : Int)) : Tells (fun D Q => linQ D c Q) n (fun vs => Md.linB c vs = true) := by
  intro D vs Q Q' hn hf hl h1 h _
  have hd := dot_coef c.terms vs D.length hl.len (fun q hq => (ht q hq).1)
  have h : linQ D c Q = some Q' := h
  unfold linQ at h
  obtain ⟨P, hP, h2⟩ : ∃ P, (if c.op = 3 then some Q else atMostQ false D (coefL c.terms D.length) c.k Q) = some P ∧ (if c.op = 1 then some P else atMostQ true D (coefL c.terms D.length) c.k P) = some Q' := by
    generalize hg : (if c.op = 3 then some Q else atMostQ false D (coefL c.terms D.length) c.k Q) = g at h
    cases g with
    | none => cases h
    | some P' => exact ⟨P', rfl, h⟩
  have a : c.op = 3 ∨ Md.sum c.terms vs ≤ c.k := by
    split at hP
    · exact .inl (by assumption)
    · right
      have := (atMost_some hP).1
      rw [turnK_in_l (by omega)] at this
      have h3 := least_one false (coefL c.terms D.length) hf hl h1
      rw [hd] at h3
      exact Int.le_trans h3 this
  have b : c.op = 1 ∨ c.k ≤ Md.sum c.terms vs := by
    split at h2
    · exact .inl (by assumption)
    · right
      have := (atMost_some h2).1
      rw [turnK_in_l (by omega)] at this
      have h3 := least_one true (coefL c.terms D.length) hf hl h1
      rw [hd] at h3
      have h4 : -Md.sum c.terms vs ≤ -c.k := Int.le_trans h3 this
      omega
  show Md.linB c vs = true
  unfold Md.linB Md.cmpB
  split
  · simp; omega
  · split
    · simp; omega
    · simp; omega

/-! Ne. -/
theorem qH_if (b : Bool) (Q : List Sq) (y : Nat) (t : Int → Bool) (x : Nat) (v : Int) : qH (if b = true then someQ Q y t else Q) x v ↔ qH Q x v ∧ (b = true → x = y → t v = true) := by
  split
  · rename_i hb
    rw [qH_some]
    exact ⟨fun h => ⟨h.1, fun _ => h.2⟩, fun h => ⟨h.1, h.2 hb⟩⟩
  · rename_i hb
    exact ⟨fun h => ⟨h, fun h2 => absurd h2 hb⟩, fun h => h.1⟩
def neC (D : List Dm) (c : Md.Cn) (x : Nat) (v : Int) : Prop := ((dAt D c.y).one = true → x = c.x.toNat → v ≠ (dAt D c.y).lo + c.k) ∧ ((dAt D c.x).one = true → x = c.y.toNat → v ≠ (dAt D c.x).lo - c.k)
theorem ne_is (D : List Dm) (c : Md.Cn) (Q : List Sq) (h : c.x ≠ c.y) : ∃ Q', neQ D c Q = some Q' ∧ ∀ x v, qH Q' x v ↔ qH Q x v ∧ neC D c x v := by
  unfold neQ
  rw [if_neg h]
  refine ⟨_, rfl, fun x v => ?_⟩
  have h1 := qH_if (dAt D c.y).one Q c.x.toNat (fun v => v != (dAt D c.y).lo + c.k) x v
  have h2 := qH_if (dAt D c.x).one (if (dAt D c.y).one = true then someQ Q c.x.toNat (fun v => v != (dAt D c.y).lo + c.k) else Q) c.y.toNat (fun v => v != (dAt D c.x).lo - c.k) x v
  rw [h2, h1]
  unfold neC
  simp only [bne_iff_ne]
  exact ⟨fun h => ⟨h.1.1, h.1.2, h.2⟩, fun h => ⟨⟨h.1, h.2.1⟩, h.2.2⟩⟩
theorem ne_safe (c : Md.Cn) (n : Nat) (hx : 0 ≤ c.x ∧ c.x < (n : Int)) (hy : 0 ≤ c.y ∧ c.y < (n : Int)) : Safe (fun D Q => neQ D c Q) n (fun vs => Md.neB c vs = true) := by
  intro D vs Q hn hf hl hc
  have hc : Md.val vs c.x ≠ Md.val vs c.y + c.k := by simpa [Md.neB] using hc
  rw [← hn] at hx hy
  obtain ⟨fx, lx, vx⟩ := hl.at hf hx
  obtain ⟨fy, ly, vy⟩ := hl.at hf hy
  by_cases e : c.x = c.y
  · show ∃ Q', neQ D c Q = some Q' ∧ _
    unfold neQ
    rw [if_pos e]
    rw [e] at hc
    rw [if_neg (by omega)]
    exact ⟨Q, rfl, fun _ _ _ h => h⟩
  · obtain ⟨Q', e1, h1⟩ := ne_is D c Q e
    refine ⟨Q', e1, fun x v hv hq => (h1 x v).2 ⟨hq, fun ho hxe => ?_, fun ho hxe => ?_⟩⟩
    · subst hxe
      rw [vx] at hv
      injection hv with hv
      have := fy.only ho ly
      omega
    · subst hxe
      rw [vy] at hv
      injection hv with hv
      have := fx.only ho lx
      omega
theorem ne_less (c : Md.Cn) (n : Nat) (hx : 0 ≤ c.x ∧ c.x < (n : Int)) (hy : 0 ≤ c.y ∧ c.y < (n : Int)) : Less (fun D Q => neQ D c Q) n := by
  intro D' D Q1' Q1 Q' hn hf' hf hs h
  rw [← hn] at hx hy
  obtain ⟨fx', fx, sx⟩ := hs.at hf' hf hx
  obtain ⟨fy', fy, sy⟩ := hs.at hf' hf hy
  have h : neQ D' c Q1' = some Q' := h
  by_cases e : c.x = c.y
  · show ∃ Q, neQ D c Q1 = some Q ∧ _
    unfold neQ at h ⊢
    rw [if_pos e] at h ⊢
    split at h
    · cases h
    · rename_i hk
      rw [if_neg hk]
      injection h with h
      subst h
      exact ⟨Q1, rfl, fun _ _ _ _ _ h h2 => h h2⟩
  · obtain ⟨P', e1, h1⟩ := ne_is D' c Q1' e
    rw [h] at e1
    injection e1 with e1
    subst e1
    obtain ⟨Q, e2, h2⟩ := ne_is D c Q1 e
    refine ⟨Q, e2, fun x v d' hd' hv hi hq => ?_⟩
    obtain ⟨a, b, b2⟩ := (h1 x v).1 hq
    refine (h2 x v).2 ⟨hi a, fun ho hxe => ?_, fun ho hxe => ?_⟩
    · obtain ⟨o1, o2⟩ := one_fewer fy' fy sy ho
      rw [← o2]
      exact b o1 hxe
    · obtain ⟨o1, o2⟩ := one_fewer fx' fx sx ho
      rw [← o2]
      exact b2 o1 hxe
theorem ne_tells (c : Md.Cn) (n : Nat) (hx : 0 ≤ c.x ∧ c.x < (n : Int)) (hy : 0 ≤ c.y ∧ c.y < (n : Int)) : Tells (fun D Q => neQ D c Q) n (fun vs => Md.neB c vs = true) := by
  intro D vs Q Q' hn hf hl h1 h hq
  rw [← hn] at hx hy
  obtain ⟨fx, lx, vx⟩ := hl.at hf hx
  obtain ⟨fy, ly, vy⟩ := hl.at hf hy
  have h : neQ D c Q = some Q' := h
  show Md.neB c vs = true
  unfold Md.neB
  rw [decide_eq_true_eq]
  by_cases e : c.x = c.y
  · unfold neQ at h
    rw [if_pos e] at h
    split at h
    · cases h
    · rw [e]
      omega
  · obtain ⟨P', e1, h2⟩ := ne_is D c Q e
    rw [h] at e1
    injection e1 with e1
    subst e1
    have h3 := ((h2 _ _).1 (hq _ _ vx)).2.1 (h1 _ _ (dAt_is hy)) rfl
    have := fy.only (h1 _ _ (dAt_is hy)) ly
    omega

/-! Element. -/
theorem elem_is (D : List Dm) (c : Md.Cn) (Q : List Sq) (x : Nat) (v : Int) : qH (elemQ D c Q) x v ↔ (qH Q x v ∧ (x = c.x.toNat → elB1 D c v = true)) ∧ (x = c.y.toNat → elB2 D c v = true) := by
  unfold elemQ
  rw [qH_some, qH_some]
theorem elB1_is (D : List Dm) (c : Md.Cn) (v : Int) : elB1 D c v = true ↔ 0 ≤ v ∧ v < (c.table.length : Int) ∧ (dAt D c.y).has (c.table.getD v.toNat 0) = true := by
  unfold elB1
  simp only [Bool.and_eq_true, decide_eq_true_eq]
theorem elB2_is (D : List Dm) (c : Md.Cn) (v : Int) : elB2 D c v = true ↔ ∃ k : Nat, k < c.table.length ∧ c.table.getD k 0 = v ∧ (dAt D c.x).has (k : Int) = true := by
  unfold elB2 el2B
  rw [List.any_eq_true]
  simp only [List.mem_range, Bool.and_eq_true, beq_iff_eq]
theorem elem_safe (c : Md.Cn) (n : Nat) (hx : 0 ≤ c.x ∧ c.x < (n : Int)) (hy : 0 ≤ c.y ∧ c.y < (n : Int)) : Safe (fun D Q => some (elemQ D c Q)) n (fun vs => Md.elB c vs = true) := by
  intro D vs Q hn hf hl hc
  have hc : 0 ≤ Md.val vs c.x ∧ Md.val vs c.x < c.table.length ∧ Md.val vs c.y = c.table.getD (Md.val vs c.x).toNat 0 := by unfold Md.elB at hc; exact of_decide_eq_true hc
  obtain ⟨c1, c2, c3⟩ := hc
  rw [← hn] at hx hy
  obtain ⟨fx, lx, vx⟩ := hl.at hf hx
  obtain ⟨fy, ly, vy⟩ := hl.at hf hy
  refine ⟨_, rfl, fun x v hv hq => (elem_is D c Q x v).2 ⟨⟨hq, fun e => ?_⟩, fun e => ?_⟩⟩
  · subst e
    rw [vx] at hv
    injection hv with hv
    subst hv
    rw [elB1_is, ← c3]
    exact ⟨c1, c2, ly⟩
  · subst e
    rw [vy] at hv
    injection hv with hv
    subst hv
    rw [elB2_is]
    refine ⟨(Md.val vs c.x).toNat, by omega, c3.symm, ?_⟩
    rw [Int.toNat_of_nonneg c1]
    exact lx
theorem elem_less (c : Md.Cn) (n : Nat) (hx : 0 ≤ c.x ∧ c.x < (n : Int)) (hy : 0 ≤ c.y ∧ c.y < (n : Int)) : Less (fun D Q => some (elemQ D c Q)) n := by
  intro D' D Q1' Q1 Q' hn hf' hf hs h
  rw [← hn] at hx hy
  obtain ⟨fx', fx, sx⟩ := hs.at hf' hf hx
  obtain ⟨fy', fy, sy⟩ := hs.at hf' hf hy
  injection h with h
  subst h
  refine ⟨_, rfl, fun x v d' hd' hv hi hq => ?_⟩
  obtain ⟨⟨a, b⟩, b2⟩ := (elem_is _ _ _ _ _).1 hq
  refine (elem_is _ _ _ _ _).2 ⟨⟨hi a, fun e => ?_⟩, fun e => ?_⟩
  · obtain ⟨h1, h2, h3⟩ := (elB1_is _ _ _).1 (b e)
    exact (elB1_is _ _ _).2 ⟨h1, h2, sy _ h3⟩
  · obtain ⟨k, h1, h2, h3⟩ := (elB2_is _ _ _).1 (b2 e)
    exact (elB2_is _ _ _).2 ⟨k, h1, h2, sx _ h3⟩
theorem elem_tells (c : Md.Cn) (n : Nat) (hx : 0 ≤ c.x ∧ c.x < (n : Int)) (hy : 0 ≤ c.y ∧ c.y < (n : Int)) : Tells (fun D Q => some (elemQ D c Q)) n (fun vs => Md.elB c vs = true) := by
  intro D vs Q Q' hn hf hl h1 h hq
  rw [← hn] at hx hy
  obtain ⟨fx, lx, vx⟩ := hl.at hf hx
  obtain ⟨fy, ly, vy⟩ := hl.at hf hy
  injection h with h
  subst h
  obtain ⟨⟨_, a⟩, _⟩ := (elem_is _ _ _ _ _).1 (hq _ _ vx)
  obtain ⟨b1, b2, b3⟩ := (elB1_is _ _ _).1 (a rfl)
  have e1 := fy.only (h1 _ _ (dAt_is hy)) ly
  have e2 := fy.only (h1 _ _ (dAt_is hy)) b3
  show Md.elB c vs = true
  unfold Md.elB
  rw [decide_eq_true_eq]
  exact ⟨b1, b2, by rw [e1, e2]⟩
end Go.Proofs.YtlcegpnnanhloaaGreatDoor
