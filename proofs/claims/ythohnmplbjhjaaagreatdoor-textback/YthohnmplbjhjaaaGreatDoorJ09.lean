/-
  Put together: TxForm, TxLine, TxDer.
-/
import Derived.Test.YthohnmplbjhjaaaGreatDoorJ08
namespace Go.Proofs.YthohnmplbjhjaaaGreatDoor
open Md Go.Lib
theorem fault_iff {c : Cn} {n : Int} : fault c n = 0 ↔ kindBad c.kind c.op = false ∧ plainBad c = false ∧ listBad c = false ∧ manyBad c = false ∧ placesB c n = true ∧ coefsB c.terms = true ∧ numsB c = true := by
  unfold fault
  cases h1 : kindBad c.kind c.op
  · cases h2 : plainBad c
    · cases h3 : listBad c
      · cases h4 : manyBad c
        · cases h5 : placesB c n
          · simp
          · cases h6 : coefsB c.terms
            · simp
            · cases h7 : numsB c <;> simp
        · simp
      · simp
    · simp
  · simp
theorem xE {c : Cn} {n : Int} (h : fault c n = 0) : (fOp c.kind = false → c.op = 0) ∧ (fK c.kind = false → c.k = 0) ∧ (fV c.kind = false → c.v = 0) ∧ (fX c.kind = false → c.x = 0) ∧ (fY c.kind = false → c.y = 0) ∧
    (fTerms c.kind = false → c.terms = []) ∧ (fXs c.kind = false → c.xs = []) ∧ (Md.fTable c.kind = false → c.table = []) ∧ (fRows c.kind = false → c.rows = []) := by
  obtain ⟨_, h2, h3, _⟩ := fault_iff.1 h
  simp only [plainBad, Bool.or_eq_false_iff, Bool.and_eq_false_iff, Bool.not_eq_false', bne_eq_false_iff_eq] at h2
  simp only [listBad, Bool.or_eq_false_iff, Bool.and_eq_false_iff, Bool.not_eq_false', decide_eq_false_iff_not] at h3
  obtain ⟨⟨⟨⟨a1, a2⟩, a3⟩, a4⟩, a5⟩ := h2
  obtain ⟨⟨⟨b1, b2⟩, b3⟩, b4⟩ := h3
  have hz : ∀ {α : Type} (l : List α), ¬ 0 < l.length → l = [] := fun l hl => List.length_eq_zero_iff.1 (by omega)
  exact ⟨fun e => a1.resolve_left (by rw [e]; decide), fun e => a2.resolve_left (by rw [e]; decide), fun e => a3.resolve_left (by rw [e]; decide), fun e => a4.resolve_left (by rw [e]; decide), fun e => a5.resolve_left (by rw [e]; decide),
    fun e => hz _ (b1.resolve_left (by rw [e]; decide)), fun e => hz _ (b2.resolve_left (by rw [e]; decide)), fun e => hz _ (b3.resolve_left (by rw [e]; decide)), fun e => hz _ (b4.resolve_left (by rw [e]; decide))⟩
theorem pl_in {V : List Vr} {x : Int} : plB (V.length : Int) x = true ↔ inV V x := by simp [plB, inV]
def nmsW (V : List Vr) (l : List Int) : List (List UInt8) := l.flatMap fun x => [nm V x]
def numW (l : List Int) : List (List UInt8) := l.flatMap fun n => [itoa n]
def sumW (V : List Vr) (t : List (Int × Int)) : List (List UInt8) := t.flatMap fun t => [itoa t.1, nm V t.2]
def conR (V : List Vr) (c : Cn) : List (List UInt8) :=
  if c.kind = 1 then opT c.op :: itoa c.k :: sumW V c.terms
  else if c.kind = 2 then [nm V c.x, nm V c.y, itoa c.k]
  else if c.kind = 3 then nmsW V c.xs
  else if c.kind = 4 then nm V c.x :: nm V c.y :: numW c.table
  else if c.kind = 5 ∨ c.kind = 6 then nm V c.y :: nmsW V c.xs
  else if c.kind = 7 then nm V c.x :: [60, 61] :: itoa c.k :: sumW V c.terms
  else if c.kind = 8 then c.xs.map (nm V) ++ c.rows.flatMap rowW
  else opT c.op :: itoa c.k :: itoa c.v :: nmsW V c.xs
def cnR (V : List Vr) (k : Int) (y : Sy) : Prop := y.v = zv ∧ y.c.kind = k ∧ fault y.c (V.length : Int) = 0
theorem X6 {V : List Vr} {x : Int} (h : inV V x) : inV V 0 := ⟨by omega, by have := h.1; have := h.2; omega⟩
theorem Yx {V : List Vr} (hV : PV V) : RdE (yo (yE V)) (fun l => 1 ≤ l.length ∧ l.length ≤ 64 ∧ ∀ a ∈ l, inV V a) (nmsW V) := Xb (Zj hV) (fun _ _ => by simp)
theorem Yy {V : List Vr} (hV : PV V) : RdE (yo (yM V)) (fun l => 1 ≤ l.length ∧ l.length ≤ 64 ∧ ∀ a ∈ l, cfB a.1 = true ∧ inV V a.2) (sumW V) := Xb (y57 hV) (fun _ _ => by simp)
theorem nums_list : RdE (yo yL) (fun l => 1 ≤ l.length ∧ l.length ≤ 64 ∧ ∀ a ∈ l, numB a = true) numW := Xb rd_value (fun _ _ => by simp)
theorem Zl {V : List Vr} {l : List Int} (h : 1 ≤ l.length) (hl : ∀ a ∈ l, inV V a) : inV V 0 := by
  cases l with
  | nil => simp at h
  | cons a l => exact X6 (hl a (by simp))
theorem Kt {V : List Vr} {l : List (Int × Int)} (h : 1 ≤ l.length) (hl : ∀ a ∈ l, cfB a.1 = true ∧ inV V a.2) : inV V 0 := by
  cases l with
  | nil => simp at h
  | cons a l => exact X6 (hl a (by simp)).2
theorem xi {n m : Nat} (h : 1 ≤ n ∧ n ≤ m) : fewB n m = false := by unfold fewB; exact decide_eq_false (by omega)
theorem zV {n m : Nat} (h : fewB n m = false) : 1 ≤ n ∧ n ≤ m := by unfold fewB at h; have := of_decide_eq_false h; omega
theorem all_in {V : List Vr} {l : List Int} : l.all (plB (V.length : Int)) = true ↔ ∀ a ∈ l, inV V a := by
  rw [List.all_eq_true]
  exact ⟨fun h a ha => pl_in.1 (h a ha), fun h a ha => pl_in.2 (h a ha)⟩
theorem all_in2 {V : List Vr} {l : List (Int × Int)} : (l.all (fun t => plB (V.length : Int) t.2) = true ∧ coefsB l = true) ↔ ∀ a ∈ l, cfB a.1 = true ∧ inV V a.2 := by
  unfold coefsB
  rw [List.all_eq_true, List.all_eq_true]
  exact ⟨fun h a ha => ⟨h.2 a ha, pl_in.1 (h.1 a ha)⟩, fun h => ⟨fun a ha => pl_in.2 (h a ha).2, fun a ha => (h a ha).1⟩⟩
theorem lin_iff {V : List Vr} {o k : Int} {t : List (Int × Int)} : fault ⟨1, o, t, k, 0, 0, 0, [], [], []⟩ (V.length : Int) = 0 ↔ (1 ≤ o ∧ o ≤ 3) ∧ numB k = true ∧ 1 ≤ t.length ∧ t.length ≤ 64 ∧ ∀ a ∈ t, cfB a.1 = true ∧ inV V a.2 := by
  rw [fault_iff]
  constructor
  · rintro ⟨h1, _, _, h4, h5, h6, h7⟩
    have h1' : 1 ≤ o ∧ o ≤ 3 := by
      simp only [kindBad, fOp, Bool.or_eq_false_iff, Bool.and_eq_false_iff, decide_eq_false_iff_not] at h1
      have := h1.2.resolve_left (by decide)
      omega
    simp only [manyBad, Bool.or_eq_false_iff, Bool.and_eq_false_iff] at h4
    have h4' := zV (h4.1.1.1.1.resolve_left (by decide))
    simp only [placesB, Bool.and_eq_true] at h5
    simp only [numsB, Bool.and_eq_true] at h7
    exact ⟨h1', h7.1.1.1, h4'.1, h4'.2, all_in2.1 ⟨h5.1.2, h6⟩⟩
  · rintro ⟨h1, h2, h3, h4, h5⟩
    obtain ⟨h6, h7⟩ := all_in2.2 h5
    have h8 : plB (V.length : Int) 0 = true := pl_in.2 (Kt h3 h5)
    refine ⟨?_, rfl, rfl, ?_, ?_, h7, ?_⟩
    · unfold kindBad
      rw [decide_eq_false (by omega : ¬ ((1 : Int) < 1 ∨ 9 < (1 : Int))), decide_eq_false (by omega : ¬ (o < 1 ∨ 3 < o))]
      rfl
    · unfold manyBad
      simp only [xi ⟨h3, h4⟩]
      rfl
    · unfold placesB
      simp only [h8, h6]
      rfl
    · unfold numsB
      simp only [h2]
      rfl
theorem y58 {V : List Vr} (hV : PV V) : RdE (fLin V) (cnR V 1) (fun y => conR V y.c) := by
  refine ⟨fun s h0 => ?_, fun s y h0 hw hy => ?_⟩
  · obtain ⟨h1, h2, h3⟩ := (Yy hV).1 _ h0
    obtain ⟨h4, h5, h6⟩ := rd_number.1 _ h1
    obtain ⟨h7, h8, h9⟩ := rd_op.1 _ h4
    exact ⟨h7, ⟨rfl, rfl, lin_iff.2 ⟨h8, h5, h2⟩⟩, by rw [h9, h6, h3]; rfl⟩
  · obtain ⟨v, kind, op, t, k, vv, x, yy, xs, tb, r⟩ := y
    obtain ⟨h1, h2, h3⟩ := hy
    simp only at h1 h2 h3
    subst h1; subst h2
    obtain ⟨_, _, p3, p4, p5, _, p7, p8, p9⟩ := xE h3
    have e1 := p3 rfl; have e2 := p4 rfl; have e3 := p5 rfl; have e4 := p7 rfl; have e5 := p8 rfl; have e6 := p9 rfl
    simp only at e1 e2 e3 e4 e5 e6
    subst e1 e2 e3 e4 e5 e6
    obtain ⟨q1, q2, q3⟩ := lin_iff.1 h3
    obtain ⟨a1, a2, a3⟩ := rd_op.2 s op _ h0 hw q1
    obtain ⟨b1, b2, b3⟩ := rd_number.2 _ k _ a2 a3 q2
    obtain ⟨c1, c2⟩ := (Yy hV).2 _ t b2 b3 q3
    unfold fLin
    simp only [a1, b1, c1]
    exact ⟨trivial, c2⟩
theorem ne_iff {V : List Vr} {x y k : Int} : fault ⟨2, 0, [], k, 0, x, y, [], [], []⟩ (V.length : Int) = 0 ↔ inV V x ∧ inV V y ∧ numB k = true := by
  rw [fault_iff]
  constructor
  · rintro ⟨_, _, _, _, h5, _, h7⟩
    simp only [placesB, Bool.and_eq_true] at h5
    simp only [numsB, Bool.and_eq_true] at h7
    exact ⟨pl_in.1 h5.1.1.1, pl_in.1 h5.1.1.2, h7.1.1.1⟩
  · rintro ⟨h1, h2, h3⟩
    refine ⟨rfl, rfl, rfl, rfl, ?_, rfl, ?_⟩
    · unfold placesB
      simp only [pl_in.2 h1, pl_in.2 h2]
      rfl
    · unfold numsB
      simp only [h3]
      rfl
theorem y59 {V : List Vr} (hV : PV V) : RdE (fNe V) (cnR V 2) (fun y => conR V y.c) := by
  refine ⟨fun s h0 => ?_, fun s y h0 hw hy => ?_⟩
  · obtain ⟨h1, h2⟩ := Ku h0
    obtain ⟨h4, h5, h6⟩ := rd_number.1 _ h1
    obtain ⟨h7, h8, h9⟩ := (zK hV).1 _ h4
    obtain ⟨h10, h11, h12⟩ := (zK hV).1 _ h7
    exact ⟨h10, ⟨rfl, rfl, ne_iff.2 ⟨h11, h8, h5⟩⟩, by rw [h12, h9, h6, h2]; rfl⟩
  · obtain ⟨v, kind, op, t, k, vv, x, yy, xs, tb, r⟩ := y
    obtain ⟨h1, h2, h3⟩ := hy
    simp only at h1 h2 h3
    subst h1; subst h2
    obtain ⟨p1, _, p3, _, _, p6, p7, p8, p9⟩ := xE h3
    have e1 := p1 rfl; have e2 := p3 rfl; have e3 := p6 rfl; have e4 := p7 rfl; have e5 := p8 rfl; have e6 := p9 rfl
    simp only at e1 e2 e3 e4 e5 e6
    subst e1 e2 e3 e4 e5 e6
    obtain ⟨q1, q2, q3⟩ := ne_iff.1 h3
    obtain ⟨a1, a2, a3⟩ := (zK hV).2 s x [nm V yy, itoa k] h0 hw q1
    obtain ⟨b1, b2, b3⟩ := (zK hV).2 _ yy [itoa k] a2 a3 q2
    obtain ⟨c1, c2, c3⟩ := rd_number.2 _ k [] b2 b3 q3
    unfold fNe
    simp only [a1, b1, c1]
    exact ⟨trivial, by rw [Kv c3]; exact c2⟩
theorem all_iff {V : List Vr} {xs : List Int} : fault ⟨3, 0, [], 0, 0, 0, 0, xs, [], []⟩ (V.length : Int) = 0 ↔ 1 ≤ xs.length ∧ xs.length ≤ 64 ∧ ∀ a ∈ xs, inV V a := by
  rw [fault_iff]
  constructor
  · rintro ⟨_, _, _, h4, h5, _, _⟩
    simp only [manyBad, Bool.or_eq_false_iff, Bool.and_eq_false_iff] at h4
    have h4' := zV (h4.1.1.1.2.resolve_left (by decide))
    simp only [placesB, Bool.and_eq_true] at h5
    exact ⟨h4'.1, h4'.2, all_in.1 h5.2⟩
  · rintro ⟨h1, h2, h3⟩
    have h8 : plB (V.length : Int) 0 = true := pl_in.2 (Zl h1 h3)
    refine ⟨rfl, rfl, rfl, ?_, ?_, rfl, rfl⟩
    · unfold manyBad mostXs
      simp only [if_neg (by decide : ¬ (3 : Int) = 8), xi ⟨h1, h2⟩]
      rfl
    · unfold placesB
      simp only [h8, all_in.2 h3]
      rfl
theorem y5a {V : List Vr} (hV : PV V) : RdE (fAll V) (cnR V 3) (fun y => conR V y.c) := by
  refine ⟨fun s h0 => ?_, fun s y h0 hw hy => ?_⟩
  · obtain ⟨h1, h2, h3⟩ := (Yx hV).1 _ h0
    exact ⟨h1, ⟨rfl, rfl, all_iff.2 h2⟩, by rw [h3]; rfl⟩
  · obtain ⟨v, kind, op, t, k, vv, x, yy, xs, tb, r⟩ := y
    obtain ⟨h1, h2, h3⟩ := hy
    simp only at h1 h2 h3
    subst h1; subst h2
    obtain ⟨p1, p2, p3, p4, p5, p6, _, p8, p9⟩ := xE h3
    have e1 := p1 rfl; have e2 := p2 rfl; have e3 := p3 rfl; have e4 := p4 rfl; have e5 := p5 rfl; have e6 := p6 rfl; have e7 := p8 rfl; have e8 := p9 rfl
    simp only at e1 e2 e3 e4 e5 e6 e7 e8
    subst e1 e2 e3 e4 e5 e6 e7 e8
    obtain ⟨c1, c2⟩ := (Yx hV).2 s xs h0 hw (all_iff.1 h3)
    unfold fAll
    simp only [c1]
    exact ⟨trivial, c2⟩
theorem el_iff {V : List Vr} {x y : Int} {tb : List Int} : fault ⟨4, 0, [], 0, 0, x, y, [], tb, []⟩ (V.length : Int) = 0 ↔ inV V x ∧ inV V y ∧ 1 ≤ tb.length ∧ tb.length ≤ 64 ∧ ∀ a ∈ tb, numB a = true := by
  rw [fault_iff]
  constructor
  · rintro ⟨_, _, _, h4, h5, _, h7⟩
    simp only [manyBad, Bool.or_eq_false_iff, Bool.and_eq_false_iff] at h4
    have h4' := zV (h4.1.1.2.resolve_left (by decide))
    simp only [placesB, Bool.and_eq_true] at h5
    simp only [numsB, Bool.and_eq_true, List.all_eq_true] at h7
    exact ⟨pl_in.1 h5.1.1.1, pl_in.1 h5.1.1.2, h4'.1, h4'.2, h7.1.2⟩
  · rintro ⟨h1, h2, h3, h4, h5⟩
    refine ⟨rfl, rfl, rfl, ?_, ?_, rfl, ?_⟩
    · unfold manyBad
      simp only [xi ⟨h3, h4⟩]
      rfl
    · unfold placesB
      simp only [pl_in.2 h1, pl_in.2 h2]
      rfl
    · unfold numsB
      have : tb.all numB = true := by rw [List.all_eq_true]; exact h5
      simp only [this]
      rfl
theorem y5b {V : List Vr} (hV : PV V) : RdE (fEl V) (cnR V 4) (fun y => conR V y.c) := by
  refine ⟨fun s h0 => ?_, fun s y h0 hw hy => ?_⟩
  · obtain ⟨h1, h2, h3⟩ := nums_list.1 _ h0
    obtain ⟨h7, h8, h9⟩ := (zK hV).1 _ h1
    obtain ⟨h10, h11, h12⟩ := (zK hV).1 _ h7
    exact ⟨h10, ⟨rfl, rfl, el_iff.2 ⟨h11, h8, h2⟩⟩, by rw [h12, h9, h3]; rfl⟩
  · obtain ⟨v, kind, op, t, k, vv, x, yy, xs, tb, r⟩ := y
    obtain ⟨h1, h2, h3⟩ := hy
    simp only at h1 h2 h3
    subst h1; subst h2
    obtain ⟨p1, p2, p3, _, _, p6, p7, _, p9⟩ := xE h3
    have e1 := p1 rfl; have e2 := p2 rfl; have e3 := p3 rfl; have e4 := p6 rfl; have e5 := p7 rfl; have e6 := p9 rfl
    simp only at e1 e2 e3 e4 e5 e6
    subst e1 e2 e3 e4 e5 e6
    obtain ⟨q1, q2, q3⟩ := el_iff.1 h3
    obtain ⟨a1, a2, a3⟩ := (zK hV).2 s x _ h0 hw q1
    obtain ⟨b1, b2, b3⟩ := (zK hV).2 _ yy _ a2 a3 q2
    obtain ⟨c1, c2⟩ := nums_list.2 _ tb b2 b3 q3
    unfold fEl
    simp only [a1, b1, c1]
    exact ⟨trivial, c2⟩
theorem Kw {V : List Vr} {k y : Int} {xs : List Int} (hk : k = 5 ∨ k = 6) : fault ⟨k, 0, [], 0, 0, 0, y, xs, [], []⟩ (V.length : Int) = 0 ↔ inV V y ∧ 1 ≤ xs.length ∧ xs.length ≤ 64 ∧ ∀ a ∈ xs, inV V a := by
  rw [fault_iff]
  constructor
  · rintro ⟨_, _, _, h4, h5, _, _⟩
    simp only [manyBad, Bool.or_eq_false_iff, Bool.and_eq_false_iff] at h4
    have h4' := zV (h4.1.1.1.2.resolve_left (by rcases hk with rfl | rfl <;> decide))
    have h4'' : xs.length ≤ 64 := by
      have := h4'.2
      rcases hk with rfl | rfl <;> exact this
    simp only [placesB, Bool.and_eq_true] at h5
    exact ⟨pl_in.1 h5.1.1.2, h4'.1, h4'', all_in.1 h5.2⟩
  · rintro ⟨h0, h1, h2, h3⟩
    have h8 : plB (V.length : Int) 0 = true := pl_in.2 (Zl h1 h3)
    refine ⟨by rcases hk with rfl | rfl <;> rfl, by rcases hk with rfl | rfl <;> rfl, by rcases hk with rfl | rfl <;> rfl, ?_, ?_, rfl, rfl⟩
    · unfold manyBad mostXs
      rcases hk with rfl | rfl
      · simp only [if_neg (by decide : ¬ (5 : Int) = 8), xi ⟨h1, h2⟩]
        rfl
      · simp only [if_neg (by decide : ¬ (6 : Int) = 8), xi ⟨h1, h2⟩]
        rfl
    · unfold placesB
      simp only [h8, all_in.2 h3, pl_in.2 h0]
      rfl
theorem Kx {V : List Vr} (hV : PV V) (k : Int) (hk : k = 5 ∨ k = 6) : RdE (fMax V k) (cnR V k) (fun y => conR V y.c) := by
  have hc : ∀ c : Cn, c.kind = k → conR V c = nm V c.y :: nmsW V c.xs := fun c h => by
    unfold conR
    rw [h]
    rcases hk with rfl | rfl <;> rfl
  refine ⟨fun s h0 => ?_, fun s y h0 hw hy => ?_⟩
  · obtain ⟨h1, h2, h3⟩ := (Yx hV).1 _ h0
    obtain ⟨h10, h11, h12⟩ := (zK hV).1 _ h1
    refine ⟨h10, ⟨rfl, rfl, (Kw hk).2 ⟨h11, h2⟩⟩, ?_⟩
    show _ = conR V _
    rw [hc _ rfl, h12, h3]
    rfl
  · obtain ⟨v, kind, op, t, kk, vv, x, yy, xs, tb, r⟩ := y
    obtain ⟨h1, h2, h3⟩ := hy
    have hw2 := hw.trans (hc _ h2)
    simp only at h1 h2 h3 hw2
    clear hw
    subst h1; subst h2
    obtain ⟨p1, p2, p3, p4, _, p6, _, p8, p9⟩ := xE h3
    have e1 := p1 (by rcases hk with rfl | rfl <;> rfl); have e2 := p2 (by rcases hk with rfl | rfl <;> rfl); have e3 := p3 (by rcases hk with rfl | rfl <;> rfl); have e4 := p4 (by rcases hk with rfl | rfl <;> rfl); have e5 := p6 (by rcases hk with rfl | rfl <;> rfl); have e6 := p8 (by rcases hk with rfl | rfl <;> rfl); have e7 := p9 (by rcases hk with rfl | rfl <;> rfl)
    simp only at e1 e2 e3 e4 e5 e6 e7
    subst e1 e2 e3 e4 e5 e6 e7
    obtain ⟨q1, q2⟩ := (Kw hk).1 h3
    obtain ⟨a1, a2, a3⟩ := (zK hV).2 s yy _ h0 hw2 q1
    obtain ⟨c1, c2⟩ := (Yx hV).2 _ xs a2 a3 q2
    unfold fMax
    simp only [a1, c1]
    exact ⟨trivial, c2⟩
theorem rf_iff {V : List Vr} {x k : Int} {t : List (Int × Int)} : fault ⟨7, 0, t, k, 0, x, 0, [], [], []⟩ (V.length : Int) = 0 ↔ inV V x ∧ numB k = true ∧ 1 ≤ t.length ∧ t.length ≤ 64 ∧ ∀ a ∈ t, cfB a.1 = true ∧ inV V a.2 := by
  rw [fault_iff]
  constructor
  · rintro ⟨_, _, _, h4, h5, h6, h7⟩
    simp only [manyBad, Bool.or_eq_false_iff, Bool.and_eq_false_iff] at h4
    have h4' := zV (h4.1.1.1.1.resolve_left (by decide))
    simp only [placesB, Bool.and_eq_true] at h5
    simp only [numsB, Bool.and_eq_true] at h7
    exact ⟨pl_in.1 h5.1.1.1, h7.1.1.1, h4'.1, h4'.2, all_in2.1 ⟨h5.1.2, h6⟩⟩
  · rintro ⟨h0, h2, h3, h4, h5⟩
    obtain ⟨h6, h7⟩ := all_in2.2 h5
    have h8 : plB (V.length : Int) 0 = true := pl_in.2 (Kt h3 h5)
    refine ⟨rfl, rfl, rfl, ?_, ?_, h7, ?_⟩
    · unfold manyBad
      simp only [xi ⟨h3, h4⟩]
      rfl
    · unfold placesB
      simp only [h8, h6, pl_in.2 h0]
      rfl
    · unfold numsB
      simp only [h2]
      rfl
theorem y5c {V : List Vr} (hV : PV V) : RdE (xg V) (cnR V 7) (fun y => conR V y.c) := by
  refine ⟨fun s h0 => ?_, fun s y h0 hw hy => ?_⟩
  · obtain ⟨h1, h2, h3⟩ := (Yy hV).1 _ h0
    obtain ⟨h4, h5, h6⟩ := rd_number.1 _ h1
    obtain ⟨h7, h8⟩ := Ki h4
    rw [h8] at h4 h6
    obtain ⟨h9, h10⟩ := Ya h4
    obtain ⟨h11, h12, h13⟩ := (zK hV).1 _ h9
    refine ⟨h11, ⟨rfl, rfl, rf_iff.2 ⟨h12, h5, h2⟩⟩, ?_⟩
    have e : (xg V s).1.c.k = (yH (ye (yx V s).2).2).1 := by unfold xg; simp only [h8]
    have e2 : words s.1 = nm V (yx V s).1 :: [60, 61] :: itoa (yH (ye (yx V s).2).2).1 :: words (yH (ye (yx V s).2).2).2.1 := by rw [h13, h10, h7, h6]; rfl
    rw [e2]
    show _ = nm V (yx V s).1 :: [60, 61] :: itoa (xg V s).1.c.k :: sumW V _
    rw [e]
    rw [h8] at h3
    rw [h3]
    unfold xg
    simp only [h8]
  · obtain ⟨v, kind, op, t, k, vv, x, yy, xs, tb, r⟩ := y
    obtain ⟨h1, h2, h3⟩ := hy
    simp only at h1 h2 h3
    subst h1; subst h2
    obtain ⟨p1, _, p3, _, p5, _, p7, p8, p9⟩ := xE h3
    have e1 := p1 rfl; have e2 := p3 rfl; have e3 := p5 rfl; have e4 := p7 rfl; have e5 := p8 rfl; have e6 := p9 rfl
    simp only at e1 e2 e3 e4 e5 e6
    subst e1 e2 e3 e4 e5 e6
    obtain ⟨q1, q2, q3⟩ := rf_iff.1 h3
    obtain ⟨a1, a2, a3⟩ := (zK hV).2 s x _ h0 hw q1
    obtain ⟨b1, b2, b3⟩ := Yz a2 a3
    have hm : zj [60, 61] [60, 61] (ye (yx V s).2).2 = (ye (yx V s).2).2 := rfl
    obtain ⟨d1, d2, d3⟩ := rd_number.2 _ k _ b2 b3 q2
    obtain ⟨c1, c2⟩ := (Yy hV).2 _ t d2 d3 q3
    unfold xg
    simp only [a1, b1, hm, d1, c1]
    exact ⟨trivial, c2⟩
theorem tb_iff {V : List Vr} {xs : List Int} {r : List (List Int)} : fault ⟨8, 0, [], 0, 0, 0, 0, xs, [], r⟩ (V.length : Int) = 0 ↔ (1 ≤ xs.length ∧ xs.length ≤ 8 ∧ ∀ a ∈ xs, inV V a) ∧ 1 ≤ r.length ∧ r.length ≤ 64 ∧ ∀ l ∈ r, l.length = xs.length ∧ ∀ a ∈ l, numB a = true := by
  rw [fault_iff]
  constructor
  · rintro ⟨_, _, _, h4, h5, _, h7⟩
    simp only [manyBad, Bool.or_eq_false_iff, Bool.and_eq_false_iff] at h4
    have h4' := zV (h4.1.1.1.2.resolve_left (by decide))
    have h4r := zV (h4.1.2.resolve_left (by decide))
    have h4l := h4.2
    simp only [Bool.not_eq_false', List.all_eq_true, beq_iff_eq] at h4l
    simp only [placesB, Bool.and_eq_true] at h5
    simp only [numsB, Bool.and_eq_true, List.all_eq_true] at h7
    exact ⟨⟨h4'.1, h4'.2, all_in.1 h5.2⟩, h4r.1, h4r.2, fun l hl => ⟨h4l l hl, h7.2 l hl⟩⟩
  · rintro ⟨⟨h1, h2, h3⟩, h4, h5, h6⟩
    have h8 : plB (V.length : Int) 0 = true := pl_in.2 (Zl h1 h3)
    refine ⟨rfl, rfl, rfl, ?_, ?_, rfl, ?_⟩
    · unfold manyBad mostXs
      have : (r.all fun l => l.length == xs.length) = true := by rw [List.all_eq_true]; intro l hl; rw [beq_iff_eq]; exact (h6 l hl).1
      simp only [if_true, xi ⟨h1, h2⟩, xi ⟨h4, h5⟩, this]
      rfl
    · unfold placesB
      simp only [h8, all_in.2 h3]
      rfl
    · unfold numsB
      have : (r.all fun l => l.all numB) = true := by rw [List.all_eq_true]; intro l hl; rw [List.all_eq_true]; exact (h6 l hl).2
      simp only [this]
      rfl
theorem Ky {r : List (List Int)} (h : 1 ≤ r.length) : r.flatMap rowW = [58] :: (r.flatMap rowW).tail := by
  cases r with
  | nil => simp at h
  | cons a l => simp [rowW]
theorem Kz (V : List Vr) : ∀ (k : Nat) (xs : List Int) (s : St), xs.length ≤ (yP V k xs s).1.length
  | 0, xs, s => by
    unfold yP
    split
    · exact Nat.le_refl _
    · split <;> exact Nat.le_refl _
  | k + 1, xs, s => by
    unfold yP
    split
    · exact Nat.le_refl _
    · rename_i p _
      split
      · exact Nat.le_refl _
      · have := Kz V k (xs ++ [(yE V p.1 p.2).1]) (yE V p.1 p.2).2
        simp at this
        omega
theorem y5d {V : List Vr} (hV : PV V) : RdE (fTable V) (cnR V 8) (fun y => conR V y.c) := by
  refine ⟨fun s h0 => ?_, fun s y h0 hw hy => ?_⟩
  · have hn : 1 ≤ (zt V s).1.length := Kz V 7 [(yx V s).1] (yx V s).2
    obtain ⟨h1, h2, h3⟩ := (Kl hn).1 _ h0
    obtain ⟨h4, h5, h6⟩ := (Kf hV).1 _ h1
    refine ⟨h4, ⟨rfl, rfl, tb_iff.2 ⟨h5, h2⟩⟩, ?_⟩
    rw [h6, h3]
    show _ = (zt V s).1.map (nm V) ++ (zS (zt V s).1.length (zt V s).2).1.flatMap rowW
    rw [Ky h2.1]
    simp
  · obtain ⟨v, kind, op, t, k, vv, x, yy, xs, tb, r⟩ := y
    obtain ⟨h1, h2, h3⟩ := hy
    simp only at h1 h2 h3
    subst h1; subst h2
    obtain ⟨p1, p2, p3, p4, p5, p6, _, p8, _⟩ := xE h3
    have e1 := p1 rfl; have e2 := p2 rfl; have e3 := p3 rfl; have e4 := p4 rfl; have e5 := p5 rfl; have e6 := p6 rfl; have e7 := p8 rfl
    simp only at e1 e2 e3 e4 e5 e6 e7
    subst e1 e2 e3 e4 e5 e6 e7
    obtain ⟨q1, q2⟩ := tb_iff.1 h3
    have hw' : words s.1 = (xs.map (nm V) ++ [[58]]) ++ (r.flatMap rowW).tail := by
      rw [hw]
      show xs.map (nm V) ++ r.flatMap rowW = _
      rw [Ky q2.1]
      simp
    obtain ⟨a1, a2, a3⟩ := (Kf hV).2 s xs _ h0 hw' q1
    obtain ⟨c1, c2⟩ := (Kl q1.1).2 _ r a2 a3 q2
    unfold fTable
    simp only [a1, c1]
    exact ⟨trivial, c2⟩
theorem ct_iff {V : List Vr} {o k v : Int} {xs : List Int} : fault ⟨9, o, [], k, v, 0, 0, xs, [], []⟩ (V.length : Int) = 0 ↔ (1 ≤ o ∧ o ≤ 3) ∧ numB k = true ∧ numB v = true ∧ 1 ≤ xs.length ∧ xs.length ≤ 64 ∧ ∀ a ∈ xs, inV V a := by
  rw [fault_iff]
  constructor
  · rintro ⟨h1, _, _, h4, h5, _, h7⟩
    have h1' : 1 ≤ o ∧ o ≤ 3 := by
      simp only [kindBad, fOp, Bool.or_eq_false_iff, Bool.and_eq_false_iff, decide_eq_false_iff_not] at h1
      have := h1.2.resolve_left (by decide)
      omega
    simp only [manyBad, Bool.or_eq_false_iff, Bool.and_eq_false_iff] at h4
    have h4' := zV (h4.1.1.1.2.resolve_left (by decide))
    simp only [placesB, Bool.and_eq_true] at h5
    simp only [numsB, Bool.and_eq_true] at h7
    exact ⟨h1', h7.1.1.1, h7.1.1.2, h4'.1, h4'.2, all_in.1 h5.2⟩
  · rintro ⟨h1, h2, h2', h3, h4, h5⟩
    have h8 : plB (V.length : Int) 0 = true := pl_in.2 (Zl h3 h5)
    refine ⟨?_, rfl, rfl, ?_, ?_, rfl, ?_⟩
    · unfold kindBad
      rw [decide_eq_false (by omega : ¬ ((9 : Int) < 1 ∨ 9 < (9 : Int))), decide_eq_false (by omega : ¬ (o < 1 ∨ 3 < o))]
      rfl
    · unfold manyBad mostXs
      simp only [if_neg (by decide : ¬ (9 : Int) = 8), xi ⟨h3, h4⟩]
      rfl
    · unfold placesB
      simp only [h8, all_in.2 h5]
      rfl
    · unfold numsB
      simp only [h2, h2']
      rfl
theorem y5e {V : List Vr} (hV : PV V) : RdE (Y2 V) (cnR V 9) (fun y => conR V y.c) := by
  refine ⟨fun s h0 => ?_, fun s y h0 hw hy => ?_⟩
  · obtain ⟨h1, h2, h3⟩ := (Yx hV).1 _ h0
    obtain ⟨h4, h5, h6⟩ := rd_number.1 _ h1
    obtain ⟨h7, h8, h9⟩ := rd_number.1 _ h4
    obtain ⟨h10, h11, h12⟩ := rd_op.1 _ h7
    exact ⟨h10, ⟨rfl, rfl, ct_iff.2 ⟨h11, h8, h5, h2⟩⟩, by rw [h12, h9, h6, h3]; rfl⟩
  · obtain ⟨v, kind, op, t, k, vv, x, yy, xs, tb, r⟩ := y
    obtain ⟨h1, h2, h3⟩ := hy
    simp only at h1 h2 h3
    subst h1; subst h2
    obtain ⟨_, _, _, p4, p5, p6, _, p8, p9⟩ := xE h3
    have e1 := p4 rfl; have e2 := p5 rfl; have e3 := p6 rfl; have e4 := p8 rfl; have e5 := p9 rfl
    simp only at e1 e2 e3 e4 e5
    subst e1 e2 e3 e4 e5
    obtain ⟨q1, q2, q3, q4⟩ := ct_iff.1 h3
    obtain ⟨a1, a2, a3⟩ := rd_op.2 s op _ h0 hw q1
    obtain ⟨b1, b2, b3⟩ := rd_number.2 _ k _ a2 a3 q2
    obtain ⟨d1, d2, d3⟩ := rd_number.2 _ vv _ b2 b3 q3
    obtain ⟨c1, c2⟩ := (Yx hV).2 _ xs d2 d3 q4
    unfold Y2
    simp only [a1, b1, d1, c1]
    exact ⟨trivial, c2⟩
theorem KA {V : List Vr} (hV : PV V) {k : Nat} (h1 : 1 ≤ k) (h9 : k ≤ 9) : RdE (zo V k) (cnR V (k : Int)) (fun y => conR V y.c) := by
  rcases (by omega : k = 1 ∨ k = 2 ∨ k = 3 ∨ k = 4 ∨ k = 5 ∨ k = 6 ∨ k = 7 ∨ k = 8 ∨ k = 9) with rfl | rfl | rfl | rfl | rfl | rfl | rfl | rfl | rfl
  · exact y58 hV
  · exact y59 hV
  · exact y5a hV
  · exact y5b hV
  · exact Kx hV 5 (.inl rfl)
  · exact Kx hV 6 (.inr rfl)
  · exact y5c hV
  · exact y5d hV
  · exact y5e hV
end Go.Proofs.YthohnmplbjhjaaaGreatDoor

namespace Go.Proofs.YthohnmplbjhjaaaGreatDoor
open Md Go.Lib
theorem rd_var {V : List Vr} : RdE (fVar V) (fun y => y.c = zc 10 ∧ nameB y.v.name.data.toList = true ∧ yQ V y.v.name.data.toList < 0 ∧ boundsB y.v.lo y.v.hi = true) (fun y => [y.v.name.data.toList, itoa y.v.lo, itoa y.v.hi]) := by
  refine ⟨fun s h0 => ?_, fun s y h0 hw hy => ?_⟩
  · obtain ⟨h1, h2⟩ := Ku h0
    obtain ⟨h3, h4, h5⟩ := rd_bounds.1 _ h1
    obtain ⟨h6, h7, h8⟩ := (KF V).1 _ h3
    exact ⟨h6, ⟨rfl, h7.1, h7.2, h4⟩, by rw [h8, h5, h2]; rfl⟩
  · obtain ⟨⟨⟨⟨nmd⟩⟩, lo, hi⟩, c⟩ := y
    obtain ⟨h1, h2, h3, h4⟩ := hy
    simp only at h1 h2 h3 h4
    subst h1
    obtain ⟨a1, a2, a3⟩ := (KF V).2 s nmd [itoa lo, itoa hi] h0 hw ⟨h2, h3⟩
    obtain ⟨b1, b2, b3⟩ := rd_bounds.2 _ (lo, hi) [] a2 a3 h4
    unfold fVar
    simp only [a1, b1]
    exact ⟨rfl, by rw [Kv b3]; exact b2⟩
def Xe (t : List (Int × Int)) : Cn := ⟨11, 0, t, 0, 0, 0, 0, [], [], []⟩
def X9 (V : List Vr) (t : List (Int × Int)) : Prop := 1 ≤ t.length ∧ t.length ≤ 64 ∧ ∀ a ∈ t, cfB a.1 = true ∧ inV V a.2
theorem KG {V : List Vr} (hV : PV V) : RdE (Y3 V) (fun y => y.v = zv ∧ y.c = Xe y.c.terms ∧ X9 V y.c.terms) (fun y => sumW V y.c.terms) := by
  refine ⟨fun s h0 => ?_, fun s y h0 hw hy => ?_⟩
  · obtain ⟨h1, h2, h3⟩ := (Yy hV).1 _ h0
    exact ⟨h1, ⟨rfl, rfl, h2⟩, h3⟩
  · obtain ⟨v, c⟩ := y
    obtain ⟨h1, h2, h3⟩ := hy
    simp only at h1 h2 h3 hw
    subst h1
    obtain ⟨c1, c2⟩ := (Yy hV).2 s c.terms h0 hw h3
    unfold Y3
    simp only [c1]
    exact ⟨by rw [h2]; rfl, c2⟩
abbrev wVar : List UInt8 := [118, 97, 114]
abbrev wMin : List UInt8 := [109, 105, 110, 105, 109, 105, 122, 101]
def kW (k : Nat) : List UInt8 := if k = 10 then wVar else if k = 11 then wMin else wordT (k : Int)
theorem y5i {w : List UInt8} (h : zF w ≠ 0) : 1 ≤ zF w ∧ zF w ≤ 11 ∧ w = kW (zF w) := by
  unfold zF at h ⊢
  split
  · rename_i e; subst e; exact ⟨by decide, by decide, rfl⟩
  split
  · rename_i e; subst e; exact ⟨by decide, by decide, rfl⟩
  split
  · rename_i e; subst e; exact ⟨by decide, by decide, rfl⟩
  split
  · rename_i e; subst e; exact ⟨by decide, by decide, rfl⟩
  split
  · rename_i e; subst e; exact ⟨by decide, by decide, rfl⟩
  split
  · rename_i e; subst e; exact ⟨by decide, by decide, rfl⟩
  split
  · rename_i e; subst e; exact ⟨by decide, by decide, rfl⟩
  split
  · rename_i e; subst e; exact ⟨by decide, by decide, rfl⟩
  split
  · rename_i e; subst e; exact ⟨by decide, by decide, rfl⟩
  split
  · rename_i e; subst e; exact ⟨by decide, by decide, rfl⟩
  split
  · rename_i e; subst e; exact ⟨by decide, by decide, rfl⟩
  · rename_i e1 e2 e3 e4 e5 e6 e7 e8 e9 e10 e11
    rw [if_neg e1, if_neg e2, if_neg e3, if_neg e4, if_neg e5, if_neg e6, if_neg e7, if_neg e8, if_neg e9, if_neg e10, if_neg e11] at h
    exact absurd rfl h
theorem y5j {k : Nat} (h1 : 1 ≤ k) (h2 : k ≤ 11) : zF (kW k) = k ∧ (kW k).headD 0 ≠ 35 ∧ kW k ≠ [] := by
  rcases (by omega : k = 1 ∨ k = 2 ∨ k = 3 ∨ k = 4 ∨ k = 5 ∨ k = 6 ∨ k = 7 ∨ k = 8 ∨ k = 9 ∨ k = 10 ∨ k = 11) with rfl | rfl | rfl | rfl | rfl | rfl | rfl | rfl | rfl | rfl | rfl <;> exact ⟨by decide, by decide, by decide⟩
def Adds (m m' : Mo) (ws : List (List UInt8)) : Prop :=
  (∃ v : Vr, ws = [wVar, v.name.data.toList, itoa v.lo, itoa v.hi] ∧ (nameB v.name.data.toList = true ∧ yQ m.vars v.name.data.toList < 0 ∧ boundsB v.lo v.hi = true) ∧ m.vars.length ≠ 32 ∧ m' = { m with vars := m.vars ++ [v] }) ∨
  (∃ c : Cn, ws = wordT c.kind :: conR m.vars c ∧ fault c (m.vars.length : Int) = 0 ∧ m.cons.length ≠ 64 ∧ m' = { m with cons := m.cons ++ [c] }) ∨
  ∃ t, ws = wMin :: sumW m.vars t ∧ X9 m.vars t ∧ m.has = false ∧ m' = { m with has := true, goal := t }
theorem Xf {e : Int} {s : St} (h : (yh e s).2 = 0) : e = 0 ∧ s.2 = 0 := by
  unfold yh at h
  split at h
  · rename_i h1; exact ⟨h, h1⟩
  · rename_i h1; exact absurd h h1
theorem Yw {c : Cn} {n : Int} (h : fault c n = 0) : 1 ≤ c.kind ∧ c.kind ≤ 9 := (by
  obtain ⟨h1, _⟩ := fault_iff.1 h
  simp only [kindBad, Bool.or_eq_false_iff, decide_eq_false_iff_not] at h1
  have := h1.1
  omega)
theorem KH {k : Nat} {m : Mo} (h9 : k ≤ 9) : yU k m = 0 ↔ m.cons.length ≠ 64 := by
  unfold yU
  rw [if_neg (by omega), if_neg (by omega)]
  constructor
  · intro h e
    rw [if_pos ⟨h9, e⟩] at h
    cases h
  · intro h
    rw [if_neg (fun e => h e.2)]
theorem more_var {m : Mo} : yU 10 m = 0 ↔ m.vars.length ≠ 32 := by
  unfold yU
  constructor
  · intro h e
    rw [if_pos ⟨rfl, e⟩] at h
    cases h
  · intro h
    rw [if_neg (fun e => h e.2), if_neg (by omega), if_neg (by omega)]
theorem more_goal {m : Mo} : yU 11 m = 0 ↔ m.has = false := by
  unfold yU
  rw [if_neg (by omega)]
  constructor
  · intro h
    by_cases e : m.has = true
    · rw [if_pos ⟨rfl, e⟩] at h
      cases h
    · simpa using e
  · intro h
    rw [if_neg (by simp [h]), if_neg (by omega)]
theorem y5k {m : Mo} (hV : PV m.vars) {l w : List UInt8} {ws : List (List UInt8)} (hw : words l = w :: ws) (hh : w.headD 0 ≠ 35) (h0 : (yO m l).2 = 0) : Adds m (yO m l).1 (w :: ws) := by
  obtain ⟨p, h1, h2, h3⟩ := Y8 (s := (l, 0)) rfl hw
  unfold yO at h0 ⊢
  rw [h1] at h0 ⊢
  simp only [if_neg hh] at h0 ⊢
  by_cases hs : (sayT m w p).2.2 = 0
  · rw [if_pos hs]
    unfold sayT at hs ⊢
    by_cases hk : zF w = 0
    · rw [if_pos hk] at hs
      exact absurd hs (zB (by decide) _)
    rw [if_neg hk] at hs ⊢
    obtain ⟨k1, k2, k3⟩ := y5i hk
    obtain ⟨k, hkk⟩ : ∃ k, zF w = k := ⟨_, rfl⟩
    rw [hkk] at hs k1 k2 k3 ⊢
    by_cases h9 : k ≤ 9
    · obtain ⟨a1, a2, a3⟩ := (KA hV k1 h9).1 _ hs
      obtain ⟨b1, b2⟩ := Xf a1
      rw [yR] at a3
      refine .inr (.inl ⟨(zo m.vars k (yh (yU k m) p)).1.c, ?_, a2.2.2, (KH h9).1 b1, ?_⟩)
      · rw [a2.2.1, k3, ← h3, a3]
        unfold kW
        rw [if_neg (by omega), if_neg (by omega)]
      · unfold layT
        rw [a2.2.1, if_neg (by omega), if_neg (by omega)]
    · rcases (by omega : k = 10 ∨ k = 11) with rfl | rfl
      · obtain ⟨a1, a2, a3⟩ := rd_var.1 _ hs
        obtain ⟨b1, b2⟩ := Xf a1
        rw [yR] at a3
        refine .inl ⟨(zo m.vars 10 (yh (yU 10 m) p)).1.v, ?_, a2.2, more_var.1 b1, ?_⟩
        · rw [k3, ← h3, a3]
          rfl
        · unfold layT
          have : (zo m.vars 10 (yh (yU 10 m) p)).1.c.kind = 10 := congrArg Cn.kind a2.1
          rw [this]
          rfl
      · obtain ⟨a1, a2, a3⟩ := (KG hV).1 _ hs
        obtain ⟨b1, b2⟩ := Xf a1
        rw [yR] at a3
        refine .inr (.inr ⟨(zo m.vars 11 (yh (yU 11 m) p)).1.c.terms, ?_, a2.2.2, more_goal.1 b1, ?_⟩)
        · rw [k3, ← h3, a3]
          rfl
        · unfold layT
          have : (zo m.vars 11 (yh (yU 11 m) p)).1.c.kind = 11 := congrArg Cn.kind a2.2.1
          rw [this]
          rfl
  · rw [if_neg hs] at h0
    exact absurd h0 hs
theorem y5l {m m' : Mo} (hV : PV m.vars) {l w : List UInt8} {ws : List (List UInt8)} (hw : words l = w :: ws) (ha : Adds m m' (w :: ws)) : yO m l = (m', 0) ∧ w.headD 0 ≠ 35 := by
  obtain ⟨p, h1, h2, h3⟩ := Y8 (s := (l, 0)) rfl hw
  have key : ∀ (k : Nat) (y : Sy), 1 ≤ k → k ≤ 11 → w = kW k → yU k m = 0 → (zo m.vars k p).1 = y → (zo m.vars k p).2.2 = 0 → layT m y = m' → yO m l = (m', 0) ∧ w.headD 0 ≠ 35 := by
    intro k y k1 k2 kw ho hf hz hl
    obtain ⟨e1, e2, _⟩ := y5j k1 k2
    rw [← kw] at e1 e2
    refine ⟨?_, e2⟩
    unfold yO
    rw [h1]
    simp only [if_neg e2]
    have hsay : sayT m w p = zo m.vars k p := by
      unfold sayT
      rw [e1, if_neg (by omega), ho, y3U]
    rw [hsay, if_pos hz, hf, hl]
  rcases ha with ⟨v, e, hv, hn, rfl⟩ | ⟨c, e, hc, hn, rfl⟩ | ⟨t, e, ht, hn, rfl⟩
  · injection e with e1 e2
    obtain ⟨a1, a2⟩ := (rd_var (V := m.vars)).2 p ⟨v, zc 10⟩ h2 (h3.trans e2) ⟨rfl, hv⟩
    exact key 10 ⟨v, zc 10⟩ (by decide) (by decide) e1 (more_var.2 hn) a1 a2 rfl
  · injection e with e1 e2
    obtain ⟨k1, k2⟩ := Yw hc
    obtain ⟨k, hk⟩ : ∃ k : Nat, c.kind = (k : Int) := ⟨c.kind.toNat, by omega⟩
    obtain ⟨a1, a2⟩ := (KA hV (k := k) (by omega) (by omega)).2 p ⟨zv, c⟩ h2 (h3.trans e2) ⟨rfl, hk, hc⟩
    refine key k ⟨zv, c⟩ (by omega) (by omega) ?_ ((KH (by omega)).2 hn) a1 a2 ?_
    · rw [e1, hk]
      unfold kW
      rw [if_neg (by omega), if_neg (by omega)]
    · unfold layT
      simp only
      rw [if_neg (by omega), if_neg (by omega)]
  · injection e with e1 e2
    obtain ⟨a1, a2⟩ := (KG hV).2 p ⟨zv, Xe t⟩ h2 (h3.trans e2) ⟨rfl, rfl, ht⟩
    exact key 11 ⟨zv, Xe t⟩ (by decide) (by decide) e1 (more_goal.2 hn) a1 a2 rfl
def mute (ws : List (List UInt8)) : Bool := match ws with
  | [] => true
  | w :: _ => w.headD 0 == 35
theorem y5m (m : Mo) {l : List UInt8} (h : mute (words l) = true) : yO m l = (m, 0) := by
  unfold yO
  cases ht : yl (l, 0) with
  | none => rfl
  | some p =>
    obtain ⟨_, _, h3⟩ := xU ht
    have h3' : words l = p.1 :: words p.2.1 := h3
    rw [h3'] at h
    have : p.1.headD 0 = 35 := by simpa [mute] using h
    simp only [if_pos this]
def zy (L : List (List UInt8)) : List (List (List UInt8)) := (L.map words).filter fun ws => !mute ws
def Ders : Mo → List (List (List UInt8)) → Mo → Prop
  | m, [], m' => m = m'
  | m, ws :: t, m' => ∃ m1, Adds m m1 ws ∧ Ders m1 t m'
theorem Xa {m m' : Mo} {ws : List (List UInt8)} (h : Adds m m' ws) (hV : PV m.vars) : PV m'.vars := by
  rcases h with ⟨v, _, hv, _, rfl⟩ | ⟨c, _, _, _, rfl⟩ | ⟨t, _, _, _, rfl⟩
  · refine ⟨fun x hx => ?_, fun i j hi hj e => ?_⟩
    · rcases List.mem_append.1 hx with h | h
      · exact hV.ok x h
      · rw [List.mem_singleton.1 h]; exact hv.1
    · have hnew := place_new.1 hv.2.1
      simp only [List.length_append, List.length_singleton] at hi hj
      by_cases h1 : i < m.vars.length
      · by_cases h2 : j < m.vars.length
        · rw [List.getElem_append_left h1, List.getElem_append_left h2] at e
          exact hV.one i j h1 h2 e
        · rw [List.getElem_append_left h1, List.getElem_append_right (by omega)] at e
          simp at e
          exact absurd (by simpa using congrArg Array.toList e) (hnew _ (List.getElem_mem h1))
      · by_cases h2 : j < m.vars.length
        · rw [List.getElem_append_right (by omega), List.getElem_append_left h2] at e
          simp at e
          exact absurd (by simpa using (congrArg Array.toList e).symm) (hnew _ (List.getElem_mem h2))
        · omega
  · exact hV
  · exact hV
theorem Zp : ∀ (L : List (List UInt8)) (i : Nat) (m m' : Mo), PV m.vars → (goT L i m = (m', none) ↔ Ders m (zy L) m')
  | [], i, m, m', _ => by simp [goT, zy, Ders]
  | l :: L, i, m, m', hV => by
    by_cases hm : mute (words l) = true
    · have : zy (l :: L) = zy L := by simp [zy, hm]
      rw [this]
      show (if (yO m l).2 = 0 then goT L (i + 1) (yO m l).1 else _) = _ ↔ _
      rw [y5m m hm]
      exact Zp L (i + 1) m m' hV
    · have hm' : mute (words l) = false := by simpa using hm
      have : zy (l :: L) = words l :: zy L := by simp [zy, hm']
      rw [this]
      show (if (yO m l).2 = 0 then goT L (i + 1) (yO m l).1 else _) = _ ↔ ∃ m1, Adds m m1 (words l) ∧ Ders m1 (zy L) m'
      obtain ⟨r, hr⟩ : ∃ r, words l = r := ⟨_, rfl⟩
      cases r with
      | nil => rw [hr] at hm'; cases hm'
      | cons w ws =>
        have hh : w.headD 0 ≠ 35 := by rw [hr] at hm'; simpa [mute] using hm'
        rw [hr]
        constructor
        · intro h
          by_cases h0 : (yO m l).2 = 0
          · rw [if_pos h0] at h
            have ha := y5k hV hr hh h0
            exact ⟨_, ha, (Zp L (i + 1) _ m' (Xa ha hV)).1 h⟩
          · rw [if_neg h0] at h
            cases h
        · rintro ⟨m1, ha, hd⟩
          obtain ⟨e, _⟩ := y5l hV hr ha
          rw [e]
          exact (Zp L (i + 1) m1 m' (Xa ha hV)).2 hd
theorem KI : ∀ (L : List (List UInt8)) (i : Nat) (m m' : Mo) (j : Nat) (e : Int), goT L i m = (m', some (j, e)) → e ≠ 0
  | [], i, m, m', j, e, h => by simp [goT] at h
  | l :: L, i, m, m', j, e, h => by
    unfold goT at h
    split at h
    · exact KI L _ _ m' j e h
    · rename_i h0
      simp only [Prod.mk.injEq, Option.some.injEq] at h
      obtain ⟨_, _, rfl⟩ := h
      exact h0
theorem Ks : PV ([] : List Vr) := ⟨fun v h => (by cases h), fun i j hi => absurd hi (by simp)⟩
theorem y5g {s : List UInt8} {m : Mo} : yD s = (m, (0, 0)) ↔ s.length ≤ 65536 ∧ Ders zm (zy (yv s [])) m ∧ m.vars ≠ [] := by
  rw [← Zp (yv s []) 1 zm m Ks]
  unfold yD
  by_cases hl : 65536 < s.length
  · rw [if_pos hl]
    constructor
    · intro h
      cases h
    · intro h
      exact absurd h.1 (by omega)
  · rw [if_neg hl]
    obtain ⟨g, hg⟩ : ∃ g, goT (yv s []) 1 zm = g := ⟨_, rfl⟩
    rw [hg]
    obtain ⟨mm, o⟩ := g
    cases o with
    | some p =>
      obtain ⟨i, e⟩ := p
      have he := KI _ 1 zm mm i e hg
      constructor
      · intro h
        have h2 : e = 0 := congrArg (fun z => z.2.2) h
        exact absurd h2 he
      · intro h
        cases h.2.1
    | none =>
      simp only
      by_cases hv : mm.vars = []
      · rw [if_pos hv]
        constructor
        · intro h
          have h2 : (59 : Int) = 0 := congrArg (fun z => z.2.2) h
          exact absurd h2 (by decide)
        · intro h
          have h2 : mm = m := congrArg Prod.fst h.2.1
          exact absurd (by rw [← h2]; exact hv) h.2.2
      · rw [if_neg hv]
        constructor
        · intro h
          have h2 : mm = m := congrArg (fun z => z.1) h
          subst h2
          exact ⟨by omega, rfl, hv⟩
        · intro h
          have h2 : mm = m := congrArg Prod.fst h.2.1
          rw [h2]
end Go.Proofs.YthohnmplbjhjaaaGreatDoor

namespace Go.Proofs.YthohnmplbjhjaaaGreatDoor
open Md Go.Lib
def ze (c : Cn) : List Int := (if fX c.kind = true then [c.x] else []) ++ ((if fY c.kind = true then [c.y] else []) ++ (c.terms.map (·.2) ++ c.xs))
def xW (l : List Int) : Int := l.foldl max (-1)
theorem Km : ∀ (l : List Int) (a v : Int), l.foldl max a < v ↔ a < v ∧ ∀ x ∈ l, x < v
  | [], a, v => by simp
  | x :: l, a, v => by
    rw [List.foldl_cons, Km l (max a x) v]
    constructor
    · rintro ⟨h1, h2⟩
      refine ⟨by omega, fun y hy => ?_⟩
      rcases List.mem_cons.1 hy with e | e
      · omega
      · exact h2 y e
    · rintro ⟨h1, h2⟩
      have := h2 x (by simp)
      exact ⟨by omega, fun y hy => h2 y (by simp [hy])⟩
theorem far_lt {l : List Int} {v : Nat} : xW l < (v : Int) ↔ ∀ x ∈ l, x < (v : Int) := by
  unfold xW
  rw [Km]
  exact ⟨fun h => h.2, fun h => ⟨by omega, h⟩⟩
theorem Yv {c : Cn} {V : List Vr} (h : fault c (V.length : Int) = 0) : (∀ x ∈ ze c, inV V x) ∧ ze c ≠ [] := by
  obtain ⟨h1, _, _, h4, h5, _, _⟩ := fault_iff.1 h
  obtain ⟨k1, k2⟩ := Yw h
  simp only [placesB, Bool.and_eq_true] at h5
  obtain ⟨⟨⟨a1, a2⟩, a3⟩, a4⟩ := h5
  constructor
  · intro x hx
    unfold ze at hx
    rcases List.mem_append.1 hx with hx | hx
    · split at hx
      · rw [List.mem_singleton.1 hx]; exact pl_in.1 a1
      · cases hx
    rcases List.mem_append.1 hx with hx | hx
    · split at hx
      · rw [List.mem_singleton.1 hx]; exact pl_in.1 a2
      · cases hx
    rcases List.mem_append.1 hx with hx | hx
    · obtain ⟨t, ht, rfl⟩ := List.mem_map.1 hx
      exact pl_in.1 (List.all_eq_true.1 a3 t ht)
    · exact all_in.1 a4 x hx
  · intro e
    unfold ze at e
    obtain ⟨e1, e⟩ := List.append_eq_nil_iff.1 e
    obtain ⟨e2, e⟩ := List.append_eq_nil_iff.1 e
    obtain ⟨e3, e4⟩ := List.append_eq_nil_iff.1 e
    have e3' : c.terms = [] := List.map_eq_nil_iff.1 e3
    simp only [manyBad, Bool.or_eq_false_iff, Bool.and_eq_false_iff] at h4
    rw [e3', e4] at h4
    have q1 := h4.1.1.1.1
    have q2 := h4.1.1.1.2
    rcases (by omega : c.kind = 1 ∨ c.kind = 2 ∨ c.kind = 3 ∨ c.kind = 4 ∨ c.kind = 5 ∨ c.kind = 6 ∨ c.kind = 7 ∨ c.kind = 8 ∨ c.kind = 9) with k | k | k | k | k | k | k | k | k <;> rw [k] at e1 e2 q1 q2
    · exact absurd (zV (q1.resolve_left (by decide))).1 (by decide)
    · exact absurd e1 (by simp [fX])
    · exact absurd (zV (q2.resolve_left (by decide))).1 (by decide)
    · exact absurd e1 (by simp [fX])
    · exact absurd e2 (by simp [fY])
    · exact absurd e2 (by simp [fY])
    · exact absurd e1 (by simp [fX])
    · exact absurd (zV (q2.resolve_left (by decide))).1 (by decide)
    · exact absurd (zV (q2.resolve_left (by decide))).1 (by decide)
theorem Kn {c : Cn} {V V' : List Vr} (h : fault c (V.length : Int) = 0) (hn : ∀ x ∈ ze c, inV V' x) : fault c (V'.length : Int) = 0 := by
  obtain ⟨h1, h2, h3, h4, h5, h6, h7⟩ := fault_iff.1 h
  obtain ⟨p1, p2, p3, p4, p5, p6, p7, p8, p9⟩ := xE h
  obtain ⟨_, hne⟩ := Yv h
  have h0 : inV V' 0 := by
    cases hl : ze c with
    | nil => exact absurd hl hne
    | cons a l => exact X6 (hn a (by rw [hl]; simp))
  refine fault_iff.2 ⟨h1, h2, h3, h4, ?_, h6, h7⟩
  unfold placesB
  simp only [Bool.and_eq_true]
  refine ⟨⟨⟨pl_in.2 ?_, pl_in.2 ?_⟩, ?_⟩, ?_⟩
  · cases hf : fX c.kind
    · rw [p4 hf]; exact h0
    · exact hn _ (by unfold ze; rw [if_pos hf]; simp)
  · cases hf : fY c.kind
    · rw [p5 hf]; exact h0
    · exact hn _ (by unfold ze; rw [if_pos hf]; simp)
  · rw [List.all_eq_true]
    intro t ht
    exact pl_in.2 (hn _ (by unfold ze; simp only [List.mem_append, List.mem_map]; exact .inr (.inr (.inl ⟨t, ht, rfl⟩))))
  · exact all_in.2 fun x hx => hn _ (by unfold ze; simp only [List.mem_append]; exact .inr (.inr (.inr hx)))
theorem X7 {α β : Type} {f g : α → List β} : ∀ {l : List α}, (∀ x ∈ l, f x = g x) → l.flatMap f = l.flatMap g
  | [], _ => rfl
  | x :: l, h => by rw [List.flatMap_cons, List.flatMap_cons, h x (by simp), X7 fun y hy => h y (by simp [hy])]
theorem y52 {V V' : List Vr} {l : List Int} (h : ∀ x ∈ l, nm V x = nm V' x) : nmsW V l = nmsW V' l := X7 fun x hx => by rw [h x hx]
theorem X8 {V V' : List Vr} {t : List (Int × Int)} (h : ∀ a ∈ t, nm V a.2 = nm V' a.2) : sumW V t = sumW V' t := X7 fun x hx => by rw [h x hx]
theorem Ko {V V' : List Vr} {c : Cn} (h : ∀ x ∈ ze c, nm V x = nm V' x) : conR V c = conR V' c := by
  have ht : sumW V c.terms = sumW V' c.terms := X8 fun a ha => h _ (by unfold ze; simp only [List.mem_append, List.mem_map]; exact .inr (.inr (.inl ⟨a, ha, rfl⟩)))
  have hx : nmsW V c.xs = nmsW V' c.xs := y52 fun x hx => h _ (by unfold ze; simp only [List.mem_append]; exact .inr (.inr (.inr hx)))
  have hm : c.xs.map (nm V) = c.xs.map (nm V') := List.map_congr_left fun x hx => h _ (by unfold ze; simp only [List.mem_append]; exact .inr (.inr (.inr hx)))
  have h1 : fX c.kind = true → nm V c.x = nm V' c.x := fun e => h _ (by unfold ze; rw [if_pos e]; simp)
  have h2 : fY c.kind = true → nm V c.y = nm V' c.y := fun e => h _ (by unfold ze; rw [if_pos e]; simp)
  unfold conR
  split
  · rw [ht]
  split
  · rename_i k; rw [h1 (by rw [k]; rfl), h2 (by rw [k]; rfl)]
  split
  · rw [hx]
  split
  · rename_i k; rw [h1 (by rw [k]; rfl), h2 (by rw [k]; rfl)]
  split
  · rename_i k; rw [h2 (by rcases k with k | k <;> (rw [k]; rfl)), hx]
  split
  · rename_i k; rw [h1 (by rw [k]; rfl), ht]
  split
  · rw [hm]
  · rw [hx]
def varW (v : Vr) : List (List UInt8) := [wVar, v.name.data.toList, itoa v.lo, itoa v.hi]
def conW (V : List Vr) (c : Cn) : List (List UInt8) := wordT c.kind :: conR V c
def xV (m : Mo) : List (List UInt8) := wMin :: sumW m.vars m.goal
def zz (m : Mo) : List (List (List UInt8)) → Nat → Nat → Bool → Bool
  | [], v, c, g => decide (v = m.vars.length) && decide (c = m.cons.length) && (g == m.has)
  | ws :: t, v, c, g =>
    if ws.headD [] = wVar then (if h : v < m.vars.length then decide (ws = varW m.vars[v]) && zz m t (v + 1) c g else false)
    else if ws.headD [] = wMin then !g && (m.has && (decide (ws = xV m ∧ xW (m.goal.map (·.2)) < (v : Int)) && zz m t v c true))
    else (if h : c < m.cons.length then decide (ws = conW m.vars m.cons[c] ∧ xW (ze m.cons[c]) < (v : Int)) && zz m t v (c + 1) g else false)
def derT (s : List UInt8) (m : Mo) : Bool := decide ((check m).2 = 0) && (decide (s.length ≤ 65536) && zz m (zy (yv s [])) 0 0 false)
theorem y53 {m : Mo} (h : (check m).2 = 0) : PV m.vars := by
  have hr := right_of h
  have hz : ∀ j, j < m.vars.length → vFault m.vars j = 0 := by
    unfold check at h
    split at h
    · cases h
    split at h
    · rename_i i hi
      unfold xb at hi
      have := List.find?_some hi
      simp at this
      exact absurd h this
    · rename_i h2
      exact ZA h2
  refine ⟨fun v hv => (hr.var v hv).1, ?_⟩
  have key : ∀ (i j : Nat) (hi : i < m.vars.length) (hj : j < m.vars.length), i < j → m.vars[i].name.data.toList ≠ m.vars[j].name.data.toList := by
    intro i j hi hj hij e
    have h1 := hz j hj
    rw [vFault_get hj] at h1
    unfold varFault at h1
    split at h1
    · cases h1
    · rename_i h2
      have h3 : seenB (m.vars.take j) m.vars[j].name = true := by
        unfold seenB
        rw [List.any_eq_true]
        refine ⟨m.vars[i], List.mem_take_iff_getElem.2 ⟨i, by omega, rfl⟩, ?_⟩
        rw [beq_iff_eq, ByteArray.toList_eq, ByteArray.toList_eq, e]
      rw [h3] at h2
      simp at h2
  intro i j hi hj e
  rcases Nat.lt_trichotomy i j with h1 | h1 | h1
  · exact absurd e (key i j hi hj h1)
  · exact h1
  · exact absurd e.symm (key j i hj hi h1)
structure OkM (m : Mo) : Prop where
  pv : PV m.vars
  bd : ∀ v ∈ m.vars, boundsB v.lo v.hi = true
  nv : m.vars.length ≤ 32
  nc : m.cons.length ≤ 64
  con : ∀ c ∈ m.cons, fault c (m.vars.length : Int) = 0
  goal : m.has = true → X9 m.vars m.goal
  no : m.has = false → m.goal = []
theorem Kp {V : List Vr} {x : Int} (h : inV V x) (v : Vr) : inV (V ++ [v]) x := ⟨h.1, by have := h.2; simp; omega⟩
theorem y54 {m m' : Mo} {ws : List (List UInt8)} (h : Adds m m' ws) (ho : OkM m) : OkM m' := by
  have hpv := Xa h ho.pv
  rcases h with ⟨v, _, hv, hn, rfl⟩ | ⟨c, _, hc, hn, rfl⟩ | ⟨t, _, ht, _, rfl⟩
  · refine ⟨hpv, fun x hx => ?_, by have := ho.nv; simp; omega, ho.nc, fun c hc => ?_, fun hg => ?_, ho.no⟩
    · rcases List.mem_append.1 hx with h | h
      · exact ho.bd x h
      · rw [List.mem_singleton.1 h]; exact hv.2.2
    · exact Kn (ho.con c hc) fun x hx => Kp ((Yv (ho.con c hc)).1 x hx) v
    · obtain ⟨g1, g2, g3⟩ := ho.goal hg
      exact ⟨g1, g2, fun a ha => ⟨(g3 a ha).1, Kp (g3 a ha).2 v⟩⟩
  · refine ⟨hpv, ho.bd, ho.nv, by have := ho.nc; simp; omega, fun x hx => ?_, ho.goal, ho.no⟩
    rcases List.mem_append.1 hx with h | h
    · exact ho.con x h
    · rw [List.mem_singleton.1 h]; exact hc
  · exact ⟨hpv, ho.bd, ho.nv, ho.nc, ho.con, fun _ => ht, fun h => by cases h⟩
theorem Kr : ∀ (L : List (List (List UInt8))) (m m' : Mo), Ders m L m' → OkM m → OkM m'
  | [], m, m', h, ho => by cases h; exact ho
  | ws :: L, m, m', ⟨m1, ha, hd⟩, ho => Kr L m1 m' hd (y54 ha ho)
theorem y55 : OkM zm := ⟨Ks, fun v h => (by cases h), by decide, by decide, fun v h => (by cases h), fun h => (by cases h), fun _ => rfl⟩
theorem y56 {m : Mo} (h : OkM m) (h1 : m.vars ≠ []) : (check m).2 = 0 := by
  have hv : ∀ j, j < m.vars.length → vFault m.vars j = 0 := by
    intro j hj
    rw [vFault_get hj]
    unfold varFault
    have a1 := h.pv.ok _ (List.getElem_mem hj)
    have a2 := h.bd _ (List.getElem_mem hj)
    have a3 : seenB (m.vars.take j) m.vars[j].name = false := by
      unfold seenB
      rw [List.any_eq_false]
      intro v hv e
      obtain ⟨i, hi, rfl⟩ := List.mem_take_iff_getElem.1 hv
      rw [beq_iff_eq, ByteArray.toList_eq, ByteArray.toList_eq] at e
      have := h.pv.one i j (by omega) hj e
      omega
    rw [a1, a2, a3]
    rfl
  have hc : ∀ j, j < m.cons.length → cFault m.cons (m.vars.length : Int) j = 0 := fun j hj => by
    rw [cFault_get hj]
    exact h.con _ (List.getElem_mem hj)
  have hg : goalFault m = 0 := by
    unfold goalFault
    cases hh : m.has
    · rw [h.no hh]
      rfl
    · obtain ⟨g1, g2, g3⟩ := h.goal hh
      obtain ⟨g4, g5⟩ := all_in2.2 g3
      rw [if_neg (by decide), xi ⟨g1, g2⟩, if_neg (by decide), g4, g5]
      rfl
  have h0 : 1 ≤ m.vars.length := by
    cases hl : m.vars with
    | nil => exact absurd hl h1
    | cons a b => simp
  unfold check
  rw [xi ⟨h0, h.nv⟩, firstBad_none hv, firstBad_none hc, hg]
  simp only [if_neg (by have := h.nc; omega : ¬ 64 < m.cons.length), if_true]
  rfl
theorem Kb {m : Mo} (h : (check m).2 = 0) : OkM m ∧ m.vars ≠ [] := by
  have hr := right_of h
  refine ⟨⟨y53 h, fun v hv => (hr.var v hv).2, hr.nv.2, hr.nc, hr.con, fun hg => ?_, fun hg => (goal_of hr.goal).1 hg⟩, fun e => by have := hr.nv.1; rw [e] at this; simp at this⟩
  have hgf := hr.goal
  unfold goalFault at hgf
  rw [if_neg (by simp [hg])] at hgf
  split at hgf
  · cases hgf
  rename_i a1
  split at hgf
  · cases hgf
  rename_i a2
  split at hgf
  · cases hgf
  rename_i a3
  have b1 := zV (by simpa using a1)
  exact ⟨b1.1, b1.2, all_in2.1 ⟨by simpa using a2, by simpa using a3⟩⟩
end Go.Proofs.YthohnmplbjhjaaaGreatDoor
