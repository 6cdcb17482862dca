/-
  Put together: PfOp, PfTurn, PfOps.
-/
import Derived.Test.YtibbnijicdijnaaGreatDoorPfList
import Derived.Laws.OwnMore
namespace Go.Proofs.YtibbnijicdijnaaGreatDoor
open Go.RowKit

theorem next_le (s : Ls) : (nextP s).1.length ≤ s.1.length := by
  unfold nextP
  split
  · rename_i h; exact (take_less h).2
  · simp
theorem txt_eq (x l : List UInt8) : ((txtOf x).toList == l) = decide (x = l) := by
  have := txt_beq x l
  rwa [show (txtOf l).toList = l by rw [Lib.toList_data, txt_list]] at this
def leanS (x : List UInt8) (s : Ls) : Ls := if x = [58] then s else failP 80 s
theorem lean_rest (x : List UInt8) (s : Ls) : (leanS x s).1 = s.1 := by unfold leanS; split <;> first | rfl | exact fail_rest _ _
def leanP (x : List UInt8) (s : Ls) : List UInt8 × Ls := ((nextP (leanS x s)).1, wholeP (nextP (leanS x s)).1 1 (nextP (leanS x s)).2)

set_option maxRecDepth 10000 in
set_option maxHeartbeats 2000000 in
theorem lean_any {B b : Nat} {s : Ls} (x : List UInt8) (w : World) (h : LnAt w b s) (hB : B ≤ b) : Calls Tryz.prog 175 #[.pointer (some ⟨b, 0, none⟩), .string (txtOf x)] w (LOr B b 9 [.string (txtOf (leanP x s).1)] (leanP x s).2 w) := by
  have hBw : B ≤ w.heap.size := Nat.le_of_lt (Nat.lt_of_le_of_lt hB h.lt)
  have hn := h.n
  have HF : Hid (Calls Tryz.prog 112 #[.pointer (some ⟨b, 0, none⟩), .int .i64 80] w (LO B b (.tuple #[]) (failP 80 s) w)) := fail_any 80 w h hB
  have HL : Hid (LnAt w b s) := h
  unfold leanP
  obtain ⟨s1, hs1⟩ : ∃ s1, leanS x s = s1 := ⟨_, rfl⟩
  rw [hs1]
  obtain ⟨y, hy⟩ : ∃ y, (nextP s1).1 = y := ⟨_, rfl⟩
  have hyl : y.length ≤ 9000000 := by rw [← hy]; refine Nat.le_trans (next_le s1) ?_; rw [← hs1, lean_rest]; exact hn
  rw [hy]
  have HN : Hid (∀ w', LnAt w' b s1 → Calls Tryz.prog 108 #[.pointer (some ⟨b, 0, none⟩)] w' (LO B b (.string (txtOf y)) (nextP s1).2 w')) := fun w' h' => by rw [← hy]; exact next_any w' h' hB
  have HI : Hid (∀ w' s', LnAt w' b s' → Calls Tryz.prog 124 #[.pointer (some ⟨b, 0, none⟩), .string (txtOf y)] w' (LO B b (.string (txtOf y)) (wholeP y 1 s') w')) := fun w' s' h' => id_any y w' h' hB hyl
  have HE : Hid (∀ w3 s3, LnAt w3 b s3 → SStp B (fun k => k = b) w w3 → LnAt (w3.alloc (.cells #[.string (txtOf y)] 9)) b s3 ∧ SStp B (fun k => k = b) w (w3.alloc (.cells #[.string (txtOf y)] 9)) ∧ (w3.alloc (.cells #[.string (txtOf y)] 9)).ownsRow w.heap.size 9 1 (.slice (some ⟨w3.heap.size, 0, none⟩) 1 1) 1 [.string (txtOf y)]) := fun w3 s3 a1 a2 => by
    have hb : Below w3.heap.size w3 (w3.alloc (.cells #[.string (txtOf y)] 9)) := (Below.refl _ _).alloc (Nat.le_refl _) _
    refine ⟨a1.below hb, a2.next hb (Nat.le_trans hBw a2.off.size), ⟨rfl, .inr ⟨w3.heap.size, 1, _, rfl, a2.off.size, heap_alloc_new w3 _, by omega, by decide, rfl, rfl⟩⟩⟩
  have hq := txt_eq x [58]
  clear hy h
  by_cases hx : x = [58]
  · have HS1 : Hid (LnAt w b s1) := by show LnAt w b s1; rw [← hs1]; unfold leanS; rw [if_pos hx]; exact HL.out
    rw [decide_eq_true hx] at hq
    clear hx hs1 HL
    go_enter Tryz.func175, Tryz.ntmps175
    go_wp2_with fail
    refine calls_at (HN.out w HS1.out) (by with_reducible rfl) (by with_reducible rfl) ?_
    rintro e w2 ⟨rfl, h3, h4⟩
    have H2 : Hid (LnAt w2 b (nextP s1).2 ∧ SStp B (fun k => k = b) w w2) := ⟨h3, h4⟩
    clear h3 h4
    go_wp2_with fail
    refine calls_at (HI.out w2 _ H2.out.1) (by with_reducible rfl) (by with_reducible rfl) ?_
    rintro e w3 ⟨rfl, h5, h6⟩
    have H3 : Hid (LnAt w3 b (wholeP y 1 (nextP s1).2) ∧ SStp B (fun k => k = b) w w3) := ⟨h5, H2.out.2.trans h6⟩
    clear h5 h6
    go_wp2_with fail
    go_ret
    obtain ⟨q1, q2, q3⟩ := HE.out w3 _ H3.out.1 H3.out.2
    exact ⟨_, rfl, q3, q1, q2⟩
  · have HS1 : Hid (failP 80 s = s1) := by show failP 80 s = s1; rw [← hs1]; unfold leanS; rw [if_neg hx]
    rw [decide_eq_false hx] at hq
    clear hx hs1
    go_enter Tryz.func175, Tryz.ntmps175
    go_wp2_with fail
    refine calls_at HF.out (by with_reducible rfl) (by with_reducible rfl) ?_
    rintro e w1 ⟨rfl, h1, h2⟩
    have H1 : Hid (LnAt w1 b s1 ∧ SStp B (fun k => k = b) w w1) := ⟨HS1.out ▸ h1, h2⟩
    clear h1 h2
    go_wp2_with fail
    refine calls_at (HN.out w1 H1.out.1) (by with_reducible rfl) (by with_reducible rfl) ?_
    rintro e w2 ⟨rfl, h3, h4⟩
    have H2 : Hid (LnAt w2 b (nextP s1).2 ∧ SStp B (fun k => k = b) w w2) := ⟨h3, H1.out.2.trans h4⟩
    clear h3 h4
    go_wp2_with fail
    refine calls_at (HI.out w2 _ H2.out.1) (by with_reducible rfl) (by with_reducible rfl) ?_
    rintro e w3 ⟨rfl, h5, h6⟩
    have H3 : Hid (LnAt w3 b (wholeP y 1 (nextP s1).2) ∧ SStp B (fun k => k = b) w w3) := ⟨h5, H2.out.2.trans h6⟩
    clear h5 h6
    go_wp2_with fail
    go_ret
    obtain ⟨q1, q2, q3⟩ := HE.out w3 _ H3.out.1 H3.out.2
    exact ⟨_, rfl, q3, q1, q2⟩

/-- An operation of a pol: its kind, its number, its literal. -/
abbrev OpL := Int × List UInt8 × Int
def opC (o : OpL) : List Value := [.int .i64 o.1, .string (txtOf o.2.1), .int .i64 o.2.2]
def opsC (L : List OpL) : List Value := L.flatMap opC
def operS (x : List UInt8) (s : Ls) : Ls := if (parseZ x).isNone = true then failP 80 s else s
def operP (x : List UInt8) (s : Ls) : OpL × Ls := if (litP x).2 = true then ((2, [], (litP x).1), s) else ((1, x, 0), wholeP x 1 (operS x s))

theorem put3 {w : World} {g : Nat} {a b c x y z : Value} {t : TypeId} (h : w.heap[g]? = some (.cells #[a, b, c] t (0, 0))) : (((w.setCell ⟨g, 0, none⟩ x).setCell ⟨g, 1, none⟩ y).setCell ⟨g, 2, none⟩ z).heap[g]? = some (.cells #[x, y, z] t (0, 0)) := by
  have h1 := set_of h 0 x
  have h2 := set_of h1 1 y
  have h3 := set_of h2 2 z
  exact h3

set_option maxRecDepth 10000 in
set_option maxHeartbeats 2000000 in
theorem oper_any {B b : Nat} {s : Ls} (x : List UInt8) (w : World) (h : LnAt w b s) (hB : B ≤ b) (hx : x.length ≤ 9000000) : Calls Tryz.prog 148 #[.pointer (some ⟨b, 0, none⟩), .string (txtOf x)] w (LO B b (.agg (opC (operP x s).1).toArray) (operP x s).2 w) := by
  have hBw : B ≤ w.heap.size := Nat.le_of_lt (Nat.lt_of_le_of_lt hB h.lt)
  have hbl := h.lt
  have HL : Hid (LnAt w b s) := h
  have HI : Hid (∀ w', Calls Tryz.prog 150 #[.string (txtOf x)] w' fun e w2 => e = .returned (.tuple #[.int .i64 (litP x).1, .bool (litP x).2]) ∧ Below w'.heap.size w' w2) := fun w' => litOf_any x w' hx
  unfold operP
  obtain ⟨z, hz⟩ : ∃ z, (litP x).1 = z := ⟨_, rfl⟩
  rw [hz] at HI ⊢
  clear hz
  obtain ⟨X, hX⟩ : ∃ X, w.alloc (.cells #[.int .i64 0, .string ⟨#[]⟩, .int .i64 0] 84) = X := ⟨_, rfl⟩
  have HBX : Hid (Below w.heap.size w X) := by show Below _ _ _; rw [← hX]; exact (Below.refl _ _).alloc (Nat.le_refl _) _
  have HGX : Hid (X.heap[w.heap.size]? = some (.cells #[.int .i64 0, .string ⟨#[]⟩, .int .i64 0] 84 (0, 0))) := by show _ = _; rw [← hX]; exact heap_alloc_new w _
  have HXs : Hid (w.heap.size < X.heap.size) := by show _ < _; rw [← hX]; simp
  have HE : Hid (∀ (w3 : World) (s3 : Ls) (u0 u1 u2 : Value), LnAt w3 b s3 → SStp B (fun k => k = b) w w3 → LnAt (((w3.setCell ⟨w.heap.size, 0, none⟩ u0).setCell ⟨w.heap.size, 1, none⟩ u1).setCell ⟨w.heap.size, 2, none⟩ u2) b s3 ∧ SStp B (fun k => k = b) w (((w3.setCell ⟨w.heap.size, 0, none⟩ u0).setCell ⟨w.heap.size, 1, none⟩ u1).setCell ⟨w.heap.size, 2, none⟩ u2)) := fun w3 s3 u0 u1 u2 a1 a2 => by
    have ho : ∀ k, k < w.heap.size → (((w3.setCell ⟨w.heap.size, 0, none⟩ u0).setCell ⟨w.heap.size, 1, none⟩ u1).setCell ⟨w.heap.size, 2, none⟩ u2).heap[k]? = w3.heap[k]? := fun k hk => by
      have hk' : k ≠ w.heap.size := by omega
      rw [heap_setCell_other _ ⟨w.heap.size, 2, none⟩ k u2 hk', heap_setCell_other _ ⟨w.heap.size, 1, none⟩ k u1 hk', heap_setCell_other _ ⟨w.heap.size, 0, none⟩ k u0 hk']
    refine ⟨⟨(ho b hbl).trans a1.o, a1.n⟩, ((a2.below.setCell hBw _).setCell hBw _).setCell hBw _, ⟨Nat.le_trans a2.off.size (by simp), fun k hk hs => (ho k hk).trans (a2.off.block k hk hs)⟩⟩
  cases hk : (litP x).2 with
  | true =>
    rw [hk] at HI
    simp only [if_true]
    clear h hk
    go_enter Tryz.func148, Tryz.ntmps148
    go_wp2_with fail
    refine calls_at (HI.out X) (by with_reducible rfl) (by with_reducible rfl) ?_
    rintro e w1 ⟨rfl, hb1⟩
    have g1 := (hb1.block _ HXs.out).trans HGX.out
    have c0 : w1.cell? ⟨w.heap.size, 0, none⟩ = some (.int .i64 0) := cell_of g1 0
    have c1 : w1.cell? ⟨w.heap.size, 1, none⟩ = some (.string ⟨#[]⟩) := cell_of g1 1
    have c2 : w1.cell? ⟨w.heap.size, 2, none⟩ = some (.int .i64 0) := cell_of g1 2
    have z0 := frozen_of g1
    have HG1 : Hid (w1.heap[w.heap.size]? = some (.cells #[.int .i64 0, .string ⟨#[]⟩, .int .i64 0] 84 (0, 0))) := g1
    have HB1 : Hid (Below w.heap.size w w1) := bl_next HBX.out hb1
    clear hb1 g1
    go_wp2_with fail
    have hE := HE.out w1 s (.int .i64 2) (.string ⟨#[]⟩) (.int .i64 z) (HL.out.below HB1.out) (SStp.of_below HB1.out hBw)
    have hp := put3 (x := .int .i64 2) (y := .string ⟨#[]⟩) (z := .int .i64 z) HG1.out
    have m0 := cell_of hp 0
    have m1 := cell_of hp 1
    have m2 := cell_of hp 2
    exact bodyPost_ret (v := .agg #[.int .i64 2, .string ⟨#[]⟩, .int .i64 z]) (by simp [results, Tryz.results148, go_sem, m0, m1, m2]) rfl ⟨rfl, hE.1, hE.2⟩
  | false =>
    rw [hk] at HI
    simp only [Bool.false_eq_true, if_false]
    obtain ⟨o, ho⟩ : ∃ o, parseZ x = o := ⟨_, rfl⟩
    have HP : Hid (∀ w', Calls Tryz.prog 171 #[.string (txtOf x)] w' fun e w2 => ∃ v, e = .returned (.tuple #[v, .int .i64 (errOf o)]) ∧ BigAt w2 v (o.getD 0) ∧ Below w'.heap.size w' w2) := fun w' => by
      have := parse_any (txtOf x) w' (by rw [txt_size]; exact hx)
      rw [txt_list, ho] at this
      exact this
    have HF : Hid (∀ w', LnAt w' b s → Calls Tryz.prog 112 #[.pointer (some ⟨b, 0, none⟩), .int .i64 80] w' (LO B b (.tuple #[]) (failP 80 s) w')) := fun w' h' => fail_any 80 w' h' hB
    have HD : Hid (∀ w' s', LnAt w' b s' → Calls Tryz.prog 124 #[.pointer (some ⟨b, 0, none⟩), .string (txtOf x)] w' (LO B b (.string (txtOf x)) (wholeP x 1 s') w')) := fun w' s' h' => id_any x w' h' hB hx
    have HO : Hid (operS x s = if o.isNone = true then failP 80 s else s) := by show _ = _; unfold operS; rw [ho]
    clear h hk ho
    go_enter Tryz.func148, Tryz.ntmps148
    go_wp2_with fail
    refine calls_at (HI.out X) (by with_reducible rfl) (by with_reducible rfl) ?_
    rintro e w1 ⟨rfl, hb1⟩
    have HG1 : Hid (w1.heap[w.heap.size]? = some (.cells #[.int .i64 0, .string ⟨#[]⟩, .int .i64 0] 84 (0, 0))) := (hb1.block _ HXs.out).trans HGX.out
    have HZ1 : Hid (w.heap.size < w1.heap.size) := Nat.lt_of_lt_of_le HXs.out hb1.size
    have HB1 : Hid (Below w.heap.size w w1) := bl_next HBX.out hb1
    clear hb1
    go_wp2_with fail
    refine calls_at (HP.out w1) (by with_reducible rfl) (by with_reducible rfl) ?_
    rintro e w2 ⟨v, rfl, hv1, hb1⟩
    obtain ⟨y, q, hvq⟩ := hv1.shape
    subst hvq
    obtain ⟨Y, hY⟩ : ∃ Y, w2.alloc (.cells #[.int .i64 y, .pointer q] 232) = Y := ⟨_, rfl⟩
    have hbY : Below w2.heap.size w2 Y := by rw [← hY]; exact (Below.refl _ _).alloc (Nat.le_refl _) _
    have HG2 : Hid (Y.heap[w.heap.size]? = some (.cells #[.int .i64 0, .string ⟨#[]⟩, .int .i64 0] 84 (0, 0))) := ((bl_next hb1 hbY).block _ HZ1.out).trans HG1.out
    have HZ2 : Hid (w.heap.size < Y.heap.size) := Nat.lt_of_lt_of_le HZ1.out (bl_next hb1 hbY).size
    have HB2 : Hid (Below w.heap.size w Y) := bl_next HB1.out (bl_next hb1 hbY)
    clear hv1 hb1 hbY
    have hne : w.heap.size ≠ b := by omega
    cases o with
    | none =>
      have e0 : errOf none = 10 := rfl
      rw [e0]
      go_wp2_with fail
      refine calls_at (HF.out Y (HL.out.below HB2.out)) (by with_reducible rfl) (by with_reducible rfl) ?_
      rintro e w3 ⟨rfl, h3, h4⟩
      have H3 : Hid (LnAt w3 b (operS x s) ∧ SStp B (fun k => k = b) w w3) := ⟨by rw [HO.out]; exact h3, (SStp.of_below HB2.out hBw).trans h4⟩
      have HG3 : Hid (w3.heap[w.heap.size]? = some (.cells #[.int .i64 0, .string ⟨#[]⟩, .int .i64 0] 84 (0, 0)) ∧ w.heap.size < w3.heap.size) := ⟨(h4.off.block _ HZ2.out hne).trans HG2.out, Nat.lt_of_lt_of_le HZ2.out h4.off.size⟩
      clear h3 h4
      go_wp2_with fail
      refine calls_at (HD.out w3 _ H3.out.1) (by with_reducible rfl) (by with_reducible rfl) ?_
      rintro e w4 ⟨rfl, h5, h6⟩
      have H4 : Hid (LnAt w4 b (wholeP x 1 (operS x s)) ∧ SStp B (fun k => k = b) w w4) := ⟨h5, H3.out.2.trans h6⟩
      have g4 : w4.heap[w.heap.size]? = some (.cells #[.int .i64 0, .string ⟨#[]⟩, .int .i64 0] 84 (0, 0)) := (h6.off.block _ HG3.out.2 hne).trans HG3.out.1
      clear h5 h6
      have c0 : w4.cell? ⟨w.heap.size, 0, none⟩ = some (.int .i64 0) := cell_of g4 0
      have c1 : w4.cell? ⟨w.heap.size, 1, none⟩ = some (.string ⟨#[]⟩) := cell_of g4 1
      have c2 : w4.cell? ⟨w.heap.size, 2, none⟩ = some (.int .i64 0) := cell_of g4 2
      have z0 := frozen_of g4
      have HG4 : Hid (w4.heap[w.heap.size]? = some (.cells #[.int .i64 0, .string ⟨#[]⟩, .int .i64 0] 84 (0, 0))) := g4
      clear g4
      go_wp2_with fail
      have hE := HE.out w4 _ (.int .i64 1) (.string (txtOf x)) (.int .i64 0) H4.out.1 H4.out.2
      have hp := put3 (x := .int .i64 1) (y := .string (txtOf x)) (z := .int .i64 0) HG4.out
      have m0 := cell_of hp 0
      have m1 := cell_of hp 1
      have m2 := cell_of hp 2
      exact bodyPost_ret (v := .agg #[.int .i64 1, .string (txtOf x), .int .i64 0]) (by simp [results, Tryz.results148, go_sem, m0, m1, m2]) rfl ⟨rfl, hE.1, hE.2⟩
    | some zz =>
      have e0 : errOf (some zz) = 0 := rfl
      rw [e0]
      have H3 : Hid (LnAt Y b (operS x s)) := by show LnAt _ _ _; rw [HO.out]; exact HL.out.below HB2.out
      go_wp2_with fail
      refine calls_at (HD.out Y _ H3.out) (by with_reducible rfl) (by with_reducible rfl) ?_
      rintro e w4 ⟨rfl, h5, h6⟩
      have H4 : Hid (LnAt w4 b (wholeP x 1 (operS x s)) ∧ SStp B (fun k => k = b) w w4) := ⟨h5, (SStp.of_below HB2.out hBw).trans h6⟩
      have g4 : w4.heap[w.heap.size]? = some (.cells #[.int .i64 0, .string ⟨#[]⟩, .int .i64 0] 84 (0, 0)) := (h6.off.block _ HZ2.out hne).trans HG2.out
      clear h5 h6
      have c0 : w4.cell? ⟨w.heap.size, 0, none⟩ = some (.int .i64 0) := cell_of g4 0
      have c1 : w4.cell? ⟨w.heap.size, 1, none⟩ = some (.string ⟨#[]⟩) := cell_of g4 1
      have c2 : w4.cell? ⟨w.heap.size, 2, none⟩ = some (.int .i64 0) := cell_of g4 2
      have z0 := frozen_of g4
      have HG4 : Hid (w4.heap[w.heap.size]? = some (.cells #[.int .i64 0, .string ⟨#[]⟩, .int .i64 0] 84 (0, 0))) := g4
      clear g4
      go_wp2_with fail
      have hE := HE.out w4 _ (.int .i64 1) (.string (txtOf x)) (.int .i64 0) H4.out.1 H4.out.2
      have hp := put3 (x := .int .i64 1) (y := .string (txtOf x)) (z := .int .i64 0) HG4.out
      have m0 := cell_of hp 0
      have m1 := cell_of hp 1
      have m2 := cell_of hp 2
      exact bodyPost_ret (v := .agg #[.int .i64 1, .string (txtOf x), .int .i64 0]) (by simp [results, Tryz.results148, go_sem, m0, m1, m2]) rfl ⟨rfl, hE.1, hE.2⟩
end Go.Proofs.YtibbnijicdijnaaGreatDoor

namespace Go.Proofs.YtibbnijicdijnaaGreatDoor
open Go.RowKit

theorem opsC_len (L : List OpL) : (opsC L).length = L.length * 3 := by
  induction L with
  | nil => rfl
  | cons o L ih => rw [opsC, List.flatMap_cons, List.length_append]; rw [opsC] at ih; rw [ih, List.length_cons]; simp [opC]; omega
theorem opsC_app (L M : List OpL) : opsC (L ++ M) = opsC L ++ opsC M := by unfold opsC; rw [List.flatMap_append]
/-- How a call ends that lays an operation tk a row. -/
def OO (B b C : Nat) (L : List OpL) (s' : Ls) (w : World) (e : Ending) (w' : World) : Prop := ∃ v, e = .returned v ∧ w'.ownsRow C 84 3 v L.length (opsC L) ∧ LnAt w' b s' ∧ SStp B (fun k => k = b ∨ C ≤ k) w w'
def turnP (fr tk : Int) (L : List OpL) (s : Ls) : List OpL × Ls := match L.reverse with
  | [] => ([], failP 80 s)
  | o :: M => if o.1 = fr ∧ ¬ o.2.2 < 0 then (M.reverse ++ [(tk, o.2)], s) else ([], failP 80 s)
theorem turn_nil (fr tk : Int) (s : Ls) : turnP fr tk [] s = ([], failP 80 s) := rfl
theorem turn_app (fr tk : Int) (M : List OpL) (o : OpL) (s : Ls) : turnP fr tk (M ++ [o]) s = if o.1 = fr ∧ ¬ o.2.2 < 0 then (M ++ [(tk, o.2)], s) else ([], failP 80 s) := by
  unfold turnP
  simp
theorem SStp.more {B : Nat} {S T : Nat → Prop} {w w' : World} (h : SStp B S w w') (hs : ∀ k, S k → T k) : SStp B T w w' := ⟨h.below, h.off.less hs⟩
theorem opsC_at (M : List OpL) (o : OpL) (i : Nat) (hi : i < 3) : (opsC (M ++ [o]))[M.length * 3 + i]? = (opC o)[i]? := by
  rw [opsC_app, List.getElem?_append_right (by rw [opsC_len]; omega), opsC_len]
  simp [opsC]
theorem opsC_set (M : List OpL) (o : OpL) (tk : Int) : (opsC (M ++ [o])).set (M.length * 3 + 0) (.int .i64 tk) = opsC (M ++ [(tk, o.2)]) := by
  rw [opsC_app, opsC_app, List.set_append_right _ _ (by rw [opsC_len]; omega), opsC_len]
  simp [opsC, opC]

set_option maxRecDepth 10000 in
set_option maxHeartbeats 2000000 in
theorem turn_any {B b C : Nat} {s : Ls} {L : List OpL} {v : Value} (fr tk : Int) (w : World) (h : LnAt w b s) (hB : B ≤ b) (hC : b < C) (ho : w.ownsRow C 84 3 v L.length (opsC L)) (hL : L.length ≤ 9000000) : Calls Tryz.prog 147 #[.pointer (some ⟨b, 0, none⟩), v, .int .i64 fr, .int .i64 tk] w (OO B b C (turnP fr tk L s).1 (turnP fr tk L s).2 w) := by
  have HF : Hid (Calls Tryz.prog 112 #[.pointer (some ⟨b, 0, none⟩), .int .i64 80] w (LO B b (.tuple #[]) (failP 80 s) w)) := fail_any 80 w h hB
  have HL : Hid (LnAt w b s) := h
  have HFE : Hid (∀ w', LO B b (.tuple #[]) (failP 80 s) w (.returned (.tuple #[])) w' → OO B b C [] (failP 80 s) w (.returned (.slice none 0 0)) w') := fun w' a => ⟨_, rfl, World.ownsRow_nil _ _ _ _, a.2.1, a.2.2.more fun k hk => .inl hk⟩
  rcases List.eq_nil_or_concat L with rfl | ⟨M, o, hLM⟩
  · rw [turn_nil]
    obtain ⟨a, c, rfl⟩ := own_slice ho
    clear h ho
    go_enter Tryz.func147, Tryz.ntmps147
    go_wp2_with fail
    refine calls_at HF.out (by with_reducible rfl) (by with_reducible rfl) ?_
    rintro e w1 ⟨rfl, h1, h2⟩
    have H1 : Hid (OO B b C [] (failP 80 s) w (.returned (.slice none 0 0)) w1) := HFE.out w1 ⟨rfl, h1, h2⟩
    clear h1 h2
    go_wp2_with fail
    go_ret
    exact H1.out
  · rw [List.concat_eq_append] at hLM
    subst hLM
    rw [turn_app]
    rw [List.length_append] at ho hL
    have hg : ∃ g cap, v = .slice (some ⟨g, 0, none⟩) (M.length + 1) cap ∧ C ≤ g := by
      rcases ho.2 with ⟨_, h2⟩ | ⟨g, cap, _, hv, hg, _⟩
      · simp at h2
      · exact ⟨g, cap, hv, hg⟩
    obtain ⟨g, cap, rfl, hCg⟩ := hg
    have hlen : ([o] : List OpL).length = 1 := rfl
    rw [hlen] at ho hL
    have c0 := ho.cellAt (M.length * 3 + 0) (by omega)
    have c2 := ho.cellAt (M.length * 3 + 2) (by omega)
    have z0 := ho.frozenAt (M.length * 3 + 0)
    rw [opsC_at M o 0 (by omega)] at c0
    rw [opsC_at M o 2 (by omega)] at c2
    simp only [opC, List.getElem?_cons_zero, List.getElem?_cons_succ] at c0 c2
    have hst := ho.stored (M.length * 3 + 0) (.int .i64 tk)
    rw [opsC_set] at hst
    have HE : Hid (OO B b C (M ++ [(tk, o.2)]) s w (.returned (.slice (some ⟨g, 0, none⟩) (M.length + 1) cap)) (w.setCell ⟨g, M.length * 3 + 0, none⟩ (.int .i64 tk))) := by
      refine ⟨_, rfl, by rw [List.length_append]; exact hst.1, ⟨(heap_setCell_other _ _ _ _ (by show b ≠ g; omega)).trans h.o, h.n⟩, (Below.refl _ _).setCell (by show B ≤ g; omega) _, Off.set _ (.inr hCg)⟩
    have hwr : wrap64 (((M.length : Int) + 1) - 1) = M.length := by unfold wrap64; omega
    obtain ⟨k0, n0, l0⟩ := o
    simp only at c0 c2 HE ⊢
    obtain ⟨P, hP⟩ : ∃ P, M.length = P := ⟨_, rfl⟩
    rw [hP] at c0 c2 z0 HE hwr hL ⊢
    rw [Nat.add_zero] at c0 z0 HE
    have hP0 : ¬ (P : Int) < 0 := by omega
    clear hst ho h hP hlen
    have HN : Hid (¬ (k0 = fr ∧ ¬ l0 < 0) → Calls Tryz.prog 147 #[.pointer (some ⟨b, 0, none⟩), .slice (some ⟨g, 0, none⟩) (P + 1) cap, .int .i64 fr, .int .i64 tk] w (OO B b C [] (failP 80 s) w)) := by
      show _ → _
      intro hno
      have hno2 : k0 = fr → l0 < 0 := fun e => by
        rcases Decidable.em (l0 < 0) with h | h
        · exact h
        · exact absurd ⟨e, h⟩ hno
      clear hno HE
      by_cases hk : k0 = fr
      · have hl := hno2 hk
        clear hno2
        go_enter Tryz.func147, Tryz.ntmps147
        go_wp2_with fail
        refine calls_at HF.out (by with_reducible rfl) (by with_reducible rfl) ?_
        rintro e w1 ⟨rfl, h1, h2⟩
        have H1 : Hid (OO B b C [] (failP 80 s) w (.returned (.slice none 0 0)) w1) := HFE.out w1 ⟨rfl, h1, h2⟩
        clear h1 h2
        go_wp2_with fail
        go_ret
        exact H1.out
      · clear hno2
        go_enter Tryz.func147, Tryz.ntmps147
        go_wp2_with fail
        refine calls_at HF.out (by with_reducible rfl) (by with_reducible rfl) ?_
        rintro e w1 ⟨rfl, h1, h2⟩
        have H1 : Hid (OO B b C [] (failP 80 s) w (.returned (.slice none 0 0)) w1) := HFE.out w1 ⟨rfl, h1, h2⟩
        clear h1 h2
        go_wp2_with fail
        go_ret
        exact H1.out
    by_cases hk : k0 = fr ∧ ¬ l0 < 0
    · rw [if_pos hk]
      obtain ⟨hk1, hl⟩ := hk
      clear HN HF HFE
      go_enter Tryz.func147, Tryz.ntmps147
      go_wp2_with fail
      go_ret
      exact HE.out
    · rw [if_neg hk]
      exact HN.out hk
end Go.Proofs.YtibbnijicdijnaaGreatDoor

namespace Go.Proofs.YtibbnijicdijnaaGreatDoor
open Go.RowKit

theorem un38 : Tryz.prog.underlying 38 = some (.slice 84) := by kernel_rfl
theorem inf84 : (Tryz.prog.info? 84).map (fun i => (i.zero, i.size, i.bytes)) = some (some (.agg #[.int .i64 0, .string ⟨#[]⟩, .int .i64 0]), 3, 32) := by kernel_rfl
def opP (x : List UInt8) (L : List OpL) (s : Ls) : List OpL × Ls := if x = [43] then (L ++ [(3, [], 0)], s) else if x = [115] then (L ++ [(6, [], 0)], s) else if x = [42] then turnP 1 4 L s else if x = [100] then turnP 1 5 L s else if x = [119] then turnP 2 7 L s else (L ++ [(operP x s).1], (operP x s).2)
/-- An append to the row of operations. -/
theorem ops_app {B b C : Nat} {s : Ls} {w w2 w3 : World} {v v3 : Value} {L : List OpL} {o : OpL} (h : LnAt w2 b s) (hs : SStp B (fun k => k = b ∨ C ≤ k) w w2) (ho : w2.ownsRow C 84 3 v L.length (opsC L)) (hB : B ≤ b) (hC : b < C) (hCw : C ≤ w2.heap.size) (ho3 : w3.ownsRow C 84 3 v3 (L.length + 1) (opsC L ++ opC o)) (hg : (w2.alloc (.cells (opC o).toArray 84)).grownBy w3 v.ownBlock) : OO B b C (L ++ [o]) s w (.returned v3) w3 := by
  have hv : ∀ g, v.ownBlock = some g → C ≤ g := fun g hg => (ho.lt g hg).1
  have hk : ∀ k, k < w2.heap.size → k < C → w3.heap[k]? = w2.heap[k]? := fun k h1 h2 => by
    rw [hg.block k (by simp; omega) (fun e => by have := hv k e.symm; omega), heap_alloc_old w2 _ h1]
  refine ⟨v3, rfl, ?_, ⟨(hk b h.lt hC).trans h.o, h.n⟩, hs.below.trans ?_, ⟨Nat.le_trans hs.off.size (Nat.le_trans (by simp) hg.size), fun k h1 h2 => ?_⟩⟩
  · rw [List.length_append, opsC_app, show opsC [o] = opC o by simp [opsC]]; exact ho3
  · exact ((Below.refl B w2).alloc (by omega) _).grown hg (by simp; omega) (fun k hk => Nat.le_trans (by omega) (hv k hk))
  · have h3 : k < C := by
      rcases Nat.lt_or_ge k C with h | h
      · exact h
      · exact absurd (.inr h) h2
    exact (hk k (Nat.lt_of_lt_of_le h1 hs.off.size) h3).trans (hs.off.block k h1 h2)

set_option maxRecDepth 10000 in
set_option maxHeartbeats 2000000 in
theorem op_any {B b C : Nat} {s : Ls} {L : List OpL} {v : Value} (x : List UInt8) (w : World) (h : LnAt w b s) (hB : B ≤ b) (hC : b < C) (hCw : C ≤ w.heap.size) (ho : w.ownsRow C 84 3 v L.length (opsC L)) (hL : L.length ≤ 9000000) (hx : x.length ≤ 9000000) : Calls Tryz.prog 120 #[.pointer (some ⟨b, 0, none⟩), v, .string (txtOf x)] w (OO B b C (opP x L s).1 (opP x L s).2 w) := by
  have HL : Hid (LnAt w b s) := h
  have HO : Hid (w.ownsRow C 84 3 v L.length (opsC L)) := ho
  have HT : Hid (∀ fr tk, Calls Tryz.prog 147 #[.pointer (some ⟨b, 0, none⟩), v, .int .i64 fr, .int .i64 tk] w (OO B b C (turnP fr tk L s).1 (turnP fr tk L s).2 w)) := fun fr tk => turn_any fr tk w h hB hC ho hL
  have HP : Hid (Calls Tryz.prog 148 #[.pointer (some ⟨b, 0, none⟩), .string (txtOf x)] w (LO B b (.agg (opC (operP x s).1).toArray) (operP x s).2 w)) := oper_any x w h hB hx
  obtain ⟨va, vc, hvs⟩ := own_slice ho
  subst hvs
  have q1 := txt_eq x [43]
  have q2 := txt_eq x [115]
  have q3 := txt_eq x [42]
  have q4 := txt_eq x [100]
  have q5 := txt_eq x [119]
  unfold opP
  clear h ho
  by_cases x1 : x = [43]
  · rw [if_pos x1]
    rw [decide_eq_true x1] at q1
    clear x1 q2 q3 q4 q5
    go_enter Tryz.func120, Tryz.ntmps120
    go_wp2_with (first
      | (at_builtin; refine append_els w (opC (3, [], 0)) 3 rfl (by decide) rfl _ _ 38 84 (.agg #[.int .i64 0, .string ⟨#[]⟩, .int .i64 0]) 32 rfl un38 inf84 rfl C _ _ _ (by rfl) HO.out (by intro u hu; simp [opC] at hu; rcases hu with rfl | rfl | rfl <;> rfl) _ rfl (by rfl) (by unfold maxLen; omega) (by omega) hCw ?_; intro v3 w3 ho3 hg3 hn3; (have H3 : Hid (OO B b C (L ++ [(3, [], 0)]) s w (.returned v3) w3) := ops_app HL.out (SStp.refl _ _ _) HO.out hB hC hCw ho3 hg3); clear ho3 hg3 hn3))
    go_ret
    exact H3.out
  · rw [if_neg x1]
    rw [decide_eq_false x1] at q1
    clear x1
    by_cases x2 : x = [115]
    · rw [if_pos x2]
      rw [decide_eq_true x2] at q2
      clear x2 q3 q4 q5
      go_enter Tryz.func120, Tryz.ntmps120
      go_wp2_with (first
        | (at_builtin; refine append_els w (opC (6, [], 0)) 3 rfl (by decide) rfl _ _ 38 84 (.agg #[.int .i64 0, .string ⟨#[]⟩, .int .i64 0]) 32 rfl un38 inf84 rfl C _ _ _ (by rfl) HO.out (by intro u hu; simp [opC] at hu; rcases hu with rfl | rfl | rfl <;> rfl) _ rfl (by rfl) (by unfold maxLen; omega) (by omega) hCw ?_; intro v3 w3 ho3 hg3 hn3; (have H3 : Hid (OO B b C (L ++ [(6, [], 0)]) s w (.returned v3) w3) := ops_app HL.out (SStp.refl _ _ _) HO.out hB hC hCw ho3 hg3); clear ho3 hg3 hn3))
      go_ret
      exact H3.out
    · rw [if_neg x2]
      rw [decide_eq_false x2] at q2
      clear x2
      by_cases x3 : x = [42]
      · rw [if_pos x3]
        rw [decide_eq_true x3] at q3
        clear x3 q4 q5
        go_enter Tryz.func120, Tryz.ntmps120
        go_wp2_with fail
        refine calls_at (HT.out 1 4) (by with_reducible rfl) (by with_reducible rfl) ?_
        rintro e w1 ⟨u, rfl, h1⟩
        have H1 : Hid (OO B b C (turnP 1 4 L s).1 (turnP 1 4 L s).2 w (.returned u) w1) := ⟨u, rfl, h1⟩
        clear h1
        go_wp2_with fail
        go_ret
        exact H1.out
      · rw [if_neg x3]
        rw [decide_eq_false x3] at q3
        clear x3
        by_cases x4 : x = [100]
        · rw [if_pos x4]
          rw [decide_eq_true x4] at q4
          clear x4 q5
          go_enter Tryz.func120, Tryz.ntmps120
          go_wp2_with fail
          refine calls_at (HT.out 1 5) (by with_reducible rfl) (by with_reducible rfl) ?_
          rintro e w1 ⟨u, rfl, h1⟩
          have H1 : Hid (OO B b C (turnP 1 5 L s).1 (turnP 1 5 L s).2 w (.returned u) w1) := ⟨u, rfl, h1⟩
          clear h1
          go_wp2_with fail
          go_ret
          exact H1.out
        · rw [if_neg x4]
          rw [decide_eq_false x4] at q4
          clear x4
          by_cases x5 : x = [119]
          · rw [if_pos x5]
            rw [decide_eq_true x5] at q5
            clear x5
            go_enter Tryz.func120, Tryz.ntmps120
            go_wp2_with fail
            refine calls_at (HT.out 2 7) (by with_reducible rfl) (by with_reducible rfl) ?_
            rintro e w1 ⟨u, rfl, h1⟩
            have H1 : Hid (OO B b C (turnP 2 7 L s).1 (turnP 2 7 L s).2 w (.returned u) w1) := ⟨u, rfl, h1⟩
            clear h1
            go_wp2_with fail
            go_ret
            exact H1.out
          · rw [if_neg x5]
            rw [decide_eq_false x5] at q5
            clear x5
            obtain ⟨o, ho⟩ : ∃ o, (operP x s).1 = o := ⟨_, rfl⟩
            rw [ho] at HP ⊢
            clear ho HT
            obtain ⟨k0, n0, l0⟩ := o
            simp only [opC] at HP
            go_enter Tryz.func120, Tryz.ntmps120
            go_wp2_with fail
            refine calls_at HP.out (by with_reducible rfl) (by with_reducible rfl) ?_
            rintro e w1 ⟨rfl, h1, h2⟩
            have H1 : Hid (LnAt w1 b (operP x s).2 ∧ SStp B (fun k => k = b ∨ C ≤ k) w w1) := ⟨h1, h2.more fun k hk => .inl hk⟩
            have HO1 : Hid (w1.ownsRow C 84 3 (.slice va L.length vc) L.length (opsC L)) := own_stp HO.out h2 hC
            have hCw1 : C ≤ w1.heap.size := Nat.le_trans hCw h2.off.size
            clear h1 h2
            go_wp2_with (first
              | (at_builtin; refine append_els w1 (opC (k0, n0, l0)) 3 rfl (by decide) rfl _ _ 38 84 (.agg #[.int .i64 0, .string ⟨#[]⟩, .int .i64 0]) 32 rfl un38 inf84 rfl C _ _ _ (by rfl) HO1.out (by intro u hu; simp [opC] at hu; rcases hu with rfl | rfl | rfl <;> rfl) _ rfl (by rfl) (by unfold maxLen; omega) (by omega) hCw1 ?_; intro v3 w3 ho3 hg3 hn3; (have H3 : Hid (OO B b C (L ++ [(k0, n0, l0)]) (operP x s).2 w (.returned v3) w3) := ops_app H1.out.1 H1.out.2 HO1.out hB hC hCw1 ho3 hg3); clear ho3 hg3 hn3))
            go_ret
            exact H3.out
end Go.Proofs.YtibbnijicdijnaaGreatDoor
