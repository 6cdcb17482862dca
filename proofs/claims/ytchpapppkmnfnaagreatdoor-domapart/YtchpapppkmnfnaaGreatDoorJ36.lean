/-
  Put together: DmCopyL, PpFine, DtM.
-/
import Derived.Test.YtchpapppkmnfnaaGreatDoorJ35
import Derived.Test.YtchpapppkmnfnaaGreatDoorJ20
import Derived.Test.YtchpapppkmnfnaaGreatDoorJ27
import Derived.Test.YtchpapppkmnfnaaGreatDoorPpBitN
import Derived.Test.YtchpapppkmnfnaaGreatDoorJ34
namespace Go.Proofs.YtchpapppkmnfnaaGreatDoor
open Go.RowKit

theorem KRows.young {S T : Nat → Prop} {w w1 : World} {v : Value} {l : List (List Int)} {us : List Value} (h : KRows S w v l us) (ho : Off S w w1) (hT : ∀ b, T b → S b ∨ w.heap.size ≤ b) : KRows T w1 v l us := by
  refine ⟨h.len, ?_, fun j hj h2 => (h.each j hj h2).young ho hT⟩
  obtain ⟨a, cap, hv, hm, hc⟩ := h.form
  refine ⟨a, cap, hv, hm, fun h0 => ?_⟩
  obtain ⟨b, off, ha, hb, hS, hj⟩ := hc h0
  exact ⟨b, off, ha, Nat.lt_of_lt_of_le hb ho.size, fun ht => (hT b ht).elim hS (fun h => by omega), fun j h => (World.cell?_of_block (a := ⟨b, off + j, none⟩) (ho.block b hb hS)).trans (hj j h)⟩
theorem KCn.young {S T : Nat → Prop} {w w1 : World} {c : Md.Cn} {vt vx vb vr : Value} (h : KCn S w c vt vx vb vr) (ho : Off S w w1) (hT : ∀ b, T b → S b ∨ w.heap.size ≤ b) : KCn T w1 c vt vx vb vr := by
  obtain ⟨us, hr⟩ := h.r
  exact ⟨h.t.young ho hT, h.x.young ho hT, h.xcap, h.b.young ho hT, us, hr.young ho hT⟩
/-- The constraints so far, in a row of the call's own. -/
def Segs (S : Nat → Prop) (w : World) (cs : List Md.Cn) (k : Nat) (xs : List Value) : Prop :=
  xs.length = k * 10 ∧ ∀ j (h : j < cs.length), j < k → ∃ vt vx vb vr, (∀ i u, (cnCells cs[j] vt vx vb vr)[i]? = some u → xs[j * 10 + i]? = some u) ∧ KCn S w cs[j] vt vx vb vr
theorem Segs.young {S T : Nat → Prop} {w w1 : World} {cs : List Md.Cn} {k : Nat} {xs : List Value} (h : Segs S w cs k xs) (ho : Off S w w1) (hT : ∀ b, T b → S b ∨ w.heap.size ≤ b) : Segs T w1 cs k xs :=
  ⟨h.1, fun j hj hk => by
    obtain ⟨vt, vx, vb, vr, h1, h2⟩ := h.2 j hj hk
    exact ⟨vt, vx, vb, vr, h1, h2.young ho hT⟩⟩
theorem Segs.more {S : Nat → Prop} {w : World} {cs : List Md.Cn} {k : Nat} {xs : List Value} {vt vx vb vr : Value} (h : Segs S w cs k xs) (hk : k < cs.length) (hn : KCn S w cs[k] vt vx vb vr) : Segs S w cs (k + 1) (xs ++ cnCells cs[k] vt vx vb vr) := by
  refine ⟨by rw [List.length_append, h.1]; simp [cnCells]; omega, fun j hj hlt => ?_⟩
  by_cases e : j = k
  · subst e
    refine ⟨vt, vx, vb, vr, fun i u hi => ?_, hn⟩
    rw [List.getElem?_append_right (by rw [h.1]; omega), h.1, show j * 10 + i - j * 10 = i by omega]
    exact hi
  · obtain ⟨a1, a2, a3, a4, h1, h2⟩ := h.2 j hj (by omega)
    refine ⟨a1, a2, a3, a4, fun i u hi => ?_, h2⟩
    have := h1 i u hi
    rw [List.getElem?_append_left (List.getElem?_eq_some_iff.1 this).1]
    exact this
theorem Segs.cons {S : Nat → Prop} {w : World} {cs : List Md.Cn} {xs : List Value} {B : Nat} {v : Value} (h : Segs S w cs cs.length xs) (ho : w.ownsRow B 78 10 v cs.length xs) (hm : cs.length ≤ maxLen) (hS : ∀ g, B ≤ g → ¬ S g) : Kept S w (fun w' => ConsAt w' v cs) := fun w' hof => by
  have ho' := own_off ho (fun g hg => hS g (ho.lt g hg).1) hof
  rcases own_cells ho' with ⟨rfl, hn⟩ | ⟨g, cap, rfl, _, hg, _, hc⟩
  · exact ⟨none, 0, by rw [hn], hm, fun h0 => by omega⟩
  · refine ⟨_, cap, rfl, hm, fun _ => ⟨g, 0, rfl, hg, fun j hj => ?_⟩⟩
    obtain ⟨vt, vx, vb, vr, h1, h2⟩ := h.2 j hj hj
    have key : ∀ i u, (cnCells cs[j] vt vx vb vr)[i]? = some u → w'.cell? ⟨g, 0 + j * 10 + i, none⟩ = some u := fun i u hi => by
      rw [Nat.zero_add]
      exact hc _ _ (h1 i u hi)
    exact ⟨vt, vx, vb, vr, (h2.next hof).at, key 0 _ rfl, key 1 _ rfl, key 2 _ rfl, key 3 _ rfl, key 4 _ rfl, key 5 _ rfl, key 6 _ rfl, key 7 _ rfl, key 8 _ rfl, key 9 _ rfl⟩
theorem set4 {w : World} {N : Nat} {a0 a1 a2 a3 : Value} {t : TypeId} (h : w.heap[N]? = some (.cells #[a0, a1, a2, a3] t (0, 0))) (b0 b1 b2 b3 : Value) : ((((w.setCell ⟨N, 0, none⟩ b0).setCell ⟨N, 1, none⟩ b1).setCell ⟨N, 2, none⟩ b2).setCell ⟨N, 3, none⟩ b3).heap[N]? = some (.cells #[b0, b1, b2, b3] t (0, 0)) := by
  have hE := heap_setCell_same _ N 3 _ t b3 (heap_setCell_same _ N 2 _ t b2 (heap_setCell_same _ N 1 _ t b1 (heap_setCell_same w N 0 _ t b0 h)))
  simpa only [List.setIfInBounds_toArray, List.set_cons_zero, List.set_cons_succ] using hE
theorem off_set4 {S : Nat → Prop} {w : World} {N : Nat} (hS : S N) (b0 b1 b2 b3 : Value) : Off S w ((((w.setCell ⟨N, 0, none⟩ b0).setCell ⟨N, 1, none⟩ b1).setCell ⟨N, 2, none⟩ b2).setCell ⟨N, 3, none⟩ b3) := (((Off.set _ hS).trans (Off.set _ hS)).trans (Off.set _ hS)).trans (Off.set _ hS)
theorem info71 : (Tryz.prog.info? 78).map (fun i => (i.zero, i.size, i.bytes)) = some (some (.agg #[.int .i64 0, .int .i64 0, .slice none 0 0, .int .i64 0, .int .i64 0, .int .i64 0, .int .i64 0, .slice none 0 0, .slice none 0 0, .slice none 0 0]), 10, 144) := by kernel_rfl
theorem info39 : (Tryz.prog.info? 34).map (fun i => (i.zero, i.size, i.bytes)) = some (some (.agg #[.string ⟨#[]⟩, .int .i64 0, .int .i64 0]), 3, 32) := by kernel_rfl
theorem info113 : (Tryz.prog.info? 160).map (fun i => (i.zero, i.size, i.bytes)) = some (some (.agg #[.int .i64 0, .int .i64 0]), 2, 16) := by kernel_rfl
theorem un22 : Tryz.prog.underlying 22 = some (.slice 34) := by kernel_rfl
theorem un23 : Tryz.prog.underlying 23 = some (.slice 78) := by kernel_rfl
theorem un24 : Tryz.prog.underlying 24 = some (.slice 160) := by kernel_rfl
/-- Rows of two types lie in two blocks. -/
theorem own_ne {w : World} {B B' : Nat} {e e' : TypeId} {s s' : Nat} {u v : Value} {n m : Nat} {xs ys : List Value} (he : e ≠ e') (h : w.ownsRow B e s u n xs) (k : w.ownsRow B' e' s' v m ys) : ∀ g, u.ownBlock = some g → v.ownBlock ≠ some g := by
  intro g hg hv
  rcases h.2 with ⟨h1, _⟩ | ⟨g1, cap, cur, h1, _, hc1, _⟩
  · rw [h1] at hg; simp [Value.ownBlock] at hg
  · rcases k.2 with ⟨k1, _⟩ | ⟨g2, cap2, cur2, k1, _, hc2, _⟩
    · rw [k1] at hv; simp [Value.ownBlock] at hv
    · rw [h1] at hg
      rw [k1] at hv
      simp [Value.ownBlock] at hg hv
      subst hg hv
      rw [hc1] at hc2
      injection hc2 with hc2
      injection hc2 with _ h3
      exact he h3
/-- A problem that can be copied. -/
structure MoFit (m : Md.Mo) : Prop where
  v : m.vars.length ≤ 300
  c : m.cons.length ≤ 300
  g : m.goal.length ≤ 300
  l : ∀ c ∈ m.cons, c.terms.length * 16 ≤ 140737488355328 ∧ c.xs.length * 8 ≤ 140737488355328 ∧ c.table.length * 8 ≤ 140737488355328
/-- What copied leaves. -/
def CdOut (m : Md.Mo) (w : World) (e : Ending) (w' : World) : Prop := ∃ vv vc vg, e = .returned (moVal m vv vc vg) ∧ MoAt w' m vv vc vg ∧ Below w.heap.size w w' ∧ ∃ cs, w'.ownsRow w.heap.size 34 3 vv m.vars.length cs
end Go.Proofs.YtchpapppkmnfnaaGreatDoor

namespace Go.Proofs.YtchpapppkmnfnaaGreatDoor
open Go.RowKit

theorem w_nat {a : Int} (h : IsW a) : a.toNat < 2 ^ 32 ∧ (a.toNat : Int) = a := by
  have := h.1
  have := h.2
  omega
theorem w_zero {a : Int} (h : IsW a) (h0 : a ≠ 0) : ∃ j : Nat, j < 32 ∧ wb a j = true := by
  obtain ⟨h1, h2⟩ := w_nat h
  obtain ⟨i, hi⟩ := Nat.exists_testBit_of_ne_zero (x := a.toNat) (by omega)
  refine ⟨i, ?_, hi⟩
  rcases Nat.lt_or_ge i 32 with h3 | h3
  · exact h3
  · rw [Nat.testBit_lt_two_pow (Nat.lt_of_lt_of_le h1 (Nat.pow_le_pow_right (by decide) h3))] at hi; cases hi
theorem deB_two : ∀ j : Fin 32, deB.getD (2 ^ j.val * 125613361 % 4294967296 / 134217728) 0 = (j.val : Int) := by decide +kernel
theorem ntz_is {a : Int} (h : IsW a) (h0 : a ≠ 0) : ∃ j : Nat, j < 32 ∧ ntz a = (j : Int) ∧ wb a j = true ∧ ∀ k : Nat, k < j → wb a k = false := by
  obtain ⟨i, hi, hb⟩ := w_zero h h0
  obtain ⟨h1, h2⟩ := w_nat h
  obtain ⟨j, hj, hj1, hj2⟩ := PpN.first_of (wb a) 32 i hi hb
  refine ⟨j, by omega, ?_, hj1, hj2⟩
  have e := PpN.low_bit a.toNat j h1 hj1 hj2
  have hpos : 0 < a := by have := h.1; omega
  have hlt := h.2
  have e2 : bits .and .u32 a (4294967296 - a) = ((2 ^ j : Nat) : Int) := by
    rw [u32_and a (4294967296 - a) h.1 h.2 (by omega) (by omega)]
    rw [show (4294967296 - a).toNat = 2 ^ 32 - a.toNat by omega, e]
  unfold ntz
  rw [if_neg h0]
  have e3 : (ntzI a).toNat = 2 ^ j * 125613361 % 4294967296 / 134217728 := by
    unfold ntzI
    rw [e2]
    generalize 2 ^ j = P
    have e9 : (P : Int) * 125613361 % 4294967296 / 134217728 = ((P * 125613361 % 4294967296 / 134217728 : Nat) : Int) := by rw [Int.natCast_ediv, Int.natCast_emod, Int.natCast_mul]; rfl
    rw [e9, Int.toNat_natCast]
  rw [e3]
  exact deB_two ⟨j, by omega⟩
theorem ones_is {a : Int} (h : IsW a) : ones a = (PpN.cnt (wb a) 32 : Int) := by
  obtain ⟨h1, h2⟩ := w_nat h
  have e := PpN.ones_cnt a.toNat h1
  have e1 : ((a.toNat / 2 ^ 24 : Nat) : Int) = a / 16777216 := by omega
  have e2 : ((a.toNat / 2 ^ 16 % 256 : Nat) : Int) = a / 65536 % 256 := by omega
  have e3 : ((a.toNat / 2 ^ 8 % 256 : Nat) : Int) = a / 256 % 256 := by omega
  have e4 : ((a.toNat % 256 : Nat) : Int) = a % 256 := by omega
  rw [e1, e2, e3, e4] at e
  exact e
theorem high_is {a : Int} (h : IsW a) (h0 : a ≠ 0) : ∃ j : Nat, j < 32 ∧ (Lib.bitLen a.toNat : Int) - 1 = (j : Int) ∧ wb a j = true ∧ ∀ k : Nat, j < k → wb a k = false := by
  obtain ⟨h1, h2⟩ := w_nat h
  obtain ⟨a1, a2, a3, a4⟩ := PpN.high_bit a.toNat h1 (by omega)
  exact ⟨Lib.bitLen a.toNat - 1, by omega, by omega, a3, fun k hk => a4 k (by omega)⟩
theorem bt_lo (a b : Int) {k : Nat} (h : k < 32) : bt a b k = wb a k := by unfold bt; rw [if_pos h]
theorem bt_hi (a b : Int) (k : Nat) : bt a b (32 + k) = wb b k := by
  unfold bt
  rw [if_neg (by omega)]
  congr 1
  omega
/-- A set that isn't empty: its least place. -/
theorem bLow_is {a b : Int} (ha : IsW a) (hb : IsW b) (h : ∃ k : Nat, k < 64 ∧ bt a b k = true) : ∃ j : Nat, j < 64 ∧ bLow a b = (j : Int) ∧ bt a b j = true ∧ ∀ k : Nat, k < j → bt a b k = false := by
  unfold bLow
  by_cases h0 : a = 0
  · have hz : ∀ k, k < 32 → bt a b k = false := fun k hk => by
      rw [bt_lo a b hk, h0]
      show (0 : Int).toNat.testBit k = false
      exact Nat.zero_testBit k
    by_cases h1 : b = 0
    · obtain ⟨k, hk, hb2⟩ := h
      rcases Nat.lt_or_ge k 32 with h3 | h3
      · rw [hz k h3] at hb2; cases hb2
      · obtain ⟨m, rfl⟩ : ∃ m, k = 32 + m := ⟨k - 32, by omega⟩
        rw [bt_hi, h1] at hb2
        have : (0 : Int).toNat.testBit m = true := hb2
        rw [show (0 : Int).toNat = 0 from rfl, Nat.zero_testBit] at this
        cases this
    · obtain ⟨j, hj, e, h3, h4⟩ := ntz_is hb h1
      rw [if_neg (by simpa using h0), if_pos h1, e]
      refine ⟨32 + j, by omega, by omega, by rw [bt_hi]; exact h3, fun k hk => ?_⟩
      rcases Nat.lt_or_ge k 32 with h5 | h5
      · exact hz k h5
      · obtain ⟨m, rfl⟩ : ∃ m, k = 32 + m := ⟨k - 32, by omega⟩
        rw [bt_hi]
        exact h4 m (by omega)
  · obtain ⟨j, hj, e, h3, h4⟩ := ntz_is ha h0
    rw [if_pos h0, e]
    exact ⟨j, by omega, rfl, by rw [bt_lo a b hj]; exact h3, fun k hk => by rw [bt_lo a b (by omega)]; exact h4 k hk⟩
theorem bHigh_is {a b : Int} (ha : IsW a) (hb : IsW b) (h : ∃ k : Nat, k < 64 ∧ bt a b k = true) : ∃ j : Nat, j < 64 ∧ bHigh a b = (j : Int) ∧ bt a b j = true ∧ ∀ k : Nat, j < k → k < 64 → bt a b k = false := by
  unfold bHigh
  by_cases h1 : b = 0
  · have hz : ∀ k, bt a b (32 + k) = false := fun k => by
      rw [bt_hi, h1]
      show (0 : Int).toNat.testBit k = false
      exact Nat.zero_testBit k
    by_cases h0 : a = 0
    · obtain ⟨k, hk, hb2⟩ := h
      rcases Nat.lt_or_ge k 32 with h3 | h3
      · rw [bt_lo a b h3, h0] at hb2
        have : (0 : Int).toNat.testBit k = true := hb2
        rw [show (0 : Int).toNat = 0 from rfl, Nat.zero_testBit] at this
        cases this
      · obtain ⟨m, rfl⟩ : ∃ m, k = 32 + m := ⟨k - 32, by omega⟩
        rw [hz m] at hb2; cases hb2
    · obtain ⟨j, hj, e, h3, h4⟩ := high_is ha h0
      rw [if_neg (by simpa using h1), if_pos h0, e]
      refine ⟨j, by omega, rfl, by rw [bt_lo a b hj]; exact h3, fun k hk hk2 => ?_⟩
      rcases Nat.lt_or_ge k 32 with h5 | h5
      · rw [bt_lo a b h5]
        exact h4 k hk
      · obtain ⟨m, rfl⟩ : ∃ m, k = 32 + m := ⟨k - 32, by omega⟩
        exact hz m
  · obtain ⟨j, hj, e, h3, h4⟩ := high_is hb h1
    rw [if_pos h1]
    refine ⟨32 + j, by omega, by omega, by rw [bt_hi]; exact h3, fun k hk hk2 => ?_⟩
    obtain ⟨m, rfl⟩ : ∃ m, k = 32 + m := ⟨k - 32, by omega⟩
    rw [bt_hi]
    exact h4 m (by omega)
theorem bSize_is {a b : Int} (ha : IsW a) (hb : IsW b) : bSize a b = (PpN.cnt (bt a b) 64 : Int) := by
  unfold bSize
  rw [ones_is ha, ones_is hb, show (64 : Nat) = 32 + 32 by decide, PpN.cnt_add]
  have e1 : PpN.cnt (bt a b) 32 = PpN.cnt (wb a) 32 := PpN.cnt_congr fun k hk => bt_lo a b hk
  have e2 : PpN.cnt (fun k => bt a b (32 + k)) 32 = PpN.cnt (wb b) 32 := PpN.cnt_congr fun k _ => bt_hi a b k
  rw [e1, e2]
  omega
/-- It isn't empty. -/
def Dm.Any (d : Dm) : Prop := ∃ k : Nat, k < 64 ∧ bt d.a d.b k = true
theorem Dm.has_is {d : Dm} (h : d.Ok) (v : Int) : d.has v = true ↔ ∃ k : Nat, k < 64 ∧ v = d.f + (k : Int) ∧ bt d.a d.b k = true := by
  unfold Dm.has dHas
  constructor
  · intro hh
    have h0 : 0 ≤ dPlc d.f v ∧ dPlc d.f v < 64 := by
      unfold btAt at hh
      simp only [Bool.and_eq_true, decide_eq_true_eq] at hh
      exact hh.1
    obtain ⟨k, hk⟩ : ∃ k : Nat, dPlc d.f v = (k : Int) := ⟨(dPlc d.f v).toNat, by omega⟩
    rw [hk] at hh h0
    rw [btAt_bt h.a h.b k (by omega)] at hh
    refine ⟨k, by omega, ?_, hh⟩
    unfold dPlc at hk
    omega
  · rintro ⟨k, hk, rfl, hb⟩
    have e : dPlc d.f (d.f + (k : Int)) = (k : Int) := by unfold dPlc; omega
    rw [e, btAt_bt h.a h.b k hk]
    exact hb
theorem fine_of {d : Dm} (h : d.Ok) (hs : d.Any) : d.Fine := by
  obtain ⟨l, l1, l2, l3, l4⟩ := bLow_is h.a h.b hs
  obtain ⟨g, g1, g2, g3, g4⟩ := bHigh_is h.a h.b hs
  have el : d.lo = d.f + (l : Int) := by unfold Dm.lo; rw [l2]
  have eg : d.hi = d.f + (g : Int) := by unfold Dm.hi; rw [g2]
  have hl : d.has d.lo = true := (d.has_is h _).2 ⟨l, l1, el, l3⟩
  have hg : d.has d.hi = true := (d.has_is h _).2 ⟨g, g1, eg, g3⟩
  have least : ∀ v, d.has v = true → d.lo ≤ v := fun v hv => by
    obtain ⟨k, hk, rfl, hb⟩ := (d.has_is h v).1 hv
    rcases Nat.lt_or_ge k l with hlt | hge
    · rw [l4 k hlt] at hb; cases hb
    · omega
  have most : ∀ v, d.has v = true → v ≤ d.hi := fun v hv => by
    obtain ⟨k, hk, rfl, hb⟩ := (d.has_is h v).1 hv
    rcases Nat.lt_or_ge g k with hlt | hge
    · rw [g4 k hlt hk] at hb; cases hb
    · omega
  have hsz : d.size = (PpN.cnt (bt d.a d.b) 64 : Int) := bSize_is h.a h.b
  have h1 := h.f1
  have h2 := h.f2
  refine ⟨hl, hg, least, most, ?_, ?_, ?_, ?_, by omega, by omega⟩
  · unfold Dm.one
    rw [decide_eq_true_eq, hsz]
    constructor
    · intro hc
      have hle := least _ hg
      rcases Nat.lt_or_ge l g with hlt | hge
      · have := PpN.cnt_two hlt g1 l3 g3
        omega
      · omega
    · intro he
      have hlg : l = g := by omega
      have := PpN.cnt_one (p := bt d.a d.b) (n := 64) fun i j hij hj hi => by
        rcases Nat.lt_or_ge i l with hlt | hge
        · rw [l4 i hlt] at hi; cases hi
        · exact g4 j (by omega) hj
      omega
  · rw [hsz]
    have := PpN.cnt_pos l1 l3
    omega
  · intro v
    unfold Dm.all dAll dVals
    rw [List.mem_filter, List.mem_map]
    constructor
    · exact fun hh => hh.2
    · intro hv
      refine ⟨⟨(v - d.lo).toNat, ?_, ?_⟩, hv⟩
      · rw [List.mem_range]
        have := most v hv
        have := least v hv
        unfold dN
        unfold Dm.lo Dm.hi at *
        omega
      · have := least v hv
        unfold Dm.lo at *
        omega
  · unfold Dm.all dAll dVals
    refine List.Pairwise.sublist List.filter_sublist ?_
    rw [List.pairwise_map]
    exact List.pairwise_lt_range.imp fun {a b} hab => by omega

/-! Stores. -/
def Alls (s : St) : Prop := ∀ d ∈ s.now, d.Ok ∧ d.Any
theorem any_new {v : Md.Vr} (h : Md.boundsB v.lo v.hi = true) : (wholeD v).Any := by
  have hb := Md.bounds_of h
  refine ⟨0, by omega, ?_⟩
  show bt (wWd v.lo v.hi 0) (wWd v.lo v.hi 1) 0 = true
  rw [bt_whole v.lo v.hi 0 (by omega)]
  simp
  omega
theorem alls_new (m : Md.Mo) : Alls (newS m) := by
  intro d hd
  unfold newS at hd
  split at hd
  · rename_i h
    obtain ⟨v, hv, rfl⟩ := List.mem_map.1 hd
    exact ⟨wholeD_ok ((Md.right_of h).var v hv).2, any_new ((Md.right_of h).var v hv).2⟩
  · cases hd
theorem any_words {d : Dm} (h : d.Ok) (h0 : d.eqB ⟨0, 0, 0⟩ = false) : d.Any := by
  unfold Dm.eqB at h0
  by_cases ha : d.a = 0
  · have hb : d.b ≠ 0 := fun e => by
      rw [ha, e] at h0
      simp at h0
    obtain ⟨j, hj, hw⟩ := w_zero h.b hb
    exact ⟨32 + j, by omega, by rw [bt_hi]; exact hw⟩
  · obtain ⟨j, hj, hw⟩ := w_zero h.a ha
    exact ⟨j, by omega, by rw [bt_lo _ _ hj]; exact hw⟩
theorem cut_get {s : St} (k x v : Int) (y : Nat) (hy : y < s.now.length) : ∃ h2 : y < (s.cut k x v).now.length, (s.cut k x v).now[y] = s.now[y] ∨ ((s.cut k x v).now[y] = s.now[y].cut k v ∧ s.now[y].went k v = true) := by
  unfold St.cut
  split
  · exact ⟨hy, .inl rfl⟩
  · rename_i d hd
    split
    · rename_i hw
      rw [Bool.and_eq_true] at hw
      refine ⟨by simpa using hy, ?_⟩
      by_cases e : x.toNat = y
      · subst e
        rw [List.getElem?_eq_getElem hy] at hd
        injection hd with hd
        refine .inr ⟨?_, by rw [hd]; exact hw.2⟩
        simp [hd]
      · refine .inl ?_
        simp [e]
    · exact ⟨hy, .inl rfl⟩
theorem alls_cut {s : St} (h : Alls s) (k x v : Int) : Alls (s.cut k x v) := by
  intro d hd
  obtain ⟨y, hy, rfl⟩ := List.mem_iff_getElem.1 hd
  have hl : y < s.now.length := by
    have : (s.cut k x v).now.length = s.now.length := by
      unfold St.cut
      split
      · rfl
      · split
        · simp
        · rfl
    omega
  obtain ⟨_, h3 | ⟨h3, h4⟩⟩ := cut_get (s := s) k x v y hl
  · rw [h3]
    exact h _ (List.getElem_mem hl)
  · rw [h3]
    have ho := (h _ (List.getElem_mem hl)).1.cut k v
    refine ⟨ho, any_words ho ?_⟩
    unfold Dm.went at h4
    simp at h4
    exact h4.2
theorem cut_fewer {d : Dm} (h : d.Ok) (k v : Int) (u : Int) (hu : (d.cut k v).has u = true) : d.has u = true ∧ takesB k v u = false := by
  obtain ⟨j, hj, rfl, hb⟩ := (Dm.has_is (h.cut k v) u).1 hu
  have hb : bt (lWd (dPlc d.f v) k d.a 0) (lWd (dPlc d.f v) k d.b 1) j = true := hb
  rw [bt_cut h.a h.b k v j hj] at hb
  simp at hb
  exact ⟨(Dm.has_is h _).2 ⟨j, hj, rfl, hb.1⟩, hb.2⟩
theorem cut_has {d : Dm} (h : d.Ok) (k v : Int) (u : Int) (hu : d.has u = true) (ht : takesB k v u = false) : (d.cut k v).has u = true := by
  obtain ⟨j, hj, rfl, hb⟩ := (Dm.has_is h u).1 hu
  refine (Dm.has_is (h.cut k v) _).2 ⟨j, hj, rfl, ?_⟩
  show bt (lWd (dPlc d.f v) k d.a 0) (lWd (dPlc d.f v) k d.b 1) j = true
  rw [bt_cut h.a h.b k v j hj, hb, ht]
  rfl
theorem new_has {v : Md.Vr} (h : Md.boundsB v.lo v.hi = true) (u : Int) : (wholeD v).has u = true ↔ v.lo ≤ u ∧ u ≤ v.hi := by
  have hb := Md.bounds_of h
  rw [Dm.has_is (wholeD_ok h)]
  constructor
  · rintro ⟨k, hk, e, h2⟩
    have h2 : bt (wWd v.lo v.hi 0) (wWd v.lo v.hi 1) k = true := h2
    rw [bt_whole v.lo v.hi k hk] at h2
    have := of_decide_eq_true h2
    have e : u = v.lo + (k : Int) := e
    omega
  · rintro ⟨h1, h2⟩
    refine ⟨(u - v.lo).toNat, by omega, ?_, ?_⟩
    · show u = v.lo + _
      omega
    · show bt (wWd v.lo v.hi 0) (wWd v.lo v.hi 1) _ = true
      rw [bt_whole v.lo v.hi _ (by omega)]
      exact decide_eq_true (by omega)
end Go.Proofs.YtchpapppkmnfnaaGreatDoor

namespace Go.Proofs.YtchpapppkmnfnaaGreatDoor
open Go.RowKit

/-- Rising lists with the same members are the same. -/
theorem up_ext : ∀ {L M : List Int}, L.Pairwise (· < ·) → M.Pairwise (· < ·) → (∀ v, v ∈ L ↔ v ∈ M) → L = M
  | [], [], _, _, _ => rfl
  | [], m :: M, _, _, h => absurd ((h m).2 (by simp)) (by simp)
  | l :: L, [], _, _, h => absurd ((h l).1 (by simp)) (by simp)
  | l :: L, m :: M, hL, hM, h => by
    have hL1 := List.pairwise_cons.1 hL
    have hM1 := List.pairwise_cons.1 hM
    have e : l = m := by
      have a1 := (h l).1 (by simp)
      have a2 := (h m).2 (by simp)
      rcases List.mem_cons.1 a1 with a1 | a1
      · exact a1
      · rcases List.mem_cons.1 a2 with a2 | a2
        · exact a2.symm
        · have := hM1.1 _ a1
          have := hL1.1 _ a2
          omega
    subst e
    refine congrArg _ (up_ext hL1.2 hM1.2 fun v => ⟨fun hv => ?_, fun hv => ?_⟩)
    · rcases List.mem_cons.1 ((h v).1 (List.mem_cons_of_mem _ hv)) with e | e
      · have := hL1.1 _ hv; omega
      · exact e
    · rcases List.mem_cons.1 ((h v).2 (List.mem_cons_of_mem _ hv)) with e | e
      · have := hM1.1 _ hv; omega
      · exact e

/-- What the document's Cut leaves of a list. -/
def lft (k v : Int) (L : List Int) : List Int := L.filter fun u => !takesB k v u
theorem lft_mem {d : Dm} (h : d.Ok) (hf : d.Fine) (k v u : Int) : u ∈ lft k v d.all ↔ (d.cut k v).has u = true := by
  unfold lft
  rw [List.mem_filter, hf.all]
  constructor
  · rintro ⟨h1, h2⟩
    exact cut_has h k v u h1 (by simpa using h2)
  · intro h1
    obtain ⟨a, b⟩ := cut_fewer h k v u h1
    exact ⟨a, by simp [b]⟩
theorem eqB_of {d e : Dm} (h : d.eqB e = true) : d.a = e.a ∧ d.b = e.b := by
  unfold Dm.eqB at h
  simpa using h
theorem all_ne {d : Dm} (hf : d.Fine) : d.all ≠ [] := fun e => by
  have := (hf.all d.lo).2 hf.loIn
  rw [e] at this
  cases this
/-- A cut that leaves nothing. -/
theorem lft_nil {d : Dm} (h : d.Ok) (hf : d.Fine) (k v : Int) (h0 : (d.cut k v).eqB ⟨0, 0, 0⟩ = true) : lft k v d.all = [] := by
  rw [List.eq_nil_iff_forall_not_mem]
  intro u hu
  rw [lft_mem h hf] at hu
  obtain ⟨j, hj, _, hb⟩ := (Dm.has_is (h.cut k v) u).1 hu
  obtain ⟨e1, e2⟩ := eqB_of h0
  rw [e1, e2] at hb
  unfold bt wb at hb
  split at hb <;> simp at hb
theorem lft_cut {d : Dm} (h : d.Ok) (hf : d.Fine) (k v : Int) (h0 : (d.cut k v).eqB ⟨0, 0, 0⟩ = false) : lft k v d.all = (d.cut k v).all := by
  have hF := fine_of (h.cut k v) (any_words (h.cut k v) h0)
  refine up_ext (hf.up.filter _) hF.up fun u => ?_
  rw [hF.all]
  exact lft_mem h hf k v u
theorem all_eq {d e : Dm} (hf : d.f = e.f) (h : d.eqB e = true) : d.all = e.all := by
  obtain ⟨h1, h2⟩ := eqB_of h
  unfold Dm.all
  rw [hf, h1, h2]
theorem not_zero {d : Dm} (ha : d.Any) : d.eqB ⟨0, 0, 0⟩ = false := by
  cases h0 : d.eqB ⟨0, 0, 0⟩ with
  | false => rfl
  | true =>
    obtain ⟨k, hk, hb⟩ := ha
    obtain ⟨e1, e2⟩ := eqB_of h0
    rw [e1, e2] at hb
    unfold bt wb at hb
    split at hb <;> simp at hb
/-- What Cut answers, by lists. -/
theorem went_is {d : Dm} (h : d.Ok) (ha : d.Any) (k v : Int) :
    d.went k v = (!(lft k v d.all).isEmpty && decide ((lft k v d.all).length < d.all.length)) ∧ d.may k v = !(lft k v d.all).isEmpty ∧ ((if d.went k v then d.cut k v else d).all = if (lft k v d.all).isEmpty then d.all else lft k v d.all) := by
  have hf := fine_of h ha
  unfold Dm.went Dm.may
  cases h0 : (d.cut k v).eqB ⟨0, 0, 0⟩ with
  | true =>
    have e := lft_nil h hf k v h0
    have h1 : (d.cut k v).eqB d = false := by
      cases h1 : (d.cut k v).eqB d with
      | false => rfl
      | true =>
        obtain ⟨a1, a2⟩ := eqB_of h0
        obtain ⟨b1, b2⟩ := eqB_of h1
        have := not_zero ha
        unfold Dm.eqB at this
        rw [← b1, ← b2, a1, a2] at this
        simp at this
    rw [e, h1]
    simp
  | false =>
    have e := lft_cut h hf k v h0
    have hF := fine_of (h.cut k v) (any_words (h.cut k v) h0)
    have hne : lft k v d.all ≠ [] := by rw [e]; exact all_ne hF
    have hE : (lft k v d.all).isEmpty = false := by simpa using hne
    rw [hE]
    cases h1 : (d.cut k v).eqB d with
    | true =>
      have : (d.cut k v).all = d.all := all_eq rfl h1
      rw [e, this]
      simp
    | false =>
      have hl : (lft k v d.all).length < d.all.length := by
        have hle : (lft k v d.all).length ≤ d.all.length := List.length_filter_le _ _
        rcases Nat.lt_or_ge (lft k v d.all).length d.all.length with hq | hq
        · exact hq
        · exfalso
          have heq : lft k v d.all = d.all := (List.filter_sublist (p := fun u => !takesB k v u) (l := d.all)).eq_of_length (by unfold lft at hle hq; omega)
          have hb : ∀ j, j < 64 → bt (d.cut k v).a (d.cut k v).b j = bt d.a d.b j := fun j hj => by
            have h1 : bt (lWd (dPlc d.f v) k d.a 0) (lWd (dPlc d.f v) k d.b 1) j = (bt d.a d.b j && !takesB k v (d.f + (j : Int))) := bt_cut h.a h.b k v j hj
            show bt (lWd (dPlc d.f v) k d.a 0) (lWd (dPlc d.f v) k d.b 1) j = _
            rw [h1]
            cases hbj : bt d.a d.b j with
            | false => rfl
            | true =>
              have hm : d.f + (j : Int) ∈ d.all := (hf.all _).2 ((Dm.has_is h _).2 ⟨j, hj, rfl, hbj⟩)
              rw [← heq] at hm
              have := (List.mem_filter.1 hm).2
              simpa using this
          obtain ⟨e1, e2⟩ := bt_ext (h.cut k v).a (h.cut k v).b h.a h.b hb
          have : (d.cut k v).eqB d = true := by unfold Dm.eqB; rw [e1, e2]; simp
          rw [h1] at this
          cases this
      exact ⟨by simp [hl], by simp, by simp [e]⟩
/-- The document's new list. -/
def spanL (lo hi : Int) : List Int := (List.range (hi - lo + 1).toNat).map fun k : Nat => lo + (k : Int)
theorem spanL_up (lo hi : Int) : (spanL lo hi).Pairwise (· < ·) := by
  unfold spanL
  rw [List.pairwise_map]
  exact List.pairwise_lt_range.imp fun h => by omega
theorem spanL_mem (lo hi v : Int) : v ∈ spanL lo hi ↔ lo ≤ v ∧ v ≤ hi := by
  unfold spanL
  rw [List.mem_map]
  constructor
  · rintro ⟨k, hk, rfl⟩
    rw [List.mem_range] at hk
    omega
  · rintro ⟨h1, h2⟩
    exact ⟨(v - lo).toNat, by rw [List.mem_range]; omega, by omega⟩
theorem whole_all {v : Md.Vr} (h : Md.boundsB v.lo v.hi = true) : (wholeD v).all = spanL v.lo v.hi := by
  have hF := fine_of (wholeD_ok h) (any_new h)
  refine up_ext hF.up (spanL_up _ _) fun u => ?_
  rw [hF.all, new_has h, spanL_mem]

/-- Packed. -/
theorem wb_or {x y : Int} (hx : IsW x) (hy : IsW y) (j : Nat) : wb (bits .or .u32 x y) j = (wb x j || wb y j) := by
  unfold wb
  rw [u32_or x y hx.1 hx.2 hy.1 hy.2, Int.toNat_natCast, Nat.testBit_or]
theorem bt_or {a b c d : Int} (ha : IsW a) (hb : IsW b) (hc : IsW c) (hd : IsW d) (k : Nat) : bt (bits .or .u32 a c) (bits .or .u32 b d) k = (bt a b k || bt c d k) := by
  unfold bt
  split
  · exact wb_or ha hc k
  · exact wb_or hb hd _
theorem bt_only (q : Int) (k : Nat) (hk : k < 64) : bt (oWd q 0) (oWd q 1) k = decide (q = (k : Int)) := by
  unfold oWd
  rw [bt_less (isW_fWd _ _) (isW_fWd _ _) (isW_fWd _ _) (isW_fWd _ _) k hk, bt_from q k hk, bt_from (q + 1) k hk]
  by_cases h1 : q ≤ (k : Int) <;> by_cases h2 : q + 1 ≤ (k : Int) <;> by_cases h3 : q = (k : Int) <;> simp [h1, h2, h3] <;> omega
theorem bt_pk (l : Int) (L : List Int) (p : Int × Int) (h1 : IsW p.1) (h2 : IsW p.2) (k : Nat) (hk : k < 64) : bt (L.foldl (pkStep l) p).1 (L.foldl (pkStep l) p).2 k = (bt p.1 p.2 k || decide (l + (k : Int) ∈ L)) := by
  induction L generalizing p with
  | nil => simp
  | cons v L ih =>
    rw [List.foldl_cons, ih (pkStep l p v) (isW_bits .or _ _) (isW_bits .or _ _)]
    show (bt (bits .or .u32 p.1 (oWd (v - l) 0)) (bits .or .u32 p.2 (oWd (v - l) 1)) k || _) = _
    rw [bt_or h1 h2 (by unfold oWd; exact isW_bits _ _ _) (by unfold oWd; exact isW_bits _ _ _), bt_only (v - l) k hk, Bool.or_assoc]
    congr 1
    by_cases e : v - l = (k : Int)
    · have : l + (k : Int) = v := by omega
      simp [e, this]
    · have : l + (k : Int) ≠ v := by omega
      simp [e, this]
/-- What the program's same says of two domains. -/
def Dm.same (d e : Dm) : Bool := decide (d.lo = e.lo) && (decide ((dPack d.f d.a d.b).1 = (dPack e.f e.a e.b).1) && decide ((dPack d.f d.a d.b).2 = (dPack e.f e.a e.b).2))
theorem same_is {d e : Dm} (h : d.Ok) (ha : d.Any) (k : e.Ok) (ka : e.Any) : d.same e = decide (d.all = e.all) := by
  have hf := fine_of h ha
  have kf := fine_of k ka
  have bd : ∀ {d : Dm}, d.Ok → d.Fine → ∀ v, d.has v = true → v - d.lo < 64 ∧ 0 ≤ v - d.lo := fun {d} h hf v hv => by
    have h1 := hf.least v hv
    obtain ⟨j, hj, rfl, _⟩ := (Dm.has_is h v).1 hv
    obtain ⟨i, hi, e, _⟩ := (Dm.has_is h d.lo).1 hf.loIn
    omega
  by_cases e1 : d.all = e.all
  · have hlo : d.lo = e.lo := by
      have a1 := hf.least e.lo ((hf.all _).1 (by rw [e1]; exact (kf.all _).2 kf.loIn))
      have a2 := kf.least d.lo ((kf.all _).1 (by rw [← e1]; exact (hf.all _).2 hf.loIn))
      omega
    have hp : dPack d.f d.a d.b = dPack e.f e.a e.b := by
      show pkL d.lo d.all = pkL e.lo e.all
      rw [hlo, e1]
    unfold Dm.same
    rw [hlo, hp]
    simp [e1]
  · have : d.same e = false := by
      cases hs : d.same e with
      | false => rfl
      | true =>
        exfalso
        unfold Dm.same at hs
        simp only [Bool.and_eq_true, decide_eq_true_eq] at hs
        obtain ⟨hlo, hp1, hp2⟩ := hs
        have z : IsW (0 : Int) := by unfold IsW; omega
        refine e1 (up_ext hf.up kf.up fun v => ?_)
        have q1 := bt_pk d.lo d.all (0, 0) z z
        have q2 := bt_pk e.lo e.all (0, 0) z z
        have hq : ∀ j : Nat, j < 64 → (d.lo + (j : Int) ∈ d.all ↔ e.lo + (j : Int) ∈ e.all) := fun j hj => by
          have a1 := q1 j hj
          have a2 := q2 j hj
          have hp1 : (d.all.foldl (pkStep d.lo) (0, 0)).1 = (e.all.foldl (pkStep e.lo) (0, 0)).1 := hp1
          have hp2 : (d.all.foldl (pkStep d.lo) (0, 0)).2 = (e.all.foldl (pkStep e.lo) (0, 0)).2 := hp2
          rw [hp1, hp2, a2] at a1
          have b0 : bt (0 : Int) 0 j = false := by unfold bt wb; split <;> simp
          simp only [b0, Bool.false_or, decide_eq_decide] at a1
          exact a1.symm
        constructor
        · intro hv
          obtain ⟨c1, c2⟩ := bd h hf v ((hf.all v).1 hv)
          have := (hq (v - d.lo).toNat (by omega)).1 (by rw [show d.lo + ((v - d.lo).toNat : Int) = v by omega]; exact hv)
          rwa [show e.lo + ((v - d.lo).toNat : Int) = v by omega] at this
        · intro hv
          obtain ⟨c1, c2⟩ := bd k kf v ((kf.all v).1 hv)
          have := (hq (v - e.lo).toNat (by omega)).2 (by rw [show e.lo + ((v - e.lo).toNat : Int) = v by omega]; exact hv)
          rwa [show d.lo + ((v - e.lo).toNat : Int) = v by omega] at this
    rw [this]
    simp [e1]
end Go.Proofs.YtchpapppkmnfnaaGreatDoor
