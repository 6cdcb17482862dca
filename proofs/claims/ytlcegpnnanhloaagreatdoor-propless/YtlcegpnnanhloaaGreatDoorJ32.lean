/-
  Put together: PpFine, PpSide, PpSome.
-/
import Derived.Test.YtlcegpnnanhloaaGreatDoorJ31
import Derived.Test.YtlcegpnnanhloaaGreatDoorPpBitN
import Derived.Test.YtlcegpnnanhloaaGreatDoorJ30
namespace Go.Proofs.YtlcegpnnanhloaaGreatDoor
open Go.RowKit

theorem w_nat {a : Int} (h : IsW a) : a.toNat < 2 ^ 32 ∧ (a.toNat : Int) = a := by
  have := h.1
  have := h.2
  omega
theorem w_zero {a : Int} (h : IsW a) (h0 : a ≠ 0) : ∃ j : Nat, j < 32 ∧ wb a j = true := by
  obtain ⟨h1, h2⟩ := w_nat h
  obtain ⟨i, hi⟩ := Nat.exists_testBit_of_ne_zero (x := a.toNat) (by omega)
  refine ⟨i, ?_, hi⟩
  rcases Nat.lt_or_ge i 32 with h3 | h3
  · exact h3
  · rw [Nat.testBit_lt_two_pow (Nat.lt_of_lt_of_le h1 (Nat.pow_le_pow_right (by decide) h3))] at hi; cases hi
theorem deB_two : ∀ j : Fin 32, deB.getD (2 ^ j.val * 125613361 % 4294967296 / 134217728) 0 = (j.val : Int) := by decide +kernel
theorem ntz_is {a : Int} (h : IsW a) (h0 : a ≠ 0) : ∃ j : Nat, j < 32 ∧ ntz a = (j : Int) ∧ wb a j = true ∧ ∀ k : Nat, k < j → wb a k = false := by
  obtain ⟨i, hi, hb⟩ := w_zero h h0
  obtain ⟨h1, h2⟩ := w_nat h
  obtain ⟨j, hj, hj1, hj2⟩ := PpN.first_of (wb a) 32 i hi hb
  refine ⟨j, by omega, ?_, hj1, hj2⟩
  have e := PpN.low_bit a.toNat j h1 hj1 hj2
  have hpos : 0 < a := by have := h.1; omega
  have hlt := h.2
  have e2 : bits .and .u32 a (4294967296 - a) = ((2 ^ j : Nat) : Int) := by
    rw [u32_and a (4294967296 - a) h.1 h.2 (by omega) (by omega)]
    rw [show (4294967296 - a).toNat = 2 ^ 32 - a.toNat by omega, e]
  unfold ntz
  rw [if_neg h0]
  have e3 : (ntzI a).toNat = 2 ^ j * 125613361 % 4294967296 / 134217728 := by
    unfold ntzI
    rw [e2]
    generalize 2 ^ j = P
    have e9 : (P : Int) * 125613361 % 4294967296 / 134217728 = ((P * 125613361 % 4294967296 / 134217728 : Nat) : Int) := by rw [Int.natCast_ediv, Int.natCast_emod, Int.natCast_mul]; rfl
    rw [e9, Int.toNat_natCast]
  rw [e3]
  exact deB_two ⟨j, by omega⟩
theorem ones_is {a : Int} (h : IsW a) : ones a = (PpN.cnt (wb a) 32 : Int) := by
  obtain ⟨h1, h2⟩ := w_nat h
  have e := PpN.ones_cnt a.toNat h1
  have e1 : ((a.toNat / 2 ^ 24 : Nat) : Int) = a / 16777216 := by omega
  have e2 : ((a.toNat / 2 ^ 16 % 256 : Nat) : Int) = a / 65536 % 256 := by omega
  have e3 : ((a.toNat / 2 ^ 8 % 256 : Nat) : Int) = a / 256 % 256 := by omega
  have e4 : ((a.toNat % 256 : Nat) : Int) = a % 256 := by omega
  rw [e1, e2, e3, e4] at e
  exact e
theorem high_is {a : Int} (h : IsW a) (h0 : a ≠ 0) : ∃ j : Nat, j < 32 ∧ (Lib.bitLen a.toNat : Int) - 1 = (j : Int) ∧ wb a j = true ∧ ∀ k : Nat, j < k → wb a k = false := by
  obtain ⟨h1, h2⟩ := w_nat h
  obtain ⟨a1, a2, a3, a4⟩ := PpN.high_bit a.toNat h1 (by omega)
  exact ⟨Lib.bitLen a.toNat - 1, by omega, by omega, a3, fun k hk => a4 k (by omega)⟩
theorem bt_lo (a b : Int) {k : Nat} (h : k < 32) : bt a b k = wb a k := by unfold bt; rw [if_pos h]
theorem bt_hi (a b : Int) (k : Nat) : bt a b (32 + k) = wb b k := by
  unfold bt
  rw [if_neg (by omega)]
  congr 1
  omega
/-- A set that isn't empty: its least place. -/
theorem bLow_is {a b : Int} (ha : IsW a) (hb : IsW b) (h : ∃ k : Nat, k < 64 ∧ bt a b k = true) : ∃ j : Nat, j < 64 ∧ bLow a b = (j : Int) ∧ bt a b j = true ∧ ∀ k : Nat, k < j → bt a b k = false := by
  unfold bLow
  by_cases h0 : a = 0
  · have hz : ∀ k, k < 32 → bt a b k = false := fun k hk => by
      rw [bt_lo a b hk, h0]
      show (0 : Int).toNat.testBit k = false
      exact Nat.zero_testBit k
    by_cases h1 : b = 0
    · obtain ⟨k, hk, hb2⟩ := h
      rcases Nat.lt_or_ge k 32 with h3 | h3
      · rw [hz k h3] at hb2; cases hb2
      · obtain ⟨m, rfl⟩ : ∃ m, k = 32 + m := ⟨k - 32, by omega⟩
        rw [bt_hi, h1] at hb2
        have : (0 : Int).toNat.testBit m = true := hb2
        rw [show (0 : Int).toNat = 0 from rfl, Nat.zero_testBit] at this
        cases this
    · obtain ⟨j, hj, e, h3, h4⟩ := ntz_is hb h1
      rw [if_neg (by simpa using h0), if_pos h1, e]
      refine ⟨32 + j, by omega, by omega, by rw [bt_hi]; exact h3, fun k hk => ?_⟩
      rcases Nat.lt_or_ge k 32 with h5 | h5
      · exact hz k h5
      · obtain ⟨m, rfl⟩ : ∃ m, k = 32 + m := ⟨k - 32, by omega⟩
        rw [bt_hi]
        exact h4 m (by omega)
  · obtain ⟨j, hj, e, h3, h4⟩ := ntz_is ha h0
    rw [if_pos h0, e]
    exact ⟨j, by omega, rfl, by rw [bt_lo a b hj]; exact h3, fun k hk => by rw [bt_lo a b (by omega)]; exact h4 k hk⟩
theorem bHigh_is {a b : Int} (ha : IsW a) (hb : IsW b) (h : ∃ k : Nat, k < 64 ∧ bt a b k = true) : ∃ j : Nat, j < 64 ∧ bHigh a b = (j : Int) ∧ bt a b j = true ∧ ∀ k : Nat, j < k → k < 64 → bt a b k = false := by
  unfold bHigh
  by_cases h1 : b = 0
  · have hz : ∀ k, bt a b (32 + k) = false := fun k => by
      rw [bt_hi, h1]
      show (0 : Int).toNat.testBit k = false
      exact Nat.zero_testBit k
    by_cases h0 : a = 0
    · obtain ⟨k, hk, hb2⟩ := h
      rcases Nat.lt_or_ge k 32 with h3 | h3
      · rw [bt_lo a b h3, h0] at hb2
        have : (0 : Int).toNat.testBit k = true := hb2
        rw [show (0 : Int).toNat = 0 from rfl, Nat.zero_testBit] at this
        cases this
      · obtain ⟨m, rfl⟩ : ∃ m, k = 32 + m := ⟨k - 32, by omega⟩
        rw [hz m] at hb2; cases hb2
    · obtain ⟨j, hj, e, h3, h4⟩ := high_is ha h0
      rw [if_neg (by simpa using h1), if_pos h0, e]
      refine ⟨j, by omega, rfl, by rw [bt_lo a b hj]; exact h3, fun k hk hk2 => ?_⟩
      rcases Nat.lt_or_ge k 32 with h5 | h5
      · rw [bt_lo a b h5]
        exact h4 k hk
      · obtain ⟨m, rfl⟩ : ∃ m, k = 32 + m := ⟨k - 32, by omega⟩
        exact hz m
  · obtain ⟨j, hj, e, h3, h4⟩ := high_is hb h1
    rw [if_pos h1]
    refine ⟨32 + j, by omega, by omega, by rw [bt_hi]; exact h3, fun k hk hk2 => ?_⟩
    obtain ⟨m, rfl⟩ : ∃ m, k = 32 + m := ⟨k - 32, by omega⟩
    rw [bt_hi]
    exact h4 m (by omega)
theorem bSize_is {a b : Int} (ha : IsW a) (hb : IsW b) : bSize a b = (PpN.cnt (bt a b) 64 : Int) := by
  unfold bSize
  rw [ones_is ha, ones_is hb, show (64 : Nat) = 32 + 32 by decide, PpN.cnt_add]
  have e1 : PpN.cnt (bt a b) 32 = PpN.cnt (wb a) 32 := PpN.cnt_congr fun k hk => bt_lo a b hk
  have e2 : PpN.cnt (fun k => bt a b (32 + k)) 32 = PpN.cnt (wb b) 32 := PpN.cnt_congr fun k _ => bt_hi a b k
  rw [e1, e2]
  omega
/-- It isn't empty. -/
def Dm.Any (d : Dm) : Prop := ∃ k : Nat, k < 64 ∧ bt d.a d.b k = true
theorem Dm.has_is {d : Dm} (h : d.Ok) (v : Int) : d.has v = true ↔ ∃ k : Nat, k < 64 ∧ v = d.f + (k : Int) ∧ bt d.a d.b k = true := by
  unfold Dm.has dHas
  constructor
  · intro hh
    have h0 : 0 ≤ dPlc d.f v ∧ dPlc d.f v < 64 := by
      unfold btAt at hh
      simp only [Bool.and_eq_true, decide_eq_true_eq] at hh
      exact hh.1
    obtain ⟨k, hk⟩ : ∃ k : Nat, dPlc d.f v = (k : Int) := ⟨(dPlc d.f v).toNat, by omega⟩
    rw [hk] at hh h0
    rw [btAt_bt h.a h.b k (by omega)] at hh
    refine ⟨k, by omega, ?_, hh⟩
    unfold dPlc at hk
    omega
  · rintro ⟨k, hk, rfl, hb⟩
    have e : dPlc d.f (d.f + (k : Int)) = (k : Int) := by unfold dPlc; omega
    rw [e, btAt_bt h.a h.b k hk]
    exact hb
theorem fine_of {d : Dm} (h : d.Ok) (hs : d.Any) : d.Fine := by
  obtain ⟨l, l1, l2, l3, l4⟩ := bLow_is h.a h.b hs
  obtain ⟨g, g1, g2, g3, g4⟩ := bHigh_is h.a h.b hs
  have el : d.lo = d.f + (l : Int) := by unfold Dm.lo; rw [l2]
  have eg : d.hi = d.f + (g : Int) := by unfold Dm.hi; rw [g2]
  have hl : d.has d.lo = true := (d.has_is h _).2 ⟨l, l1, el, l3⟩
  have hg : d.has d.hi = true := (d.has_is h _).2 ⟨g, g1, eg, g3⟩
  have least : ∀ v, d.has v = true → d.lo ≤ v := fun v hv => by
    obtain ⟨k, hk, rfl, hb⟩ := (d.has_is h v).1 hv
    rcases Nat.lt_or_ge k l with hlt | hge
    · rw [l4 k hlt] at hb; cases hb
    · omega
  have most : ∀ v, d.has v = true → v ≤ d.hi := fun v hv => by
    obtain ⟨k, hk, rfl, hb⟩ := (d.has_is h v).1 hv
    rcases Nat.lt_or_ge g k with hlt | hge
    · rw [g4 k hlt hk] at hb; cases hb
    · omega
  have hsz : d.size = (PpN.cnt (bt d.a d.b) 64 : Int) := bSize_is h.a h.b
  have h1 := h.f1
  have h2 := h.f2
  refine ⟨hl, hg, least, most, ?_, ?_, ?_, ?_, by omega, by omega⟩
  · unfold Dm.one
    rw [decide_eq_true_eq, hsz]
    constructor
    · intro hc
      have hle := least _ hg
      rcases Nat.lt_or_ge l g with hlt | hge
      · have := PpN.cnt_two hlt g1 l3 g3
        omega
      · omega
    · intro he
      have hlg : l = g := by omega
      have := PpN.cnt_one (p := bt d.a d.b) (n := 64) fun i j hij hj hi => by
        rcases Nat.lt_or_ge i l with hlt | hge
        · rw [l4 i hlt] at hi; cases hi
        · exact g4 j (by omega) hj
      omega
  · rw [hsz]
    have := PpN.cnt_pos l1 l3
    omega
  · intro v
    unfold Dm.all dAll dVals
    rw [List.mem_filter, List.mem_map]
    constructor
    · exact fun hh => hh.2
    · intro hv
      refine ⟨⟨(v - d.lo).toNat, ?_, ?_⟩, hv⟩
      · rw [List.mem_range]
        have := most v hv
        have := least v hv
        unfold dN
        unfold Dm.lo Dm.hi at *
        omega
      · have := least v hv
        unfold Dm.lo at *
        omega
  · unfold Dm.all dAll dVals
    refine List.Pairwise.sublist List.filter_sublist ?_
    rw [List.pairwise_map]
    exact List.pairwise_lt_range.imp fun {a b} hab => by omega

/-! Stores. -/
def Alls (s : St) : Prop := ∀ d ∈ s.now, d.Ok ∧ d.Any
theorem any_new {v : Md.Vr} (h : Md.boundsB v.lo v.hi = true) : (wholeD v).Any := by
  have hb := Md.bounds_of h
  refine ⟨0, by omega, ?_⟩
  show bt (wWd v.lo v.hi 0) (wWd v.lo v.hi 1) 0 = true
  rw [bt_whole v.lo v.hi 0 (by omega)]
  simp
  omega
theorem alls_new (m : Md.Mo) : Alls (newS m) := by
  intro d hd
  unfold newS at hd
  split at hd
  · rename_i h
    obtain ⟨v, hv, rfl⟩ := List.mem_map.1 hd
    exact ⟨wholeD_ok ((Md.right_of h).var v hv).2, any_new ((Md.right_of h).var v hv).2⟩
  · cases hd
theorem any_words {d : Dm} (h : d.Ok) (h0 : d.eqB ⟨0, 0, 0⟩ = false) : d.Any := by
  unfold Dm.eqB at h0
  by_cases ha : d.a = 0
  · have hb : d.b ≠ 0 := fun e => by
      rw [ha, e] at h0
      simp at h0
    obtain ⟨j, hj, hw⟩ := w_zero h.b hb
    exact ⟨32 + j, by omega, by rw [bt_hi]; exact hw⟩
  · obtain ⟨j, hj, hw⟩ := w_zero h.a ha
    exact ⟨j, by omega, by rw [bt_lo _ _ hj]; exact hw⟩
theorem cut_get {s : St} (k x v : Int) (y : Nat) (hy : y < s.now.length) : ∃ h2 : y < (s.cut k x v).now.length, (s.cut k x v).now[y] = s.now[y] ∨ ((s.cut k x v).now[y] = s.now[y].cut k v ∧ s.now[y].went k v = true) := by
  unfold St.cut
  split
  · exact ⟨hy, .inl rfl⟩
  · rename_i d hd
    split
    · rename_i hw
      rw [Bool.and_eq_true] at hw
      refine ⟨by simpa using hy, ?_⟩
      by_cases e : x.toNat = y
      · subst e
        rw [List.getElem?_eq_getElem hy] at hd
        injection hd with hd
        refine .inr ⟨?_, by rw [hd]; exact hw.2⟩
        simp [hd]
      · refine .inl ?_
        simp [e]
    · exact ⟨hy, .inl rfl⟩
theorem alls_cut {s : St} (h : Alls s) (k x v : Int) : Alls (s.cut k x v) := by
  intro d hd
  obtain ⟨y, hy, rfl⟩ := List.mem_iff_getElem.1 hd
  have hl : y < s.now.length := by
    have : (s.cut k x v).now.length = s.now.length := by
      unfold St.cut
      split
      · rfl
      · split
        · simp
        · rfl
    omega
  obtain ⟨_, h3 | ⟨h3, h4⟩⟩ := cut_get (s := s) k x v y hl
  · rw [h3]
    exact h _ (List.getElem_mem hl)
  · rw [h3]
    have ho := (h _ (List.getElem_mem hl)).1.cut k v
    refine ⟨ho, any_words ho ?_⟩
    unfold Dm.went at h4
    simp at h4
    exact h4.2
theorem stcut_len (s : St) (k x v : Int) : (s.cut k x v).now.length = s.now.length := by
  unfold St.cut
  split
  · rfl
  · split
    · simp
    · rfl
theorem cut_fewer {d : Dm} (h : d.Ok) (k v : Int) (u : Int) (hu : (d.cut k v).has u = true) : d.has u = true ∧ takesB k v u = false := by
  obtain ⟨j, hj, rfl, hb⟩ := (Dm.has_is (h.cut k v) u).1 hu
  have hb : bt (lWd (dPlc d.f v) k d.a 0) (lWd (dPlc d.f v) k d.b 1) j = true := hb
  rw [bt_cut h.a h.b k v j hj] at hb
  simp at hb
  exact ⟨(Dm.has_is h _).2 ⟨j, hj, rfl, hb.1⟩, hb.2⟩
theorem cut_has {d : Dm} (h : d.Ok) (k v : Int) (u : Int) (hu : d.has u = true) (ht : takesB k v u = false) : (d.cut k v).has u = true := by
  obtain ⟨j, hj, rfl, hb⟩ := (Dm.has_is h u).1 hu
  refine (Dm.has_is (h.cut k v) _).2 ⟨j, hj, rfl, ?_⟩
  show bt (lWd (dPlc d.f v) k d.a 0) (lWd (dPlc d.f v) k d.b 1) j = true
  rw [bt_cut h.a h.b k v j hj, hb, ht]
  rfl
theorem new_has {v : Md.Vr} (h : Md.boundsB v.lo v.hi = true) (u : Int) : (wholeD v).has u = true ↔ v.lo ≤ u ∧ u ≤ v.hi := by
  have hb := Md.bounds_of h
  rw [Dm.has_is (wholeD_ok h)]
  constructor
  · rintro ⟨k, hk, e, h2⟩
    have h2 : bt (wWd v.lo v.hi 0) (wWd v.lo v.hi 1) k = true := h2
    rw [bt_whole v.lo v.hi k hk] at h2
    have := of_decide_eq_true h2
    have e : u = v.lo + (k : Int) := e
    omega
  · rintro ⟨h1, h2⟩
    refine ⟨(u - v.lo).toNat, by omega, ?_, ?_⟩
    · show u = v.lo + _
      omega
    · show bt (wWd v.lo v.hi 0) (wWd v.lo v.hi 1) _ = true
      rw [bt_whole v.lo v.hi _ (by omega)]
      exact decide_eq_true (by omega)
end Go.Proofs.YtlcegpnnanhloaaGreatDoor

namespace Go.Proofs.YtlcegpnnanhloaaGreatDoor
open Go.RowKit

/-- Keep, signs turned or not. -/
def sKeep (t : Bool) (S : List Sv) (x : Nat) (a b : Int) : List Sv := if t then keepL S x (-b) (-a) else keepL S x a b
theorem sKeep_len (t : Bool) (S : List Sv) (x : Nat) (a b : Int) : (sKeep t S x a b).length = S.length := by
  unfold sKeep
  split <;> exact keepL_len _ _ _ _
set_option maxRecDepth 10000 in
set_option maxHeartbeats 1000000 in
theorem sKeep_any (B lp g p : Nat) (nv mv : Value) (s : St) (S : List Sv) (t : Bool) (w : World) (h : LfAt B lp g p nv mv s S w) (x : Nat) (hx : x < S.length) (a b : Int) (h1 : -9223372036854775807 ≤ a) (h2 : a ≤ 9223372036854775807) (h3 : -9223372036854775807 ≤ b) (h4 : b ≤ 9223372036854775807) : Calls Tryz.prog 118 #[sdVal lp t, .int .i64 (x : Int), bnVal a b] w (KpOut B lp g p nv mv s (sKeep t S x a b) w) := by
  obtain ⟨W, hW⟩ : ∃ W, (w.alloc (.cells #[.pointer (some ⟨lp, 0, none⟩), .bool t] 127)).alloc (.cells #[.int .i64 a, .int .i64 b] 101) = W := ⟨_, rfl⟩
  have hb0 : Below w.heap.size w W := by rw [← hW]; exact ((Below.refl _ _).alloc (Nat.le_refl _) _).alloc (by simp) _
  have g0 : W.heap[w.heap.size]? = some (.cells #[.pointer (some ⟨lp, 0, none⟩), .bool t] 127 (0, 0)) := by rw [← hW, heap_alloc_old (w.alloc _) _ (by simp)]; exact heap_alloc_new w _
  have g1 : W.heap[w.heap.size + 1]? = some (.cells #[.int .i64 a, .int .i64 b] 101 (0, 0)) := by rw [← hW]; exact heap_alloc2_new w _ _
  have hlt0 := (Array.getElem?_eq_some_iff.1 g0).1
  have hlt1 := (Array.getElem?_eq_some_iff.1 g1).1
  have HL : Hid (∀ w', Below w.heap.size w w' → LfAt B lp g p nv mv s S w') := fun w' hb => h.below hb
  have HKp : Hid (∀ w' (c d : Int), Below w.heap.size w w' → Calls Tryz.prog 90 #[.pointer (some ⟨lp, 0, none⟩), .int .i64 (x : Int), .agg #[.int .i64 c, .int .i64 d]] w' (KpOut B lp g p nv mv s (keepL S x c d) w')) := fun w' c d hb => keep_any B lp g p nv mv s S w' (h.below hb) x hx c d
  have HB : Hid (Below w.heap.size w W) := hb0
  have HBs : Hid (B ≤ w.heap.size) := h.size
  have c0 : W.cell? ⟨w.heap.size, 0, none⟩ = some (.pointer (some ⟨lp, 0, none⟩)) := cell_of g0 0
  have c1 : W.cell? ⟨w.heap.size, 1, none⟩ = some (.bool t) := cell_of g0 1
  have c2 : W.cell? ⟨w.heap.size + 1, 0, none⟩ = some (.int .i64 a) := cell_of g1 0
  have c3 : W.cell? ⟨w.heap.size + 1, 1, none⟩ = some (.int .i64 b) := cell_of g1 1
  have G0 : Hid (∀ w', Below W.heap.size W w' → w'.heap[w.heap.size]? = some (.cells #[.pointer (some ⟨lp, 0, none⟩), .bool t] 127 (0, 0)) ∧ w'.heap[w.heap.size + 1]? = some (.cells #[.int .i64 a, .int .i64 b] 101 (0, 0))) := fun w' hb => ⟨(hb.block _ hlt0).trans g0, (hb.block _ hlt1).trans g1⟩
  clear h hb0 g0 g1 hlt0 hlt1 hx
  unfold sdVal bnVal sKeep
  cases t with
  | false =>
    go_enter Tryz.func118, Tryz.ntmps118
    go_wp2_with fail
    refine calls_at (HKp.out W a b HB.out) (by with_reducible rfl) (by with_reducible rfl) ?_
    rintro e w2 ⟨rfl, hL2, hk2⟩
    have H2 : Hid (LfAt B lp g p nv mv s (keepL S x a b) w2 ∧ Kq B W w2) := ⟨hL2, hk2⟩
    clear hL2 hk2
    go_wp2_with fail
    go_end0
    exact ⟨rfl, H2.out.1, (Kq.of_below HB.out HBs.out).trans H2.out.2⟩
  | true =>
    have HT : Hid (Calls Tryz.prog 147 #[.agg #[.int .i64 a, .int .i64 b]] W fun e w' => e = .returned (.agg #[.int .i64 (-b), .int .i64 (-a)]) ∧ Below W.heap.size W w') := turnedB_any a b W h1 h2 h3 h4
    go_enter Tryz.func118, Tryz.ntmps118
    go_wp2_with fail
    refine calls_at HT.out (by with_reducible rfl) (by with_reducible rfl) ?_
    rintro e w2 ⟨rfl, hb2⟩
    obtain ⟨q0, q1⟩ := G0.out w2 hb2
    have d2 : w2.cell? ⟨w.heap.size + 1, 0, none⟩ = some (.int .i64 a) := cell_of q1 0
    have d3 : w2.cell? ⟨w.heap.size + 1, 1, none⟩ = some (.int .i64 b) := cell_of q1 1
    have dz : ∀ i, w2.frozen? ⟨w.heap.size + 1, i, none⟩ = false := frozen_of q1
    obtain ⟨Y, hY⟩ : ∃ Y, (w2.setCell ⟨w.heap.size + 1, 0, none⟩ (.int .i64 (-b))).setCell ⟨w.heap.size + 1, 1, none⟩ (.int .i64 (-a)) = Y := ⟨_, rfl⟩
    have hE : Y.heap[w.heap.size + 1]? = some (.cells #[.int .i64 (-b), .int .i64 (-a)] 101 (0, 0)) := by rw [← hY]; exact set2 q1 _ _
    have hE0 : Y.heap[w.heap.size]? = some (.cells #[.pointer (some ⟨lp, 0, none⟩), .bool true] 127 (0, 0)) := by
      rw [← hY, heap_setCell_other _ _ _ _ (by simp), heap_setCell_other _ _ _ _ (by simp)]; exact q0
    have hbY : Below w.heap.size w Y := by rw [← hY]; exact ((HB.out.trans (hb2.mono HB.out.size)).setCell (by simp) _).setCell (by simp) _
    have y0 : Y.cell? ⟨w.heap.size, 0, none⟩ = some (.pointer (some ⟨lp, 0, none⟩)) := cell_of hE0 0
    have y2 : Y.cell? ⟨w.heap.size + 1, 0, none⟩ = some (.int .i64 (-b)) := cell_of hE 0
    have y3 : Y.cell? ⟨w.heap.size + 1, 1, none⟩ = some (.int .i64 (-a)) := cell_of hE 1
    have HBY : Hid (Below w.heap.size w Y) := hbY
    clear hb2 q0 q1 hE hE0 hbY
    go_wp2_with fail
    refine calls_at (HKp.out Y (-b) (-a) HBY.out) (by with_reducible rfl) (by with_reducible rfl) ?_
    rintro e w3 ⟨rfl, hL2, hk2⟩
    have H2 : Hid (LfAt B lp g p nv mv s (keepL S x (-b) (-a)) w3 ∧ Kq B Y w3) := ⟨hL2, hk2⟩
    clear hL2 hk2
    go_wp2_with fail
    go_end0
    exact ⟨rfl, H2.out.1, (Kq.of_below HBY.out HBs.out).trans H2.out.2⟩

set_option maxRecDepth 10000 in
set_option maxHeartbeats 1000000 in
theorem has_any (B : Nat) (a b : Int) (tv : Value) (ts : List (Int → Bool)) (fs : List Value) (v : Int) (w : World) (ho : w.ownsRow B 58 1 tv ts.length fs) (ht : TestsAt B w fs ts) (hB : B ≤ w.heap.size) (hl : ts.length ≤ 100000) (h1 : -2000000000 ≤ v) (h2 : v ≤ 2000000000) : Calls Tryz.prog 99 #[stVal a b tv, .int .i64 v] w fun e w' => e = .returned (.bool (ts.all (fun t => t v) && inB a b v)) ∧ Below w.heap.size w w' := by
  obtain ⟨ta, cap, rfl⟩ := own_slice ho
  obtain ⟨W, hW⟩ : ∃ W, w.alloc (.cells #[.int .i64 a, .int .i64 b, .slice ta ts.length cap] 105) = W := ⟨_, rfl⟩
  have hb0 : Below w.heap.size w W := by rw [← hW]; exact (Below.refl _ _).alloc (Nat.le_refl _) _
  have g0 : W.heap[w.heap.size]? = some (.cells #[.int .i64 a, .int .i64 b, .slice ta ts.length cap] 105 (0, 0)) := by rw [← hW]; exact heap_alloc_new w _
  have hlt0 := (Array.getElem?_eq_some_iff.1 g0).1
  have HC : Hid (∀ w', Below W.heap.size W w' → w'.cell? ⟨w.heap.size, 0, none⟩ = some (.int .i64 a) ∧ w'.cell? ⟨w.heap.size, 1, none⟩ = some (.int .i64 b) ∧ w'.cell? ⟨w.heap.size, 2, none⟩ = some (.slice ta ts.length cap)) := fun w' hb => ⟨cell_of ((hb.block _ hlt0).trans g0) 0, cell_of ((hb.block _ hlt0).trans g0) 1, cell_of ((hb.block _ hlt0).trans g0) 2⟩
  have hfl : fs.length = ts.length := ht.1
  have HO : Hid (∀ k (hk : k < ts.length) w', Below W.heap.size W w' → ∃ q fn caps, ta = some ⟨q, 0, none⟩ ∧ w'.cell? ⟨q, k, none⟩ = some (.func (.func fn) #[] caps) ∧ Enters Tryz.prog fn ∧ Calls Tryz.prog fn (#[.int .i64 v] ++ caps) w' fun e w2 => e = .returned (.bool (ts[k] v)) ∧ Below w'.heap.size w' w2) := fun k hk w' hb => by
    have hbw := hb0.trans (hb.mono hb0.size)
    rcases own_cells (own_below ho hbw) with ⟨_, hn⟩ | ⟨q, c2, hv, _, _, _, hc⟩
    · omega
    · injection hv with e1 _ _
      obtain ⟨fn, caps, hf, he, hcl⟩ := ht.2 k (by omega) hk
      refine ⟨q, fn, caps, e1, ?_, he, hcl w' (Kq.of_below hbw hB) v h1 h2⟩
      have := hc k fs[k] (List.getElem?_eq_getElem (by omega))
      rw [this, hf]
  have HB : Hid (Below w.heap.size w W) := hb0
  have HW : Hid (∀ w', Calls Tryz.prog 54 #[.agg #[.int .i64 a, .int .i64 b], .int .i64 v] w' fun e w2 => e = .returned (.bool (inB a b v)) ∧ Below w'.heap.size w' w2) := fun w' => withinB_any a b v w'
  obtain ⟨c0, c1, c2⟩ := HC.out W (Below.refl _ _)
  clear ho ht hb0 g0 hlt0 hfl
  unfold stVal
  go_enter Tryz.func99, Tryz.ntmps99
  go_wp2_with fail
  clear c0 c1 c2
  go_loopw [10] (fun iv wr => ∃ (k : Nat), iv = .int .i64 (k : Int) ∧ k ≤ ts.length ∧ Hid ((ts.take k).all (fun t => t v) = true) ∧ Hid (Below W.heap.size W wr)) (fun iv _ => ts.length - (intOf iv).toNat)
  case atStart => exact ⟨0, rfl, Nat.zero_le _, rfl, Below.refl _ _⟩
  case round =>
  obtain ⟨k, rfl, hk, HT, HBr⟩ := hrel
  by_cases hkn : k < ts.length
  · have hkI : (k : Int) < (ts.length : Int) := by omega
    obtain ⟨q, fn, caps, rfl, cq, he, hcl⟩ := HO.out k hkn wr HBr.out
    have HN : Hid ((ts.take (k + 1)).all (fun t => t v) = ts[k] v) := by show _ = _; rw [List.take_succ_eq_append_getElem hkn, List.all_append, HT.out]; simp
    have HN2 : Hid (ts[k] v = false → ts.all (fun t => t v) = false) := fun hf => by
      rw [← Bool.not_eq_true, List.all_eq_true]
      intro hh
      have := hh ts[k] (List.getElem_mem hkn)
      rw [hf] at this
      cases this
    obtain ⟨r, hr⟩ : ∃ r, ts[k] v = r := ⟨_, rfl⟩
    rw [hr] at hcl HN HN2
    have HCl : Hid (Calls Tryz.prog fn (#[.int .i64 v] ++ caps) wr fun e w2 => e = .returned (.bool r) ∧ Below wr.heap.size wr w2) := hcl
    unfold Enters at he
    clear hcl hr
    cases r with
    | false =>
      have HZ : Hid (ts.all (fun t => t v) = false) := HN2.out rfl
      go_wp2_with (go_at_fn fn; refine calls_at HCl.out (by with_reducible rfl) (by with_reducible rfl) ?_; rintro e w2 ⟨rfl, hb2⟩)
      go_ret
      exact ⟨ret_bool (by rw [HZ.out]; rfl), HB.out.trans ((HBr.out.trans (hb2.mono HBr.out.size)).mono HB.out.size)⟩
    | true =>
      go_wp2_with (go_at_fn fn; refine calls_at HCl.out (by with_reducible rfl) (by with_reducible rfl) ?_; rintro e w2 ⟨rfl, hb2⟩)
      go_roundw
      case rel => exact ⟨k + 1, by go_num, hkn, HN, HBr.out.trans (hb2.mono HBr.out.size)⟩
      case measure => simp [intOf]; omega
  · have hke : k = ts.length := by omega
    subst hke
    have HT2 : Hid (ts.all (fun t => t v) = true) := by have := HT.out; rw [List.take_length] at this; exact this
    have hkI : ¬ (ts.length : Int) < (ts.length : Int) := by omega
    obtain ⟨c0, c1, c2⟩ := HC.out wr HBr.out
    go_wp2_with fail
    refine calls_at (HW.out wr) (by with_reducible rfl) (by with_reducible rfl) ?_
    rintro e w2 ⟨rfl, hb2⟩
    have HB2 : Hid (Below w.heap.size w w2) := HB.out.trans ((HBr.out.trans (hb2.mono HBr.out.size)).mono HB.out.size)
    clear hb2
    go_wp2_with fail
    go_ret
    exact ⟨ret_bool (by rw [HT2.out]; rfl), HB2.out⟩
end Go.Proofs.YtlcegpnnanhloaaGreatDoor

namespace Go.Proofs.YtlcegpnnanhloaaGreatDoor
open Go.RowKit

section
variable {B lp g p : Nat} {nv mv : Value} {s : St} {S : List Sv} {w w' : World}
/-- One test more. -/
theorem LfAt.more (h : LfAt B lp g p nv mv s S w) (x : Nat) (hx : x < S.length) {f tv : Value} {t : Int → Bool} {fs : List Value} (hf : TestIs B w f t) (h1 : w.ownsRow B 58 1 S[x].tv S[x].ts.length fs) (h2 : TestsAt B w fs S[x].ts)
    (ho : w'.ownsRow B 58 1 tv (S[x].ts.length + 1) (fs ++ [f])) (hg : w.grownBy w' S[x].tv.ownBlock) (hn : tv.ownBlock = S[x].tv.ownBlock ∨ tv.ownBlock = some w.heap.size) :
    LfAt B lp g p nv mv s (S.set x ⟨S[x].lo, S[x].hi, tv, S[x].ts ++ [t]⟩) (w'.setCell ⟨g, x * 3 + 2, none⟩ tv) ∧ Kq B w (w'.setCell ⟨g, x * 3 + 2, none⟩ tv) := by
  have k0 : Kq B w w' := Kq.grown h1 hg h.size
  have row' : w'.heap[g]? = some (.cells (svs S).toArray 105 (0, 0)) := (hg.block g (Array.getElem?_eq_some_iff.1 h.row).1 (fun e => own_type h1 h.row (by decide) e.symm)).trans h.row
  have box' : w'.heap[lp]? = some (.cells #[.pointer (some ⟨p, 0, none⟩), .slice (some ⟨g, 0, none⟩) S.length S.length] 99 (0, 0)) := k0.block h.box (by decide) (by decide)
  have r1 := heap_setCell_same w' g (x * 3 + 2) _ 105 tv row'
  have k1 : Kq B w (w'.setCell ⟨g, x * 3 + 2, none⟩ tv) := k0.trans (Kq.set _ h.g1 row')
  have hne : ∀ k, k ≠ g → (w'.setCell ⟨g, x * 3 + 2, none⟩ tv).heap[k]? = w'.heap[k]? := fun k hk => heap_setCell_other _ _ _ _ hk
  have hof : Off (fun k => k = g) w' (w'.setCell ⟨g, x * 3 + 2, none⟩ tv) := ⟨by simp, fun k _ hk => hne k hk⟩
  have hget : ∀ y (hy : y < S.length) (hy' : y < (S.set x ⟨S[x].lo, S[x].hi, tv, S[x].ts ++ [t]⟩).length), y ≠ x → (S.set x ⟨S[x].lo, S[x].hi, tv, S[x].ts ++ [t]⟩)[y] = S[y] := fun y hy hy' hyx => by
    rw [List.getElem_set, if_neg (fun e => hyx e.symm)]
  have hgx : ∀ (hy' : x < (S.set x ⟨S[x].lo, S[x].hi, tv, S[x].ts ++ [t]⟩).length), (S.set x ⟨S[x].lo, S[x].hi, tv, S[x].ts ++ [t]⟩)[x] = ⟨S[x].lo, S[x].hi, tv, S[x].ts ++ [t]⟩ := fun hy' => by
    rw [List.getElem_set, if_pos rfl]
  have hlt : ∀ y (hy : y < S.length) k, S[y].tv.ownBlock = some k → k < w.heap.size := fun y hy k hk => by
    obtain ⟨fs', h3, _⟩ := h.tests y hy
    exact (h3.lt k hk).2
  refine ⟨{
    box := by rw [List.length_set, hne _ h.lr]; exact box'
    row := by
      rw [r1]
      congr 2
      rw [← svs_setT S x tv (S[x].ts ++ [t]) hx]
      simp
    tests := fun y hy => by
      have hy2 : y < S.length := by rw [List.length_set] at hy; exact hy
      by_cases e : y = x
      · subst e
        rw [hgx hy]
        refine ⟨fs ++ [f], ?_, (h2.kq k1).snoc (hf.kq k1)⟩
        rw [List.length_append]
        exact own_off (S := fun k => k = g) ho (fun k hk e => own_type ho row' (by decide) (by rw [hk, e])) hof
      · rw [hget y hy2 hy e]
        obtain ⟨fs', h3, h4⟩ := h.tests y hy2
        refine ⟨fs', ?_, h4.kq k1⟩
        have h5 : w'.ownsRow B 58 1 S[y].tv S[y].ts.length fs' := row_kept h3 (fun k hk => hg.block k (hlt y hy2 k hk) (fun e2 => h.apart y x hy2 hx e k hk e2.symm))
        exact own_off (S := fun k => k = g) h5 (fun k hk e => own_type h5 row' (by decide) (by rw [hk, e])) hof
    apart := fun y z hy hz hyz k hk hk2 => by
      have hy2 : y < S.length := by rw [List.length_set] at hy; exact hy
      have hz2 : z < S.length := by rw [List.length_set] at hz; exact hz
      by_cases e : y = x
      · subst e
        rw [hgx hy] at hk
        rw [hget z hz2 hz (fun e => hyz e.symm)] at hk2
        replace hk : tv.ownBlock = some k := hk
        rcases hn with hn | hn
        · exact h.apart y z hy2 hz2 hyz k (hn ▸ hk) hk2
        · rw [hn] at hk
          injection hk with hk
          have := hlt z hz2 k hk2
          omega
      · rw [hget y hy2 hy e] at hk
        by_cases e2 : z = x
        · subst e2
          rw [hgx hz] at hk2
          replace hk2 : tv.ownBlock = some k := hk2
          rcases hn with hn | hn
          · exact h.apart y z hy2 hz2 hyz k hk (hn ▸ hk2)
          · rw [hn] at hk2
            injection hk2 with hk2
            have := hlt y hy2 k hk
            omega
        · rw [hget z hz2 hz e2] at hk2
          exact h.apart y z hy2 hz2 hyz k hk hk2
    b0 := h.b0
    lp1 := h.lp1
    g1 := h.g1
    st := h.store k1.below
    own := h.own
    len := by rw [List.length_set]; exact h.len
    tz := h.tz.below k1.below h.b0 }, k1⟩
end

theorem und103 : Tryz.prog.underlying 103 = some (.slice 58) := by kernel_rfl
theorem info58 : (Tryz.prog.info? 58).map (fun i => (i.zero, i.size, i.bytes)) = some (some .nilFunc, 1, 8) := by kernel_rfl
/-- Some values less. -/
def someL (S : List Sv) (x : Nat) (tv : Value) (t : Int → Bool) : List Sv := match S[x]? with
  | some s => S.set x ⟨s.lo, s.hi, tv, s.ts ++ [t]⟩
  | none => S
theorem someL_eq {S : List Sv} {x : Nat} (hx : x < S.length) (tv : Value) (t : Int → Bool) : someL S x tv t = S.set x ⟨S[x].lo, S[x].hi, tv, S[x].ts ++ [t]⟩ := by
  unfold someL
  rw [List.getElem?_eq_getElem hx]
/-- What keepSome leaves. -/
def SmOut (B lp g p : Nat) (nv mv : Value) (s : St) (S : List Sv) (x : Nat) (t : Int → Bool) (w : World) (e : Ending) (w' : World) : Prop := ∃ (tv : Value), e = .returned (.tuple #[]) ∧ LfAt B lp g p nv mv s (someL S x tv t) w' ∧ Kq B w w'

set_option maxRecDepth 10000 in
set_option maxHeartbeats 1000000 in
theorem keepSome_any (B lp g p : Nat) (nv mv : Value) (s : St) (S : List Sv) (w : World) (h : LfAt B lp g p nv mv s S w) (x : Nat) (hx : x < S.length) (fn : Nat) (caps : Array Value) (t : Int → Bool) (hf : TestIs B w (.func (.func fn) #[] caps) t) (hl : S[x].ts.length ≤ 100000) : Calls Tryz.prog 83 #[.pointer (some ⟨lp, 0, none⟩), .int .i64 (x : Int), .func (.func fn) #[] caps] w (SmOut B lp g p nv mv s S x t w) := by
  have hn : S.length ≤ 32 := by rw [h.len]; obtain ⟨_, h1⟩ := h.st; exact h1.n32
  have hxI : (x : Int) < (S.length : Int) := by omega
  have HL : Hid (∀ w', Below w.heap.size w w' → LfAt B lp g p nv mv s S w') := fun w' hb => h.below hb
  have HBs : Hid (B ≤ w.heap.size) := h.size
  obtain ⟨fs, ho, hts⟩ := h.tests x hx
  obtain ⟨ta, tc, htv⟩ := own_slice ho
  obtain ⟨n, hnn⟩ : ∃ n, S[x].ts.length = n := ⟨_, rfl⟩
  have HC : Hid (∀ w', Below w.heap.size w w' → w'.cell? ⟨lp, 1, none⟩ = some (.slice (some ⟨g, 0, none⟩) S.length S.length) ∧ w'.cell? ⟨g, x * 3 + 2, none⟩ = some (.slice ta n tc)) := fun w' hb => ⟨cell_of (HL.out w' hb).box 1, by rw [← hnn, ← htv]; exact ((HL.out w' hb).cell x hx).2.2⟩
  have HOV : Hid (∀ w', Below w.heap.size w w' → w'.ownsRow B 58 1 (.slice ta n tc) n fs) := fun w' hb => by
    have := own_below ho hb
    rw [htv, hnn] at this
    exact this
  have HMo : Hid (∀ (V w2 : World) (tv : Value), Below w.heap.size w V → w2.ownsRow B 58 1 tv (n + 1) (fs ++ [.func (.func fn) #[] caps]) → V.grownBy w2 (Value.slice ta n tc).ownBlock → (tv.ownBlock = (Value.slice ta n tc).ownBlock ∨ tv.ownBlock = some V.heap.size) → LfAt B lp g p nv mv s (someL S x tv t) (w2.setCell ⟨g, x * 3 + 2, none⟩ tv) ∧ Kq B V (w2.setCell ⟨g, x * 3 + 2, none⟩ tv)) := fun V w2 tv hb h1 h2 h3 => by
    have hk := Kq.of_below hb h.size
    rw [someL_eq hx]
    rw [← hnn] at h1
    rw [← hnn, ← htv] at h2 h3
    exact (h.below hb).more x hx (hf.kq hk) (own_below ho hb) (hts.kq hk) h1 h2 h3
  have HRw : Hid (∀ (V w2 : World), Below w.heap.size w V → V.grownBy w2 (Value.slice ta n tc).ownBlock → w2.heap[g]? = some (.cells (svs S).toArray 105 (0, 0)) ∧ w2.heap[lp]? = some (.cells #[.pointer (some ⟨p, 0, none⟩), .slice (some ⟨g, 0, none⟩) S.length S.length] 99 (0, 0)) ∧ w2.cell? ⟨g, x * 3 + 2, none⟩ = some (.slice ta n tc) ∧ lp ≠ g) := fun V w2 hb h2 => by
    have hv := h.below hb
    have ho2 := own_below ho hb
    rw [← hnn, ← htv] at h2 ⊢
    have r1 : w2.heap[g]? = some (.cells (svs S).toArray 105 (0, 0)) := (h2.block g (Array.getElem?_eq_some_iff.1 hv.row).1 (fun e => own_type ho2 hv.row (by decide) e.symm)).trans hv.row
    refine ⟨r1, (Kq.grown ho2 h2 hv.size).block hv.box (by decide) (by decide), ?_, hv.lr⟩
    rw [cell_of r1]
    simpa using (svs_get S x hx).2.2
  have hln : n ≤ 100000 := by omega
  clear h hf ho hts htv hnn hl
  go_enter Tryz.func83, Tryz.ntmps83
  go_wp2_with fail
  have HB0 : Hid (Below w.heap.size w w.drew) := (Below.refl _ _).drew
  refine wp_region_T (fun w' => w'.cell? ⟨lp, 1, none⟩ = some (.slice (some ⟨g, 0, none⟩) S.length S.length)) (fun w' => w'.cell? ⟨g, x * 3 + 2, none⟩ = some (.slice ta n tc)) [18] (by kernel_rfl) (HC.out _ HB0.out) (fun hHeld => ?_)
  generalize w.drew = U at HB0 hHeld ⊢
  refine wpAnyT_takeB (i := 0) (oi := ⟨some 6, .move (.tmp 0), _, _, _, _⟩) (v := ?vR0c1x0) rfl (by kernel_rfl) (by kernel_rfl) (by kernel_rfl) (by kernel_rfl) (fun _ _ _ h => h) (Or.inl ⟨by rfl, ?hyR0c1x0⟩) (by assumption) ?restR0c1x0
  case hyR0c1x0 => (intro w hSw; (try dsimp only at hSw); go_simp; try (with_reducible rfl))
  try simp only [Act.put, List.setIfInBounds_toArray, List.set_cons_zero, List.set_cons_succ]
  refine wpAnyT_takeB (i := 1) (oi := ⟨some 7, .nilCheck (.tmp 6), _, _, _, _⟩) (v := ?vR0c1x1) rfl (by kernel_rfl) (by kernel_rfl) (by kernel_rfl) (by kernel_rfl) (fun _ _ _ h => h) (Or.inl ⟨by rfl, ?hyR0c1x1⟩) (by assumption) ?restR0c1x1
  case hyR0c1x1 => (intro w hSw; (try dsimp only at hSw); go_simp; try (with_reducible rfl))
  try simp only [Act.put, List.setIfInBounds_toArray, List.set_cons_zero, List.set_cons_succ]
  refine wpAnyT_takeB (i := 2) (oi := ⟨some 8, .fieldAddr 99 (.tmp 7) 1, _, _, _, _⟩) (v := ?vR0c1x2) rfl (by kernel_rfl) (by kernel_rfl) (by kernel_rfl) (by kernel_rfl) (fun _ _ _ h => h) (Or.inl ⟨by rfl, ?hyR0c1x2⟩) (by assumption) ?restR0c1x2
  case hyR0c1x2 => (intro w hSw; (try dsimp only at hSw); go_simp; try (with_reducible rfl))
  try simp only [Act.put, List.setIfInBounds_toArray, List.set_cons_zero, List.set_cons_succ]
  refine wpAnyT_takeB (i := 3) (oi := ⟨some 9, .load 97 (.tmp 8), _, _, _, _⟩) (v := ?vR0c1x3) rfl (by kernel_rfl) (by kernel_rfl) (by kernel_rfl) (by kernel_rfl) (fun _ _ _ h => h) (Or.inl ⟨by rfl, ?hyR0c1x3⟩) (by assumption) ?restR0c1x3
  case hyR0c1x3 => (intro w hSw; (try dsimp only at hSw); go_simp; try (with_reducible rfl))
  try simp only [Act.put, List.setIfInBounds_toArray, List.set_cons_zero, List.set_cons_succ]
  refine wpAnyT_takeB (i := 4) (oi := ⟨some 10, .move (.tmp 1), _, _, _, _⟩) (v := ?vR0c1x4) rfl (by kernel_rfl) (by kernel_rfl) (by kernel_rfl) (by kernel_rfl) (fun _ _ _ h => h) (Or.inl ⟨by rfl, ?hyR0c1x4⟩) (by assumption) ?restR0c1x4
  case hyR0c1x4 => (intro w hSw; (try dsimp only at hSw); go_simp; try (with_reducible rfl))
  try simp only [Act.put, List.setIfInBounds_toArray, List.set_cons_zero, List.set_cons_succ]
  refine wpAnyT_takeB (i := 5) (oi := ⟨some 11, .move (.tmp 0), _, _, _, _⟩) (v := ?vR0c1x5) rfl (by kernel_rfl) (by kernel_rfl) (by kernel_rfl) (by kernel_rfl) (fun _ _ _ h => h) (Or.inl ⟨by rfl, ?hyR0c1x5⟩) (by assumption) ?restR0c1x5
  case hyR0c1x5 => (intro w hSw; (try dsimp only at hSw); go_simp; try (with_reducible rfl))
  try simp only [Act.put, List.setIfInBounds_toArray, List.set_cons_zero, List.set_cons_succ]
  refine wpAnyT_takeB (i := 6) (oi := ⟨some 12, .nilCheck (.tmp 11), _, _, _, _⟩) (v := ?vR0c1x6) rfl (by kernel_rfl) (by kernel_rfl) (by kernel_rfl) (by kernel_rfl) (fun _ _ _ h => h) (Or.inl ⟨by rfl, ?hyR0c1x6⟩) (by assumption) ?restR0c1x6
  case hyR0c1x6 => (intro w hSw; (try dsimp only at hSw); go_simp; try (with_reducible rfl))
  try simp only [Act.put, List.setIfInBounds_toArray, List.set_cons_zero, List.set_cons_succ]
  refine wpAnyT_takeB (i := 7) (oi := ⟨some 13, .fieldAddr 99 (.tmp 12) 1, _, _, _, _⟩) (v := ?vR0c1x7) rfl (by kernel_rfl) (by kernel_rfl) (by kernel_rfl) (by kernel_rfl) (fun _ _ _ h => h) (Or.inl ⟨by rfl, ?hyR0c1x7⟩) (by assumption) ?restR0c1x7
  case hyR0c1x7 => (intro w hSw; (try dsimp only at hSw); go_simp; try (with_reducible rfl))
  try simp only [Act.put, List.setIfInBounds_toArray, List.set_cons_zero, List.set_cons_succ]
  refine wpAnyT_takeB (i := 8) (oi := ⟨some 14, .load 97 (.tmp 13), _, _, _, _⟩) (v := ?vR0c1x8) rfl (by kernel_rfl) (by kernel_rfl) (by kernel_rfl) (by kernel_rfl) (fun _ _ _ h => h) (Or.inl ⟨by rfl, ?hyR0c1x8⟩) (by assumption) ?restR0c1x8
  case hyR0c1x8 => (intro w hSw; (try dsimp only at hSw); go_simp; try (with_reducible rfl))
  try simp only [Act.put, List.setIfInBounds_toArray, List.set_cons_zero, List.set_cons_succ]
  refine wpAnyT_takeB (i := 9) (oi := ⟨some 15, .move (.tmp 1), _, _, _, _⟩) (v := ?vR0c1x9) rfl (by kernel_rfl) (by kernel_rfl) (by kernel_rfl) (by kernel_rfl) (fun _ _ _ h => h) (Or.inl ⟨by rfl, ?hyR0c1x9⟩) (by assumption) ?restR0c1x9
  case hyR0c1x9 => (intro w hSw; (try dsimp only at hSw); go_simp; try (with_reducible rfl))
  try simp only [Act.put, List.setIfInBounds_toArray, List.set_cons_zero, List.set_cons_succ]
  refine wpAnyT_takeB (i := 10) (oi := ⟨some 16, .indexAddr 97 (.tmp 14) (.tmp 15), _, _, _, _⟩) (v := ?vR0c1x10) rfl (by kernel_rfl) (by kernel_rfl) (by kernel_rfl) (by kernel_rfl) (fun _ _ _ h => h) (Or.inl ⟨by rfl, ?hyR0c1x10⟩) (by assumption) ?restR0c1x10
  case hyR0c1x10 => (intro w hSw; (try dsimp only at hSw); go_simp; try (with_reducible rfl))
  try simp only [Act.put, List.setIfInBounds_toArray, List.set_cons_zero, List.set_cons_succ]
  refine wpAnyT_takeB (i := 11) (oi := ⟨some 17, .fieldAddr 105 (.tmp 16) 1, _, _, _, _⟩) (v := ?vR0c1x11) rfl (by kernel_rfl) (by kernel_rfl) (by kernel_rfl) (by kernel_rfl) (fun _ _ _ h => h) (Or.inl ⟨by rfl, ?hyR0c1x11⟩) (by assumption) ?restR0c1x11
  case hyR0c1x11 => (intro w hSw; (try dsimp only at hSw); go_simp; try (with_reducible rfl))
  try simp only [Act.put, List.setIfInBounds_toArray, List.set_cons_zero, List.set_cons_succ]
  refine wpAnyT_take (i := 12) (oi := ⟨some 18, .load 103 (.tmp 17), _, _, _, _⟩) (v := ?vR0c1x12) rfl (by kernel_rfl) (by kernel_rfl) (by kernel_rfl) (by kernel_rfl) (by kernel_rfl) (fun _ _ _ h => h) (Or.inl ⟨by rfl, ?hyR0c1x12⟩) (by assumption) ?restR0c1x12
  case hyR0c1x12 => (intro w hSw; (try dsimp only at hSw); go_simp; try (with_reducible rfl))
  try simp only [Act.put, List.setIfInBounds_toArray, List.set_cons_zero, List.set_cons_succ]
  refine wpAnyT_takeB (i := 13) (oi := ⟨some 19, .move (.tmp 2), _, _, _, _⟩) (v := ?vR0c1x13) rfl (by kernel_rfl) (by kernel_rfl) (by kernel_rfl) (by kernel_rfl) (fun _ _ _ h => h) (Or.inl ⟨by rfl, ?hyR0c1x13⟩) (by assumption) ?restR0c1x13
  case hyR0c1x13 => (intro w hSw; (try dsimp only at hSw); go_simp; try (with_reducible rfl))
  try simp only [Act.put, List.setIfInBounds_toArray, List.set_cons_zero, List.set_cons_succ]
  refine wpAnyT_one (i := 14) (o := ⟨some 20, .buildSlice 103 1 #[(0, (.tmp 19))], _, _, _, _⟩) (by kernel_rfl) rfl (fun K hK => ?_)
  go_simp
  obtain ⟨V, hV⟩ : ∃ V, U.alloc (.cells #[.func (.func fn) #[] caps] 58) = V := ⟨_, rfl⟩
  have hb : Below U.heap.size U V := by rw [← hV]; exact (Below.refl _ _).alloc (Nat.le_refl _) _
  have hO : V.heap[U.heap.size]? = some (.cells #[.func (.func fn) #[] caps] 58) := by rw [← hV]; exact heap_alloc_new U _
  rw [hV]
  have HBV : Hid (Below w.heap.size w V) := bl_next HB0.out hb
  have HSc : Hid (SrcAt V (.slice (some ⟨U.heap.size, 0, none⟩) 1 1) 1 1 [.func (.func fn) #[] caps]) := src_one hO rfl
  clear hb hO hV
  refine hK.out _ _ ⟨(HC.out _ HBV.out).1, fun _ => (HC.out _ HBV.out).2⟩ ?_
  have hHeld := HC.out _ HBV.out
  clear hK K
  try simp only [Act.put, List.setIfInBounds_toArray, List.set_cons_zero, List.set_cons_succ]
  refine wpAnyT_one (i := 15) (o := ⟨some 21, .call { callee := .builtin .append, args := #[(.tmp 18), (.tmp 20)], argTypes := #[103, 103] }, _, _, _, _⟩) (by kernel_rfl) rfl (fun K hK => ?_)
  refine op_append_src V (.tmp 18) (.tmp 20) 103 58 .nilFunc 1 8 rfl und103 info58 rfl (by decide) B _ _ n 1 fs [.func (.func fn) #[] caps] (by rfl) (by rfl) (HOV.out V HBV.out) HSc.out (by unfold maxLen; omega) (by omega) (Nat.le_trans HBs.out HBV.out.size) (by rfl) ?_
  intro tv' w2 g1 g2 g3
  obtain ⟨ta2, tc2, rfl⟩ := own_slice g1
  have HM : Hid (LfAt B lp g p nv mv s (someL S x (.slice ta2 (n + 1) tc2) t) (w2.setCell ⟨g, x * 3 + 2, none⟩ (.slice ta2 (n + 1) tc2)) ∧ Kq B V (w2.setCell ⟨g, x * 3 + 2, none⟩ (.slice ta2 (n + 1) tc2))) := HMo.out V w2 _ HBV.out g1 g2 g3
  obtain ⟨q1, q2, d2, q4⟩ := HRw.out V w2 HBV.out g2
  have d1 : w2.cell? ⟨lp, 1, none⟩ = some (.slice (some ⟨g, 0, none⟩) S.length S.length) := cell_of q2 1
  have dz : ∀ i, w2.frozen? ⟨g, i, none⟩ = false := frozen_of q1
  have HFr : Hid (∀ v : Value, (w2.setCell ⟨g, x * 3 + 2, none⟩ v).cell? ⟨lp, 1, none⟩ = some (.slice (some ⟨g, 0, none⟩) S.length S.length)) := fun v => cell_of ((heap_setCell_other _ _ _ _ q4).trans q2) 1
  clear g1 g2 g3 q1 q2 q4 hHeld
  refine hK.out _ _ ⟨d1, fun _ => d2⟩ ?_
  have hHeld := (⟨d1, d2⟩ : _ ∧ _)
  clear hK K
  try simp only [Act.put, List.setIfInBounds_toArray, List.set_cons_zero, List.set_cons_succ]
  refine wpAnyT_takeB (i := 16) (oi := ⟨some 22, .indexAddr 97 (.tmp 9) (.tmp 10), _, _, _, _⟩) (v := ?vR0c1x16) rfl (by kernel_rfl) (by kernel_rfl) (by kernel_rfl) (by kernel_rfl) (fun _ _ _ h => h) (Or.inl ⟨by rfl, ?hyR0c1x16⟩) (by assumption) ?restR0c1x16
  case hyR0c1x16 => (intro w hSw; (try dsimp only at hSw); go_simp; try (with_reducible rfl))
  try simp only [Act.put, List.setIfInBounds_toArray, List.set_cons_zero, List.set_cons_succ]
  refine wpAnyT_takeB (i := 17) (oi := ⟨some 23, .fieldAddr 105 (.tmp 22) 1, _, _, _, _⟩) (v := ?vR0c1x17) rfl (by kernel_rfl) (by kernel_rfl) (by kernel_rfl) (by kernel_rfl) (fun _ _ _ h => h) (Or.inl ⟨by rfl, ?hyR0c1x17⟩) (by assumption) ?restR0c1x17
  case hyR0c1x17 => (intro w hSw; (try dsimp only at hSw); go_simp; try (with_reducible rfl))
  try simp only [Act.put, List.setIfInBounds_toArray, List.set_cons_zero, List.set_cons_succ]
  refine wpAnyT_late (i := 18) (o := ⟨none, .store 103 (.tmp 23) (.tmp 21), _, _, _, _⟩) (by kernel_rfl) rfl (by kernel_rfl) (fun K hK => ?_)
  go_simp
  refine hK.out _ _ ?shR0c1x18 ?restR0c1x18
  case shR0c1x18 => ((try dsimp only); exact (HFr.out _))
  clear hK K
  try simp only [Act.put, List.setIfInBounds_toArray, List.set_cons_zero, List.set_cons_succ]
  refine wpAnyT_done (by kernel_rfl) ?_ _
  go_wp2_with fail
  go_end0
  exact ⟨_, rfl, HM.out.1, (Kq.of_below HBV.out HBs.out).trans HM.out.2⟩
end Go.Proofs.YtlcegpnnanhloaaGreatDoor
