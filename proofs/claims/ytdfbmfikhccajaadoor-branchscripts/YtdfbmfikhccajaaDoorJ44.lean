/-
  Put together: PpFine, BrMath.
-/
import Derived.Test.YtdfbmfikhccajaaDoorJ37
import Derived.Test.YtdfbmfikhccajaaDoorPpBitN
import Derived.Test.YtdfbmfikhccajaaDoorDmOrdM
import Derived.Test.YtdfbmfikhccajaaDoorDmNew
import Derived.Test.YtdfbmfikhccajaaDoorDmOpen
namespace Go.Proofs.YtdfbmfikhccajaaDoor
open Go.RowKit

theorem w_nat {a : Int} (h : IsW a) : a.toNat < 2 ^ 32 ∧ (a.toNat : Int) = a := by
  have := h.1
  have := h.2
  omega
theorem w_zero {a : Int} (h : IsW a) (h0 : a ≠ 0) : ∃ j : Nat, j < 32 ∧ wb a j = true := by
  obtain ⟨h1, h2⟩ := w_nat h
  obtain ⟨i, hi⟩ := Nat.exists_testBit_of_ne_zero (x := a.toNat) (by omega)
  refine ⟨i, ?_, hi⟩
  rcases Nat.lt_or_ge i 32 with h3 | h3
  · exact h3
  · rw [Nat.testBit_lt_two_pow (Nat.lt_of_lt_of_le h1 (Nat.pow_le_pow_right (by decide) h3))] at hi; cases hi
theorem deB_two : ∀ j : Fin 32, deB.getD (2 ^ j.val * 125613361 % 4294967296 / 134217728) 0 = (j.val : Int) := by decide +kernel
theorem ntz_is {a : Int} (h : IsW a) (h0 : a ≠ 0) : ∃ j : Nat, j < 32 ∧ ntz a = (j : Int) ∧ wb a j = true ∧ ∀ k : Nat, k < j → wb a k = false := by
  obtain ⟨i, hi, hb⟩ := w_zero h h0
  obtain ⟨h1, h2⟩ := w_nat h
  obtain ⟨j, hj, hj1, hj2⟩ := PpN.first_of (wb a) 32 i hi hb
  refine ⟨j, by omega, ?_, hj1, hj2⟩
  have e := PpN.low_bit a.toNat j h1 hj1 hj2
  have hpos : 0 < a := by have := h.1; omega
  have hlt := h.2
  have e2 : bits .and .u32 a (4294967296 - a) = ((2 ^ j : Nat) : Int) := by
    rw [u32_and a (4294967296 - a) h.1 h.2 (by omega) (by omega)]
    rw [show (4294967296 - a).toNat = 2 ^ 32 - a.toNat by omega, e]
  unfold ntz
  rw [if_neg h0]
  have e3 : (ntzI a).toNat = 2 ^ j * 125613361 % 4294967296 / 134217728 := by
    unfold ntzI
    rw [e2]
    generalize 2 ^ j = P
    have e9 : (P : Int) * 125613361 % 4294967296 / 134217728 = ((P * 125613361 % 4294967296 / 134217728 : Nat) : Int) := by rw [Int.natCast_ediv, Int.natCast_emod, Int.natCast_mul]; rfl
    rw [e9, Int.toNat_natCast]
  rw [e3]
  exact deB_two ⟨j, by omega⟩
theorem ones_is {a : Int} (h : IsW a) : ones a = (PpN.cnt (wb a) 32 : Int) := by
  obtain ⟨h1, h2⟩ := w_nat h
  have e := PpN.ones_cnt a.toNat h1
  have e1 : ((a.toNat / 2 ^ 24 : Nat) : Int) = a / 16777216 := by omega
  have e2 : ((a.toNat / 2 ^ 16 % 256 : Nat) : Int) = a / 65536 % 256 := by omega
  have e3 : ((a.toNat / 2 ^ 8 % 256 : Nat) : Int) = a / 256 % 256 := by omega
  have e4 : ((a.toNat % 256 : Nat) : Int) = a % 256 := by omega
  rw [e1, e2, e3, e4] at e
  exact e
theorem high_is {a : Int} (h : IsW a) (h0 : a ≠ 0) : ∃ j : Nat, j < 32 ∧ (Lib.bitLen a.toNat : Int) - 1 = (j : Int) ∧ wb a j = true ∧ ∀ k : Nat, j < k → wb a k = false := by
  obtain ⟨h1, h2⟩ := w_nat h
  obtain ⟨a1, a2, a3, a4⟩ := PpN.high_bit a.toNat h1 (by omega)
  exact ⟨Lib.bitLen a.toNat - 1, by omega, by omega, a3, fun k hk => a4 k (by omega)⟩
theorem bt_lo (a b : Int) {k : Nat} (h : k < 32) : bt a b k = wb a k := by unfold bt; rw [if_pos h]
theorem bt_hi (a b : Int) (k : Nat) : bt a b (32 + k) = wb b k := by
  unfold bt
  rw [if_neg (by omega)]
  congr 1
  omega
/-- A set that isn't empty: its least place. -/
theorem bLow_is {a b : Int} (ha : IsW a) (hb : IsW b) (h : ∃ k : Nat, k < 64 ∧ bt a b k = true) : ∃ j : Nat, j < 64 ∧ bLow a b = (j : Int) ∧ bt a b j = true ∧ ∀ k : Nat, k < j → bt a b k = false := by
  unfold bLow
  by_cases h0 : a = 0
  · have hz : ∀ k, k < 32 → bt a b k = false := fun k hk => by
      rw [bt_lo a b hk, h0]
      show (0 : Int).toNat.testBit k = false
      exact Nat.zero_testBit k
    by_cases h1 : b = 0
    · obtain ⟨k, hk, hb2⟩ := h
      rcases Nat.lt_or_ge k 32 with h3 | h3
      · rw [hz k h3] at hb2; cases hb2
      · obtain ⟨m, rfl⟩ : ∃ m, k = 32 + m := ⟨k - 32, by omega⟩
        rw [bt_hi, h1] at hb2
        have : (0 : Int).toNat.testBit m = true := hb2
        rw [show (0 : Int).toNat = 0 from rfl, Nat.zero_testBit] at this
        cases this
    · obtain ⟨j, hj, e, h3, h4⟩ := ntz_is hb h1
      rw [if_neg (by simpa using h0), if_pos h1, e]
      refine ⟨32 + j, by omega, by omega, by rw [bt_hi]; exact h3, fun k hk => ?_⟩
      rcases Nat.lt_or_ge k 32 with h5 | h5
      · exact hz k h5
      · obtain ⟨m, rfl⟩ : ∃ m, k = 32 + m := ⟨k - 32, by omega⟩
        rw [bt_hi]
        exact h4 m (by omega)
  · obtain ⟨j, hj, e, h3, h4⟩ := ntz_is ha h0
    rw [if_pos h0, e]
    exact ⟨j, by omega, rfl, by rw [bt_lo a b hj]; exact h3, fun k hk => by rw [bt_lo a b (by omega)]; exact h4 k hk⟩
theorem bHigh_is {a b : Int} (ha : IsW a) (hb : IsW b) (h : ∃ k : Nat, k < 64 ∧ bt a b k = true) : ∃ j : Nat, j < 64 ∧ bHigh a b = (j : Int) ∧ bt a b j = true ∧ ∀ k : Nat, j < k → k < 64 → bt a b k = false := by
  unfold bHigh
  by_cases h1 : b = 0
  · have hz : ∀ k, bt a b (32 + k) = false := fun k => by
      rw [bt_hi, h1]
      show (0 : Int).toNat.testBit k = false
      exact Nat.zero_testBit k
    by_cases h0 : a = 0
    · obtain ⟨k, hk, hb2⟩ := h
      rcases Nat.lt_or_ge k 32 with h3 | h3
      · rw [bt_lo a b h3, h0] at hb2
        have : (0 : Int).toNat.testBit k = true := hb2
        rw [show (0 : Int).toNat = 0 from rfl, Nat.zero_testBit] at this
        cases this
      · obtain ⟨m, rfl⟩ : ∃ m, k = 32 + m := ⟨k - 32, by omega⟩
        rw [hz m] at hb2; cases hb2
    · obtain ⟨j, hj, e, h3, h4⟩ := high_is ha h0
      rw [if_neg (by simpa using h1), if_pos h0, e]
      refine ⟨j, by omega, rfl, by rw [bt_lo a b hj]; exact h3, fun k hk hk2 => ?_⟩
      rcases Nat.lt_or_ge k 32 with h5 | h5
      · rw [bt_lo a b h5]
        exact h4 k hk
      · obtain ⟨m, rfl⟩ : ∃ m, k = 32 + m := ⟨k - 32, by omega⟩
        exact hz m
  · obtain ⟨j, hj, e, h3, h4⟩ := high_is hb h1
    rw [if_pos h1]
    refine ⟨32 + j, by omega, by omega, by rw [bt_hi]; exact h3, fun k hk hk2 => ?_⟩
    obtain ⟨m, rfl⟩ : ∃ m, k = 32 + m := ⟨k - 32, by omega⟩
    rw [bt_hi]
    exact h4 m (by omega)
theorem bSize_is {a b : Int} (ha : IsW a) (hb : IsW b) : bSize a b = (PpN.cnt (bt a b) 64 : Int) := by
  unfold bSize
  rw [ones_is ha, ones_is hb, show (64 : Nat) = 32 + 32 by decide, PpN.cnt_add]
  have e1 : PpN.cnt (bt a b) 32 = PpN.cnt (wb a) 32 := PpN.cnt_congr fun k hk => bt_lo a b hk
  have e2 : PpN.cnt (fun k => bt a b (32 + k)) 32 = PpN.cnt (wb b) 32 := PpN.cnt_congr fun k _ => bt_hi a b k
  rw [e1, e2]
  omega
/-- It isn't empty. -/
def Dm.Any (d : Dm) : Prop := ∃ k : Nat, k < 64 ∧ bt d.a d.b k = true
theorem Dm.has_is {d : Dm} (h : d.Ok) (v : Int) : d.has v = true ↔ ∃ k : Nat, k < 64 ∧ v = d.f + (k : Int) ∧ bt d.a d.b k = true := by
  unfold Dm.has dHas
  constructor
  · intro hh
    have h0 : 0 ≤ dPlc d.f v ∧ dPlc d.f v < 64 := by
      unfold btAt at hh
      simp only [Bool.and_eq_true, decide_eq_true_eq] at hh
      exact hh.1
    obtain ⟨k, hk⟩ : ∃ k : Nat, dPlc d.f v = (k : Int) := ⟨(dPlc d.f v).toNat, by omega⟩
    rw [hk] at hh h0
    rw [btAt_bt h.a h.b k (by omega)] at hh
    refine ⟨k, by omega, ?_, hh⟩
    unfold dPlc at hk
    omega
  · rintro ⟨k, hk, rfl, hb⟩
    have e : dPlc d.f (d.f + (k : Int)) = (k : Int) := by unfold dPlc; omega
    rw [e, btAt_bt h.a h.b k hk]
    exact hb
theorem fine_of {d : Dm} (h : d.Ok) (hs : d.Any) : d.Fine := by
  obtain ⟨l, l1, l2, l3, l4⟩ := bLow_is h.a h.b hs
  obtain ⟨g, g1, g2, g3, g4⟩ := bHigh_is h.a h.b hs
  have el : d.lo = d.f + (l : Int) := by unfold Dm.lo; rw [l2]
  have eg : d.hi = d.f + (g : Int) := by unfold Dm.hi; rw [g2]
  have hl : d.has d.lo = true := (d.has_is h _).2 ⟨l, l1, el, l3⟩
  have hg : d.has d.hi = true := (d.has_is h _).2 ⟨g, g1, eg, g3⟩
  have least : ∀ v, d.has v = true → d.lo ≤ v := fun v hv => by
    obtain ⟨k, hk, rfl, hb⟩ := (d.has_is h v).1 hv
    rcases Nat.lt_or_ge k l with hlt | hge
    · rw [l4 k hlt] at hb; cases hb
    · omega
  have most : ∀ v, d.has v = true → v ≤ d.hi := fun v hv => by
    obtain ⟨k, hk, rfl, hb⟩ := (d.has_is h v).1 hv
    rcases Nat.lt_or_ge g k with hlt | hge
    · rw [g4 k hlt hk] at hb; cases hb
    · omega
  have hsz : d.size = (PpN.cnt (bt d.a d.b) 64 : Int) := bSize_is h.a h.b
  have h1 := h.f1
  have h2 := h.f2
  refine ⟨hl, hg, least, most, ?_, ?_, ?_, ?_, by omega, by omega⟩
  · unfold Dm.one
    rw [decide_eq_true_eq, hsz]
    constructor
    · intro hc
      have hle := least _ hg
      rcases Nat.lt_or_ge l g with hlt | hge
      · have := PpN.cnt_two hlt g1 l3 g3
        omega
      · omega
    · intro he
      have hlg : l = g := by omega
      have := PpN.cnt_one (p := bt d.a d.b) (n := 64) fun i j hij hj hi => by
        rcases Nat.lt_or_ge i l with hlt | hge
        · rw [l4 i hlt] at hi; cases hi
        · exact g4 j (by omega) hj
      omega
  · rw [hsz]
    have := PpN.cnt_pos l1 l3
    omega
  · intro v
    unfold Dm.all dAll dVals
    rw [List.mem_filter, List.mem_map]
    constructor
    · exact fun hh => hh.2
    · intro hv
      refine ⟨⟨(v - d.lo).toNat, ?_, ?_⟩, hv⟩
      · rw [List.mem_range]
        have := most v hv
        have := least v hv
        unfold dN
        unfold Dm.lo Dm.hi at *
        omega
      · have := least v hv
        unfold Dm.lo at *
        omega
  · unfold Dm.all dAll dVals
    refine List.Pairwise.sublist List.filter_sublist ?_
    rw [List.pairwise_map]
    exact List.pairwise_lt_range.imp fun {a b} hab => by omega

/-! Stores. -/
def Alls (s : St) : Prop := ∀ d ∈ s.now, d.Ok ∧ d.Any
theorem any_new {v : Md.Vr} (h : Md.boundsB v.lo v.hi = true) : (wholeD v).Any := by
  have hb := Md.bounds_of h
  refine ⟨0, by omega, ?_⟩
  show bt (wWd v.lo v.hi 0) (wWd v.lo v.hi 1) 0 = true
  rw [bt_whole v.lo v.hi 0 (by omega)]
  simp
  omega
theorem alls_new (m : Md.Mo) : Alls (newS m) := by
  intro d hd
  unfold newS at hd
  split at hd
  · rename_i h
    obtain ⟨v, hv, rfl⟩ := List.mem_map.1 hd
    exact ⟨wholeD_ok ((Md.right_of h).var v hv).2, any_new ((Md.right_of h).var v hv).2⟩
  · cases hd
theorem any_words {d : Dm} (h : d.Ok) (h0 : d.eqB ⟨0, 0, 0⟩ = false) : d.Any := by
  unfold Dm.eqB at h0
  by_cases ha : d.a = 0
  · have hb : d.b ≠ 0 := fun e => by
      rw [ha, e] at h0
      simp at h0
    obtain ⟨j, hj, hw⟩ := w_zero h.b hb
    exact ⟨32 + j, by omega, by rw [bt_hi]; exact hw⟩
  · obtain ⟨j, hj, hw⟩ := w_zero h.a ha
    exact ⟨j, by omega, by rw [bt_lo _ _ hj]; exact hw⟩
theorem cut_get {s : St} (k x v : Int) (y : Nat) (hy : y < s.now.length) : ∃ h2 : y < (s.cut k x v).now.length, (s.cut k x v).now[y] = s.now[y] ∨ ((s.cut k x v).now[y] = s.now[y].cut k v ∧ s.now[y].went k v = true) := by
  unfold St.cut
  split
  · exact ⟨hy, .inl rfl⟩
  · rename_i d hd
    split
    · rename_i hw
      rw [Bool.and_eq_true] at hw
      refine ⟨by simpa using hy, ?_⟩
      by_cases e : x.toNat = y
      · subst e
        rw [List.getElem?_eq_getElem hy] at hd
        injection hd with hd
        refine .inr ⟨?_, by rw [hd]; exact hw.2⟩
        simp [hd]
      · refine .inl ?_
        simp [e]
    · exact ⟨hy, .inl rfl⟩
theorem alls_cut {s : St} (h : Alls s) (k x v : Int) : Alls (s.cut k x v) := by
  intro d hd
  obtain ⟨y, hy, rfl⟩ := List.mem_iff_getElem.1 hd
  have hl : y < s.now.length := by
    have : (s.cut k x v).now.length = s.now.length := by
      unfold St.cut
      split
      · rfl
      · split
        · simp
        · rfl
    omega
  obtain ⟨_, h3 | ⟨h3, h4⟩⟩ := cut_get (s := s) k x v y hl
  · rw [h3]
    exact h _ (List.getElem_mem hl)
  · rw [h3]
    have ho := (h _ (List.getElem_mem hl)).1.cut k v
    refine ⟨ho, any_words ho ?_⟩
    unfold Dm.went at h4
    simp at h4
    exact h4.2
theorem stcut_len (s : St) (k x v : Int) : (s.cut k x v).now.length = s.now.length := by
  unfold St.cut
  split
  · rfl
  · split
    · simp
    · rfl
theorem cut_fewer {d : Dm} (h : d.Ok) (k v : Int) (u : Int) (hu : (d.cut k v).has u = true) : d.has u = true ∧ takesB k v u = false := by
  obtain ⟨j, hj, rfl, hb⟩ := (Dm.has_is (h.cut k v) u).1 hu
  have hb : bt (lWd (dPlc d.f v) k d.a 0) (lWd (dPlc d.f v) k d.b 1) j = true := hb
  rw [bt_cut h.a h.b k v j hj] at hb
  simp at hb
  exact ⟨(Dm.has_is h _).2 ⟨j, hj, rfl, hb.1⟩, hb.2⟩
theorem cut_has {d : Dm} (h : d.Ok) (k v : Int) (u : Int) (hu : d.has u = true) (ht : takesB k v u = false) : (d.cut k v).has u = true := by
  obtain ⟨j, hj, rfl, hb⟩ := (Dm.has_is h u).1 hu
  refine (Dm.has_is (h.cut k v) _).2 ⟨j, hj, rfl, ?_⟩
  show bt (lWd (dPlc d.f v) k d.a 0) (lWd (dPlc d.f v) k d.b 1) j = true
  rw [bt_cut h.a h.b k v j hj, hb, ht]
  rfl
theorem new_has {v : Md.Vr} (h : Md.boundsB v.lo v.hi = true) (u : Int) : (wholeD v).has u = true ↔ v.lo ≤ u ∧ u ≤ v.hi := by
  have hb := Md.bounds_of h
  rw [Dm.has_is (wholeD_ok h)]
  constructor
  · rintro ⟨k, hk, e, h2⟩
    have h2 : bt (wWd v.lo v.hi 0) (wWd v.lo v.hi 1) k = true := h2
    rw [bt_whole v.lo v.hi k hk] at h2
    have := of_decide_eq_true h2
    have e : u = v.lo + (k : Int) := e
    omega
  · rintro ⟨h1, h2⟩
    refine ⟨(u - v.lo).toNat, by omega, ?_, ?_⟩
    · show u = v.lo + _
      omega
    · show bt (wWd v.lo v.hi 0) (wWd v.lo v.hi 1) _ = true
      rw [bt_whole v.lo v.hi _ (by omega)]
      exact decide_eq_true (by omega)
end Go.Proofs.YtdfbmfikhccajaaDoor

namespace Go.Proofs.YtdfbmfikhccajaaDoor
open Go.RowKit

theorem open_at {L : List Dm} {i : Nat} (hi : i < (openL L L.length).length) : ∃ (x : Nat) (hx : x < L.length), (openL L L.length)[i] = (x : Int) ∧ 1 < bSize L[x].a L[x].b := by
  have hm : (openL L L.length)[i] ∈ openL L L.length := List.getElem_mem hi
  generalize (openL L L.length)[i] = y at hm
  unfold openL at hm
  obtain ⟨x, hx, rfl⟩ := List.mem_map.1 hm
  obtain ⟨h1, h2⟩ := List.mem_filter.1 hx
  have hxl : x < L.length := List.mem_range.1 h1
  refine ⟨x, hxl, rfl, ?_⟩
  rw [List.getElem?_eq_getElem hxl] at h2
  simpa using h2
theorem lo_hi {d : Dm} (h : d.Ok) (ha : d.Any) (hz : 1 < bSize d.a d.b) : d.lo < d.hi := by
  have hf := fine_of h ha
  have h1 := hf.most _ hf.loIn
  have h2 : d.lo ≠ d.hi := fun e => by
    have := hf.one.2 e
    unfold Dm.one Dm.size at this
    have := of_decide_eq_true this
    omega
  omega
end Go.Proofs.YtdfbmfikhccajaaDoor
