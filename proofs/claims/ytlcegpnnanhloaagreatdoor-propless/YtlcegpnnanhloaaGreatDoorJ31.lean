/-
  Put together: DmOrdM, DmCuts, PpSpan, PpFineD, PpKeep.
-/
import Derived.Test.YtlcegpnnanhloaaGreatDoorJ30
import Derived.Laws.BitsAllLaws
import Derived.Deep.RegionHeld3
import Derived.Test.YtlcegpnnanhloaaGreatDoorMdRegU
namespace Go.Proofs.YtlcegpnnanhloaaGreatDoor
open Go.RowKit

/-- A word's bit. -/
def wb (x : Int) (j : Nat) : Bool := x.toNat.testBit j
theorem wb_ext {x y : Int} (hx : IsW x) (hy : IsW y) (h : ∀ j, j < 32 → wb x j = wb y j) : x = y := by
  have e : x.toNat = y.toNat := Nat.eq_of_testBit_eq fun j => by
    rcases Nat.lt_or_ge j 32 with hj | hj
    · exact h j hj
    · have p : 4294967296 ≤ 2 ^ j := by
        have := Nat.pow_le_pow_right (n := 2) (by decide) hj
        simpa using this
      rw [Nat.testBit_lt_two_pow (by have := hx.2; have := hx.1; omega), Nat.testBit_lt_two_pow (by have := hy.2; have := hy.1; omega)]
  have := hx.1
  have := hy.1
  omega
theorem wb_and {x y : Int} (hx : IsW x) (hy : IsW y) (j : Nat) : wb (bits .and .u32 x y) j = (wb x j && wb y j) := by
  unfold wb
  rw [u32_and x y hx.1 hx.2 hy.1 hy.2, Int.toNat_natCast, Nat.testBit_and]
theorem wb_less {x y : Int} (hx : IsW x) (hy : IsW y) (j : Nat) (hj : j < 32) : wb (bits .andNot .u32 x y) j = (wb x j && !wb y j) := by
  unfold wb
  rw [u32_andNot x y hx.1 hx.2 hy.1 hy.2, Int.toNat_natCast, Nat.testBit_and]
  congr 1
  have h := Nat.testBit_two_pow_sub_succ (n := 32) (x := y.toNat) (by have := hy.2; have := hy.1; omega) j
  rw [show 4294967295 - y.toNat = 2 ^ 32 - (y.toNat + 1) by omega, h]
  simp [hj]
theorem wb_from (k i : Int) (j : Nat) (hj : j < 32) : wb (fWd k i) j = decide (k - i * 32 ≤ (j : Int)) := by
  unfold wb fWd
  obtain ⟨s, hs, hs2⟩ : ∃ s : Nat, (fCl (k - i * 32)).toNat = s ∧ (s ≤ j ↔ k - i * 32 ≤ (j : Int)) := by
    refine ⟨_, rfl, ?_⟩
    unfold fCl
    split
    · split at * <;> omega
    · split at * <;> omega
  rw [hs]
  have e : ((4294967295 : Int) * 2 ^ s % 4294967296).toNat = (4294967295 * 2 ^ s) % 2 ^ 32 := by
    have : ((4294967295 : Int) * 2 ^ s % 4294967296) = (((4294967295 * 2 ^ s) % 2 ^ 32 : Nat) : Int) := by
      rw [Int.natCast_emod, Int.natCast_mul, Int.natCast_pow]
      rfl
    rw [this, Int.toNat_natCast]
  rw [e, Nat.testBit_mod_two_pow, Nat.testBit_mul_two_pow]
  have h1 : (4294967295 : Nat).testBit (j - s) = true := by
    have := Nat.testBit_two_pow_sub_one 32 (j - s)
    rw [show (4294967295 : Nat) = 2 ^ 32 - 1 by decide, this]
    simp
    omega
  rw [h1]
  simp [hj, hs2]
/-- A place of a set. -/
def bt (a b : Int) (k : Nat) : Bool := if k < 32 then wb a k else wb b (k - 32)
theorem wb_at {x : Int} (hx : IsW x) (j : Nat) : (bits .and .u32 (x / 2 ^ j) 1 == 1) = wb x j := by
  have hp : (0 : Int) < 2 ^ j := Int.pow_pos (by decide)
  have h1 : 0 ≤ x / 2 ^ j := Int.ediv_nonneg hx.1 (Int.le_of_lt hp)
  have h2 : x / 2 ^ j < 4294967296 := Int.lt_of_le_of_lt (Int.ediv_le_self _ hx.1) hx.2
  rw [u32_and _ 1 h1 h2 (by decide) (by decide)]
  unfold wb
  obtain ⟨n, rfl⟩ : ∃ n : Nat, x = (n : Int) := ⟨x.toNat, by have := hx.1; omega⟩
  have e : ((n : Int) / 2 ^ j).toNat = n / 2 ^ j := by
    have : ((n : Int) / 2 ^ j) = ((n / 2 ^ j : Nat) : Int) := by rw [Int.natCast_ediv, Int.natCast_pow]; rfl
    rw [this, Int.toNat_natCast]
  rw [e, Int.toNat_natCast, Nat.testBit_eq_decide_div_mod_eq, show (1 : Int).toNat = 1 from rfl, Nat.and_one_is_mod]
  have hm : n / 2 ^ j % 2 = 0 ∨ n / 2 ^ j % 2 = 1 := by omega
  rcases hm with h | h <;> simp [h]
theorem btAt_bt {a b : Int} (ha : IsW a) (hb : IsW b) (k : Nat) (hk : k < 64) : btAt a b (k : Int) = bt a b k := by
  unfold btAt bt
  have h0 : (0 : Int) ≤ (k : Int) := by omega
  have h1 : (k : Int) < 64 := by omega
  simp only [h0, h1, decide_true, Bool.true_and]
  by_cases h : k < 32
  · have e : ((k : Int) % 32).toNat = k := by omega
    rw [if_pos (by omega), if_pos h, e]
    exact wb_at ha k
  · have e : ((k : Int) % 32).toNat = k - 32 := by omega
    rw [if_neg (by omega), if_neg h, e]
    exact wb_at hb (k - 32)
theorem bt_ext {a b c d : Int} (ha : IsW a) (hb : IsW b) (hc : IsW c) (hd : IsW d) (h : ∀ k, k < 64 → bt a b k = bt c d k) : a = c ∧ b = d := by
  refine ⟨wb_ext ha hc fun j hj => ?_, wb_ext hb hd fun j hj => ?_⟩
  · have := h j (by omega)
    unfold bt at this
    rwa [if_pos hj, if_pos hj] at this
  · have := h (j + 32) (by omega)
    unfold bt at this
    rw [if_neg (by omega), if_neg (by omega), show j + 32 - 32 = j by omega] at this
    exact this
theorem bt_from (q : Int) (k : Nat) (hk : k < 64) : bt (fWd q 0) (fWd q 1) k = decide (q ≤ (k : Int)) := by
  unfold bt
  split
  · rename_i h
    rw [wb_from q 0 k h]
    congr 1
    exact propext (by omega)
  · rename_i h
    rw [wb_from q 1 (k - 32) (by omega)]
    congr 1
    exact propext (by omega)
theorem bt_and {a b c d : Int} (ha : IsW a) (hb : IsW b) (hc : IsW c) (hd : IsW d) (k : Nat) : bt (bits .and .u32 a c) (bits .and .u32 b d) k = (bt a b k && bt c d k) := by
  unfold bt
  split
  · exact wb_and ha hc k
  · exact wb_and hb hd (k - 32)
theorem bt_less {a b c d : Int} (ha : IsW a) (hb : IsW b) (hc : IsW c) (hd : IsW d) (k : Nat) (hk : k < 64) : bt (bits .andNot .u32 a c) (bits .andNot .u32 b d) k = (bt a b k && !bt c d k) := by
  unfold bt
  split
  · rename_i h
    exact wb_less ha hc k h
  · exact wb_less hb hd (k - 32) (by omega)
/-- Does a cut take a value? -/
def takesB (kind cv v : Int) : Bool := (kind == 1 && decide (v < cv)) || (kind == 2 && decide (cv < v)) || (kind == 3 && v == cv)
theorem bt_cut {f a b : Int} (ha : IsW a) (hb : IsW b) (kind cv : Int) (k : Nat) (hk : k < 64) : bt (lWd (dPlc f cv) kind a 0) (lWd (dPlc f cv) kind b 1) k = (bt a b k && !takesB kind cv (f + (k : Int))) := by
  have w0 := isW_fWd
  unfold lWd takesB
  by_cases h1 : kind = 1
  · subst h1
    rw [if_pos rfl, if_pos rfl, bt_and ha hb (w0 _ _) (w0 _ _), bt_from _ k hk]
    congr 1
    have : (dPlc f cv ≤ (k : Int)) ↔ ¬ (f + (k : Int) < cv) := by unfold dPlc; omega
    by_cases h : dPlc f cv ≤ (k : Int)
    · simp [h, this.1 h]
    · have h2 : f + (k : Int) < cv := by
        rcases Int.lt_or_le (f + (k : Int)) cv with h3 | h3
        · exact h3
        · exact absurd (this.2 (by omega)) h
      simp [h, h2]
  by_cases h2 : kind = 2
  · subst h2
    rw [if_neg (by decide), if_pos rfl, if_neg (by decide), if_pos rfl, bt_less ha hb (w0 _ _) (w0 _ _) k hk, bt_from _ k hk]
    congr 1
    have : (dPlc f cv + 1 ≤ (k : Int)) ↔ (cv < f + (k : Int)) := by unfold dPlc; omega
    by_cases h : dPlc f cv + 1 ≤ (k : Int)
    · simp [h, this.1 h]
    · have h3 : ¬ cv < f + (k : Int) := fun e => h (this.2 e)
      simp [h, h3]
  by_cases h3 : kind = 3
  · subst h3
    rw [if_neg (by decide), if_neg (by decide), if_pos rfl, if_neg (by decide), if_neg (by decide), if_pos rfl]
    unfold oWd
    rw [bt_less ha hb (isW_bits _ _ _) (isW_bits _ _ _) k hk, bt_less (w0 _ _) (w0 _ _) (w0 _ _) (w0 _ _) k hk, bt_from _ k hk, bt_from _ k hk]
    congr 1
    have : (dPlc f cv ≤ (k : Int) ∧ ¬ dPlc f cv + 1 ≤ (k : Int)) ↔ f + (k : Int) = cv := by unfold dPlc; omega
    by_cases h : f + (k : Int) = cv
    · have h4 := this.2 h
      simp [h, h4.1, h4.2]
    · by_cases h5 : dPlc f cv ≤ (k : Int)
      · have h6 : dPlc f cv + 1 ≤ (k : Int) := by
          rcases Int.lt_or_le (k : Int) (dPlc f cv + 1) with h7 | h7
          · exact absurd (this.1 ⟨h5, by omega⟩) h
          · exact h7
        simp [h, h5, h6]
      · simp [h, h5]
  · rw [if_neg h1, if_neg h2, if_neg h3, if_neg h1, if_neg h2, if_neg h3]
    simp [h1, h2, h3]
theorem bt_whole (lo hi : Int) (k : Nat) (hk : k < 64) : bt (wWd lo hi 0) (wWd lo hi 1) k = decide ((k : Int) ≤ hi - lo) := by
  have w0 := isW_fWd
  unfold wWd
  rw [bt_less (w0 _ _) (w0 _ _) (w0 _ _) (w0 _ _) k hk, bt_from _ k hk, bt_from _ k hk]
  have h0 : (0 : Int) ≤ (k : Int) := by omega
  by_cases h : (k : Int) ≤ hi - lo
  · have : ¬ hi - lo + 1 ≤ (k : Int) := by omega
    simp [h, h0, this]
  · have : hi - lo + 1 ≤ (k : Int) := by omega
    simp [h, h0, this]
/-- A cut of a script. -/
structure Ct where
  k : Int
  x : Int
  v : Int
theorem Dm.ext {d e : Dm} (h1 : d.f = e.f) (h2 : d.a = e.a) (h3 : d.b = e.b) : d = e := by
  cases d; cases e; simp_all
/-- A cut that may be done leaves the domain cut, and the others. -/
theorem may_cut {s : St} (c : Ct) (h : s.may c.k c.x c.v = true) (y : Nat) (hy : y < s.now.length) : ∃ h2 : y < (s.cut c.k c.x c.v).now.length, (s.cut c.k c.x c.v).now[y] = if c.x = (y : Int) then s.now[y].cut c.k c.v else s.now[y] := by
  have hl := (cut_len s c.k c.x c.v).1
  refine ⟨by omega, ?_⟩
  cases hi : isB s.now.length c.x with
  | false =>
    have hne : c.x ≠ (y : Int) := fun e => by
      rw [e] at hi
      simp [isB] at hi
      omega
    have e := (cut_no (k := c.k) (v := c.v) hi).1
    simp only [e, if_neg hne]
  | true =>
    obtain ⟨q, hq, hq2⟩ : ∃ q : Nat, c.x = (q : Int) ∧ q < s.now.length := by
      simp [isB] at hi
      exact ⟨c.x.toNat, by omega, by omega⟩
    rw [hq] at h
    obtain ⟨e1, e2, e3⟩ := cut_yes (s := s) (k := c.k) (v := c.v) hq2
    rw [e3] at h
    simp only [hq]
    cases hw : s.now[q].went c.k c.v with
    | true =>
      have e4 : s.cut c.k q c.v = { s with now := s.now.set q (s.now[q].cut c.k c.v) } := by rw [e1, hw, if_pos rfl]
      simp only [e4]
      by_cases hyq : q = y
      · subst hyq
        simp
      · rw [List.getElem_set_ne hyq, if_neg (by omega)]
    | false =>
      have e4 : s.cut c.k q c.v = s := by rw [e1, hw]; rfl
      simp only [e4]
      by_cases hyq : q = y
      · subst hyq
        rw [if_pos rfl]
        unfold Dm.may at h
        unfold Dm.went at hw
        have heq : (s.now[q].cut c.k c.v).eqB s.now[q] = true := by
          cases h1 : (s.now[q].cut c.k c.v).eqB s.now[q] with
          | true => rfl
          | false =>
            rw [h1] at h hw
            simp at h hw
            rw [h] at hw
            cases hw
        unfold Dm.eqB at heq
        simp at heq
        exact (Dm.ext (d := s.now[q].cut c.k c.v) (e := s.now[q]) rfl heq.1 heq.2).symm
      · rw [if_neg (by omega)]
/-- Cuts, one behind the other. -/
def St.cuts : St → List Ct → Option St
  | s, [] => some s
  | s, c :: r => if s.may c.k c.x c.v then (s.cut c.k c.x c.v).cuts r else none
theorem good_cut {s : St} (hg : ∀ d ∈ s.now, d.Ok) (c : Ct) : ∀ d ∈ (s.cut c.k c.x c.v).now, d.Ok := by
  unfold St.cut
  split
  · exact hg
  · split
    · rename_i d hd _
      intro e he
      rcases List.mem_or_eq_of_mem_set he with he | rfl
      · exact hg e he
      · exact (hg d (List.mem_of_getElem? hd)).cut _ _
    · exact hg
/-- What is left behind cuts: as many variables, the same first values, and of the places those that no cut takes. -/
theorem cuts_bits {l : List Ct} {s t : St} (hg : ∀ d ∈ s.now, d.Ok) (h : s.cuts l = some t) : (∀ d ∈ t.now, d.Ok) ∧ t.now.length = s.now.length ∧ t.noted = s.noted ∧ t.marks = s.marks ∧ ∀ (y : Nat) (hy : y < s.now.length) (hy2 : y < t.now.length), t.now[y].f = s.now[y].f ∧ ∀ k, k < 64 → bt t.now[y].a t.now[y].b k = (bt s.now[y].a s.now[y].b k && l.all fun c => !(decide (c.x = (y : Int)) && takesB c.k c.v (s.now[y].f + (k : Int)))) := by
  induction l generalizing s with
  | nil =>
    injection h with h
    subst h
    exact ⟨hg, rfl, rfl, rfl, fun y hy _ => ⟨rfl, fun k _ => by simp⟩⟩
  | cons c r ih =>
    unfold St.cuts at h
    split at h
    · rename_i hm
      obtain ⟨g1, g2, g3, g4, g5⟩ := ih (good_cut hg c) h
      obtain ⟨q1, q2, q3⟩ := cut_len s c.k c.x c.v
      refine ⟨g1, g2.trans q1, g3.trans q2, g4.trans q3, fun y hy hy2 => ?_⟩
      obtain ⟨hy3, hcy⟩ := may_cut c hm y hy
      obtain ⟨e1, e2⟩ := g5 y hy3 hy2
      have hok := hg s.now[y] (List.getElem_mem hy)
      have hf : ((s.cut c.k c.x c.v).now[y]).f = s.now[y].f := by
        rw [hcy]
        split <;> rfl
      refine ⟨e1.trans hf, fun k hk => ?_⟩
      rw [e2 k hk, hf, List.all_cons, hcy]
      by_cases hx : c.x = (y : Int)
      · rw [if_pos hx]
        have hb := bt_cut (f := s.now[y].f) hok.a hok.b c.k c.v k hk
        show (bt (lWd (dPlc s.now[y].f c.v) c.k s.now[y].a 0) (lWd (dPlc s.now[y].f c.v) c.k s.now[y].b 1) k && _) = _
        rw [hb]
        simp [hx, Bool.and_assoc]
      · rw [if_neg hx]
        simp [hx]
    · cases h
/-- Two stores with the same places are one. -/
theorem now_ext {s t : St} (hs : ∀ d ∈ s.now, d.Ok) (ht : ∀ d ∈ t.now, d.Ok) (hl : s.now.length = t.now.length) (h : ∀ (y : Nat) (hy : y < s.now.length) (hy2 : y < t.now.length), s.now[y].f = t.now[y].f ∧ ∀ k, k < 64 → bt s.now[y].a s.now[y].b k = bt t.now[y].a t.now[y].b k) : s.now = t.now := by
  refine List.ext_getElem hl fun y hy hy2 => ?_
  obtain ⟨h1, h2⟩ := h y hy hy2
  have o1 := hs s.now[y] (List.getElem_mem hy)
  have o2 := ht t.now[y] (List.getElem_mem hy2)
  obtain ⟨e1, e2⟩ := bt_ext o1.a o1.b o2.a o2.b h2
  exact Dm.ext h1 e1 e2
/-- Cuts in another order leave the same domains. -/
theorem cuts_order {l r : List Ct} {s t u : St} (hg : ∀ d ∈ s.now, d.Ok) (hlr : ∀ c, c ∈ l ↔ c ∈ r) (h1 : s.cuts l = some t) (h2 : s.cuts r = some u) : t.now = u.now := by
  obtain ⟨a1, a2, _, _, a5⟩ := cuts_bits hg h1
  obtain ⟨b1, b2, _, _, b5⟩ := cuts_bits hg h2
  refine now_ext a1 b1 (a2.trans b2.symm) fun y hy hy2 => ?_
  obtain ⟨e1, e2⟩ := a5 y (by omega) hy
  obtain ⟨f1, f2⟩ := b5 y (by omega) hy2
  refine ⟨e1.trans f1.symm, fun k hk => ?_⟩
  rw [e2 k hk, f2 k hk]
  congr 1
  rw [Bool.eq_iff_iff, List.all_eq_true, List.all_eq_true]
  exact ⟨fun h c hc => h c ((hlr c).2 hc), fun h c hc => h c ((hlr c).1 hc)⟩
/-- A cut that takes nothing may be done, and leaves all. -/
theorem cut_nothing {s : St} (hg : ∀ d ∈ s.now, d.Ok) (c : Ct) (h : ∀ (y : Nat) (hy : y < s.now.length) k, k < 64 → c.x = (y : Int) → bt s.now[y].a s.now[y].b k = true → takesB c.k c.v (s.now[y].f + (k : Int)) = false) : s.may c.k c.x c.v = true ∧ s.cut c.k c.x c.v = s := by
  cases hi : isB s.now.length c.x with
  | false =>
    have := cut_no (k := c.k) (v := c.v) hi
    exact ⟨this.2.2, this.1⟩
  | true =>
    obtain ⟨q, hq, hq2⟩ : ∃ q : Nat, c.x = (q : Int) ∧ q < s.now.length := by
      simp [isB] at hi
      exact ⟨c.x.toNat, by omega, by omega⟩
    obtain ⟨e1, e2, e3⟩ := cut_yes (s := s) (k := c.k) (v := c.v) hq2
    have hok := hg s.now[q] (List.getElem_mem hq2)
    have hb := bt_ext (isW_lWd (at_ := dPlc s.now[q].f c.v) (k := c.k) (i := 0) hok.a) (isW_lWd (at_ := dPlc s.now[q].f c.v) (k := c.k) (i := 1) hok.b) hok.a hok.b fun k hk => by
      rw [bt_cut hok.a hok.b c.k c.v k hk]
      cases hbt : bt s.now[q].a s.now[q].b k with
      | false => rfl
      | true => rw [h q hq2 k hk hq hbt]; rfl
    have heq : (s.now[q].cut c.k c.v).eqB s.now[q] = true := by
      unfold Dm.eqB Dm.cut
      simp only [hb.1, hb.2, beq_self_eq_true, Bool.and_self]
    have hw : s.now[q].went c.k c.v = false := by unfold Dm.went; rw [heq]; rfl
    have hm : s.now[q].may c.k c.v = true := by unfold Dm.may; rw [heq]; rfl
    rw [hq]
    exact ⟨e3.trans hm, by rw [e1, hw]; rfl⟩
/-- The same cuts again leave all. -/
theorem cuts_again {l : List Ct} {s t : St} (hg : ∀ d ∈ s.now, d.Ok) (h : s.cuts l = some t) : ∀ r : List Ct, (∀ c ∈ r, c ∈ l) → t.cuts r = some t := by
  obtain ⟨a1, a2, _, _, a5⟩ := cuts_bits hg h
  intro r
  induction r with
  | nil => intro _; rfl
  | cons c r ih =>
    intro hr
    obtain ⟨m1, m2⟩ := cut_nothing a1 c (fun y hy k hk hx hb => by
      obtain ⟨e1, e2⟩ := a5 y (by omega) hy
      rw [e2 k hk] at hb
      rw [Bool.and_eq_true, List.all_eq_true] at hb
      have := hb.2 c (hr c List.mem_cons_self)
      rw [e1]
      simpa [hx] using this)
    unfold St.cuts
    rw [m1, if_pos rfl, m2]
    exact ih (fun c hc => hr c (List.mem_cons_of_mem _ hc))
end Go.Proofs.YtlcegpnnanhloaaGreatDoor

namespace Go.Proofs.YtlcegpnnanhloaaGreatDoor
open Go.RowKit

theorem cuts_append (l r : List Ct) (s : St) : s.cuts (l ++ r) = (s.cuts l).bind fun t => t.cuts r := by
  induction l generalizing s with
  | nil => rfl
  | cons c l ih =>
    show (if s.may c.k c.x c.v then (s.cut c.k c.x c.v).cuts (l ++ r) else none) = (if s.may c.k c.x c.v then (s.cut c.k c.x c.v).cuts l else none).bind fun t => t.cuts r
    split
    · exact ih _
    · rfl
theorem cuts_next {s t : St} {l : List Ct} {k : Nat} (hk : k < l.length) (h : s.cuts (l.take k) = some t) : s.cuts (l.take (k + 1)) = if t.may l[k].k l[k].x l[k].v then some (t.cut l[k].k l[k].x l[k].v) else none := by
  rw [List.take_succ_eq_append_getElem hk, cuts_append, h]
  rfl
theorem cuts_stop {s t : St} {l : List Ct} {k : Nat} (hk : k < l.length) (h : s.cuts (l.take k) = some t) (hm : t.may l[k].k l[k].x l[k].v = false) : s.cuts l = none := by
  have h1 := cuts_next hk h
  rw [hm] at h1
  rw [← List.take_append_drop (k + 1) l, cuts_append, h1]
  rfl

/-- The cuts the other way round, and turned: the first i of them. -/
def othr (l : List Ct) (k i : Nat) : List Ct := (List.range i).map fun j => l.getD (l.length - 1 - (j + k) % l.length) ⟨0, 0, 0⟩
theorem othr_succ (l : List Ct) (k i : Nat) (hl : 0 < l.length) : ∃ h : l.length - 1 - (i + k) % l.length < l.length, othr l k (i + 1) = othr l k i ++ [l[l.length - 1 - (i + k) % l.length]] := by
  have h : l.length - 1 - (i + k) % l.length < l.length := by omega
  refine ⟨h, ?_⟩
  unfold othr
  rw [List.range_succ, List.map_append, List.map_cons, List.map_nil, List.getD_eq_getElem?_getD, List.getElem?_eq_getElem h]
  rfl
theorem othr_len (l : List Ct) (k i : Nat) : (othr l k i).length = i := by unfold othr; rw [List.length_map, List.length_range]
theorem othr_mem (l : List Ct) (k : Nat) (hk : k ≤ l.length) (c : Ct) : c ∈ l ↔ c ∈ othr l k l.length := by
  constructor
  · intro h
    obtain ⟨j, hj, rfl⟩ := List.getElem_of_mem h
    unfold othr
    rw [List.mem_map]
    refine ⟨(l.length - 1 - j + (l.length - k)) % l.length, List.mem_range.2 (Nat.mod_lt _ (by omega)), ?_⟩
    have e : ((l.length - 1 - j + (l.length - k)) % l.length + k) % l.length = l.length - 1 - j := by
      rw [Nat.mod_add_mod, show l.length - 1 - j + (l.length - k) + k = (l.length - 1 - j) + l.length by omega, Nat.add_mod_right, Nat.mod_eq_of_lt (by omega)]
    rw [e, show l.length - 1 - (l.length - 1 - j) = j by omega, List.getD_eq_getElem?_getD, List.getElem?_eq_getElem hj]
    rfl
  · intro h
    unfold othr at h
    rw [List.mem_map] at h
    obtain ⟨j, hj, rfl⟩ := h
    have hl : 0 < l.length := by have := List.mem_range.1 hj; omega
    have h2 : l.length - 1 - (j + k) % l.length < l.length := by omega
    rw [List.getD_eq_getElem?_getD, List.getElem?_eq_getElem h2]
    exact List.getElem_mem h2
/-- Cuts in memory. -/
def CtsAt (w : World) (a : Option Addr) (L : List Ct) : Prop :=
  ∀ j (h : j < L.length), ∃ b off, a = some ⟨b, off, none⟩ ∧ w.cell? ⟨b, off + j * 3, none⟩ = some (.int .i64 L[j].k) ∧ w.cell? ⟨b, off + j * 3 + 1, none⟩ = some (.int .i64 L[j].x) ∧ w.cell? ⟨b, off + j * 3 + 2, none⟩ = some (.int .i64 L[j].v)
/-- What cuts leaves. -/
def CtOut (B p : Nat) (nv mv : Value) (s : St) (L : List Ct) (w : World) (e : Ending) (w' : World) : Prop := e = .returned (.bool (s.cuts L).isSome) ∧ (∀ t, s.cuts L = some t → StAt B w' p nv mv t) ∧ Stp B p nv mv w w'

end Go.Proofs.YtlcegpnnanhloaaGreatDoor

namespace Go.Proofs.YtlcegpnnanhloaaGreatDoor
open Go.RowKit

theorem lt_alloc {V : World} {o : Obj} {n : Nat} (h : (V.alloc o).heap.size ≤ n) : V.heap.size < n := by simp at h; omega
theorem info101 : (Tryz.prog.info? 101).map (·.size) = some 2 := by kernel_rfl
/-- A side, as a value. -/
def sdVal (lp : Nat) (t : Bool) : Value := .agg #[.pointer (some ⟨lp, 0, none⟩), .bool t]
set_option maxRecDepth 10000 in
set_option maxHeartbeats 400000 in
theorem upright_any (lp : Nat) (w : World) : Calls Tryz.prog 79 #[.pointer (some ⟨lp, 0, none⟩)] w fun e w' => e = .returned (sdVal lp false) ∧ Below w.heap.size w w' := by
  go_enter Tryz.func79, Tryz.ntmps79
  go_wp2
  exact bodyPost_ret (v := sdVal lp false) (by simp [results, Tryz.results79, go_sem]; try rfl) rfl ⟨rfl, (Below.refl _ _).alloc (Nat.le_refl _) _⟩
set_option maxRecDepth 10000 in
set_option maxHeartbeats 400000 in
theorem turnedL_any (lp : Nat) (w : World) : Calls Tryz.prog 81 #[.pointer (some ⟨lp, 0, none⟩)] w fun e w' => e = .returned (sdVal lp true) ∧ Below w.heap.size w w' := by
  go_enter Tryz.func81, Tryz.ntmps81
  go_wp2
  exact bodyPost_ret (v := sdVal lp true) (by simp [results, Tryz.results81, go_sem]; try rfl) rfl ⟨rfl, (Below.refl _ _).alloc (Nat.le_refl _) _⟩

/-- A domain's least and greatest value. -/
def Dm.lo (d : Dm) : Int := d.f + bLow d.a d.b
def Dm.hi (d : Dm) : Int := d.f + bHigh d.a d.b
def Dm.size (d : Dm) : Int := bSize d.a d.b
def Dm.has (d : Dm) (v : Int) : Bool := dHas d.f d.a d.b v
def Dm.all (d : Dm) : List Int := dAll d.f d.a d.b
theorem Dm.lo_in {d : Dm} (h : d.Ok) : -1000000000 ≤ d.lo ∧ d.lo ≤ 1000000100 := by
  have := bLow_lo d.a d.b
  have := h.f1
  have := h.f2
  unfold Dm.lo
  omega
theorem Dm.hi_in {d : Dm} (h : d.Ok) : -1000000001 ≤ d.hi ∧ d.hi ≤ 1000000100 := by
  have := bHigh_lo d.a d.b
  have := h.f1
  have := h.f2
  unfold Dm.hi
  omega
section
variable {B lp g p : Nat} {nv mv : Value} {s : St} {S : List Sv} {w w' : World}
/-- What a store is asked, wherever it is. -/
theorem LfAt.los (h : LfAt B lp g p nv mv s S w) (x : Nat) (hx : x < s.now.length) (hb : Below B w w') : Calls Tryz.prog 55 #[.pointer (some ⟨p, 0, none⟩), .int .i64 (x : Int)] w' fun e w2 => e = .returned (.int .i64 s.now[x].lo) ∧ Below w'.heap.size w' w2 := by
  obtain ⟨Bs, h1⟩ := h.store hb
  exact lo_in Bs p nv mv s x hx w' h1 (h.tz.below hb h.b0)
theorem LfAt.his (h : LfAt B lp g p nv mv s S w) (x : Nat) (hx : x < s.now.length) (hb : Below B w w') : Calls Tryz.prog 56 #[.pointer (some ⟨p, 0, none⟩), .int .i64 (x : Int)] w' fun e w2 => e = .returned (.int .i64 s.now[x].hi) ∧ Below w'.heap.size w' w2 := by
  obtain ⟨Bs, h1⟩ := h.store hb
  exact hi_in Bs p nv mv s x hx w' h1
theorem LfAt.sizes (h : LfAt B lp g p nv mv s S w) (x : Nat) (hx : x < s.now.length) (hb : Below B w w') : Calls Tryz.prog 97 #[.pointer (some ⟨p, 0, none⟩), .int .i64 (x : Int)] w' fun e w2 => e = .returned (.int .i64 s.now[x].size) ∧ Below w'.heap.size w' w2 := by
  obtain ⟨Bs, h1⟩ := h.store hb
  exact size_in Bs p nv mv s x hx w' h1
theorem LfAt.hass (h : LfAt B lp g p nv mv s S w) (x : Nat) (hx : x < s.now.length) (v : Int) (hb : Below B w w') : Calls Tryz.prog 87 #[.pointer (some ⟨p, 0, none⟩), .int .i64 (x : Int), .int .i64 v] w' fun e w2 => e = .returned (.bool (s.now[x].has v)) ∧ Below w'.heap.size w' w2 := by
  obtain ⟨Bs, h1⟩ := h.store hb
  exact has_in Bs p nv mv s x hx v w' h1
theorem LfAt.vals (h : LfAt B lp g p nv mv s S w) (x : Nat) (hx : x < s.now.length) (hb : Below B w w') : Calls Tryz.prog 18 #[.pointer (some ⟨p, 0, none⟩), .int .i64 (x : Int)] w' (VsOut s.now[x].all w') := by
  obtain ⟨Bs, h1⟩ := h.store hb
  exact values_in Bs p nv mv s x hx w' h1 (h.tz.below hb h.b0)
theorem LfAt.good (h : LfAt B lp g p nv mv s S w) : ∀ d ∈ s.now, d.Ok := by
  obtain ⟨Bs, h1⟩ := h.st
  exact h1.good
end

/-- A variable's value, if it has just one. -/
def Dm.one (d : Dm) : Bool := decide (d.size ≤ 1)
def oneV (d : Dm) : Int := if d.one then d.lo else 0
set_option maxRecDepth 10000 in
set_option maxHeartbeats 400000 in
theorem one_any (B lp g p : Nat) (nv mv : Value) (s : St) (S : List Sv) (w : World) (h : LfAt B lp g p nv mv s S w) (x : Nat) (hx : x < s.now.length) : Calls Tryz.prog 82 #[.pointer (some ⟨lp, 0, none⟩), .int .i64 (x : Int)] w fun e w' => e = .returned (.tuple #[.int .i64 (oneV s.now[x]), .bool s.now[x].one]) ∧ Below w.heap.size w w' := by
  have c0 : w.cell? ⟨lp, 0, none⟩ = some (.pointer (some ⟨p, 0, none⟩)) := cell_of h.box 0
  have H1 : Hid (Calls Tryz.prog 97 #[.pointer (some ⟨p, 0, none⟩), .int .i64 (x : Int)] w fun e w2 => e = .returned (.int .i64 s.now[x].size) ∧ Below w.heap.size w w2) := h.sizes x hx (Below.refl _ _)
  have H2 : Hid (∀ w', Below w.heap.size w w' → Calls Tryz.prog 55 #[.pointer (some ⟨p, 0, none⟩), .int .i64 (x : Int)] w' fun e w2 => e = .returned (.int .i64 s.now[x].lo) ∧ Below w'.heap.size w' w2) := fun w' hb => h.los x hx (hb.mono h.size)
  have HC : Hid (∀ w', Below w.heap.size w w' → w'.cell? ⟨lp, 0, none⟩ = some (.pointer (some ⟨p, 0, none⟩))) := fun w' hb => cell_of ((h.below hb).box) 0
  obtain ⟨d, hd⟩ : ∃ d, s.now[x] = d := ⟨_, rfl⟩
  rw [hd] at H1 H2 ⊢
  clear h hd
  unfold oneV Dm.one
  obtain ⟨n, hn⟩ : ∃ n, d.size = n := ⟨_, rfl⟩
  rw [hn] at H1 ⊢
  clear hn
  by_cases h1 : 1 < n
  · have e : decide (n ≤ 1) = false := by simp; omega
    rw [e]
    clear e
    go_enter Tryz.func82, Tryz.ntmps82
    go_wp2_with fail
    refine calls_at H1.out (by with_reducible rfl) (by with_reducible rfl) ?_
    rintro e w1 ⟨rfl, hb1⟩
    go_wp2_with fail
    go_ret2
    exact ⟨rfl, hb1⟩
  · have e : decide (n ≤ 1) = true := by simp; omega
    rw [e]
    clear e
    go_enter Tryz.func82, Tryz.ntmps82
    go_wp2_with fail
    refine calls_at H1.out (by with_reducible rfl) (by with_reducible rfl) ?_
    rintro e w1 ⟨rfl, hb1⟩
    have c1 := HC.out w1 hb1
    have HB1 : Hid (Below w.heap.size w w1) := hb1
    clear hb1
    go_wp2_with fail
    refine calls_at (H2.out w1 HB1.out) (by with_reducible rfl) (by with_reducible rfl) ?_
    rintro e w2 ⟨rfl, hb2⟩
    have HB2 : Hid (Below w1.heap.size w1 w2) := hb2
    clear hb2
    go_wp2_with fail
    go_ret2
    exact ⟨rfl, HB1.out.trans (HB2.out.mono HB1.out.size)⟩

/-- The least and greatest value, signs turned or not. -/
def spLo (t : Bool) (d : Dm) : Int := if t then -d.hi else d.lo
def spHi (t : Bool) (d : Dm) : Int := if t then -d.lo else d.hi
theorem sp_in (t : Bool) {d : Dm} (h : d.Ok) : -2000000000 ≤ spLo t d ∧ spLo t d ≤ 2000000000 ∧ -2000000000 ≤ spHi t d ∧ spHi t d ≤ 2000000000 := by
  have := Dm.lo_in h
  have := Dm.hi_in h
  unfold spLo spHi
  cases t <;> simp <;> omega
set_option maxRecDepth 10000 in
set_option maxHeartbeats 1000000 in
theorem span_any (B lp g p : Nat) (nv mv : Value) (s : St) (S : List Sv) (t : Bool) (w : World) (h : LfAt B lp g p nv mv s S w) (x : Nat) (hx : x < s.now.length) : Calls Tryz.prog 117 #[sdVal lp t, .int .i64 (x : Int)] w fun e w' => e = .returned (bnVal (spLo t s.now[x]) (spHi t s.now[x])) ∧ Below w.heap.size w w' := by
  have hok := h.good s.now[x] (List.getElem_mem hx)
  obtain ⟨W, hW⟩ : ∃ W, (w.alloc (.cells #[.pointer (some ⟨lp, 0, none⟩), .bool t] 127)).alloc (.cells #[.int .i64 0, .int .i64 0] 101) = W := ⟨_, rfl⟩
  have hb0 : Below w.heap.size w W := by rw [← hW]; exact ((Below.refl _ _).alloc (Nat.le_refl _) _).alloc (by simp) _
  have g0 : W.heap[w.heap.size]? = some (.cells #[.pointer (some ⟨lp, 0, none⟩), .bool t] 127 (0, 0)) := by rw [← hW, heap_alloc_old (w.alloc _) _ (by simp)]; exact heap_alloc_new w _
  have g1 : W.heap[w.heap.size + 1]? = some (.cells #[.int .i64 0, .int .i64 0] 101 (0, 0)) := by rw [← hW]; exact heap_alloc2_new w _ _
  have hlt0 := (Array.getElem?_eq_some_iff.1 g0).1
  have hlt1 := (Array.getElem?_eq_some_iff.1 g1).1
  have HL : Hid (∀ w', Below W.heap.size W w' → LfAt B lp g p nv mv s S w') := fun w' hb => (h.below hb0).below hb
  have HC : Hid (∀ w', Below W.heap.size W w' → w'.cell? ⟨w.heap.size, 0, none⟩ = some (.pointer (some ⟨lp, 0, none⟩)) ∧ w'.cell? ⟨w.heap.size, 1, none⟩ = some (.bool t) ∧ w'.cell? ⟨lp, 0, none⟩ = some (.pointer (some ⟨p, 0, none⟩)) ∧ Below W.heap.size W w') := fun w' hb => ⟨cell_of ((hb.block _ hlt0).trans g0) 0, cell_of ((hb.block _ hlt0).trans g0) 1, cell_of (HL.out w' hb).box 0, hb⟩
  have HR : Hid (∀ w', Below W.heap.size W w' → w'.heap[w.heap.size + 1]? = some (.cells #[.int .i64 0, .int .i64 0] 101 (0, 0))) := fun w' hb => (hb.block _ hlt1).trans g1
  have HB : Hid (Below w.heap.size w W) := hb0
  have H1 : Hid (∀ w', Below W.heap.size W w' → Calls Tryz.prog 55 #[.pointer (some ⟨p, 0, none⟩), .int .i64 (x : Int)] w' fun e w2 => e = .returned (.int .i64 s.now[x].lo) ∧ Below w'.heap.size w' w2) := fun w' hb => (HL.out w' hb).los x hx (Below.refl _ _)
  have H2 : Hid (∀ w', Below W.heap.size W w' → Calls Tryz.prog 56 #[.pointer (some ⟨p, 0, none⟩), .int .i64 (x : Int)] w' fun e w2 => e = .returned (.int .i64 s.now[x].hi) ∧ Below w'.heap.size w' w2) := fun w' hb => (HL.out w' hb).his x hx (Below.refl _ _)
  have b1 := Dm.lo_in hok
  have b2 := Dm.hi_in hok
  obtain ⟨d, hd⟩ : ∃ d, s.now[x] = d := ⟨_, rfl⟩
  rw [hd] at H1 H2 b1 b2 ⊢
  clear h hd hok hb0 g0 g1 hlt0 hlt1
  unfold spLo spHi
  obtain ⟨lo, hlo⟩ : ∃ n, d.lo = n := ⟨_, rfl⟩
  obtain ⟨hi, hhi⟩ : ∃ n, d.hi = n := ⟨_, rfl⟩
  rw [hlo] at H1 b1 ⊢
  rw [hhi] at H2 b2 ⊢
  clear hlo hhi
  obtain ⟨b1, b1'⟩ := b1
  obtain ⟨b2, b2'⟩ := b2
  unfold sdVal
  go_enter Tryz.func117, Tryz.ntmps117
  go_wp2_with fail
  go_cut [5] from 6 to 25 (fun s5 wx => ∃ k, s5 = .pointer (some ⟨k, 0, none⟩) ∧ Hid (wx.heap[k]? = some (.cells #[.int .i64 lo, .int .i64 hi] 101 (0, 0))) ∧ Hid (W.heap.size ≤ k) ∧ Hid (Below W.heap.size W wx))
  case first =>
    go_region_held3 (fun w' => w'.cell? ⟨w.heap.size, 0, none⟩ = some (.pointer (some ⟨lp, 0, none⟩)) ∧ w'.cell? ⟨w.heap.size, 1, none⟩ = some (.bool t) ∧ w'.cell? ⟨lp, 0, none⟩ = some (.pointer (some ⟨p, 0, none⟩)) ∧ Below W.heap.size W w')
      (first | exact HC.out _ (Below.refl _ _).drew | exact HC.out _ (bl_alloc HB5.out _) | exact HC.out _ ((HB5.out.setCell (by first | exact HB4.out.size | exact Nat.le_refl _) _).setCell (by first | exact HB4.out.size | exact Nat.le_refl _) _) | exact HC.out _ HB5.out | exact HC.out _ HB4.out | exact HC.out _ (bl_alloc (And.right (And.right (And.right (by assumption)))) _) | assumption)
      (first | (go_at_call 55; refine calls_at (H1.out _ (And.right (And.right (And.right (by assumption))))) (by with_reducible rfl) (by with_reducible rfl) ?_; rintro e w4 ⟨rfl, hb4⟩; (have HB4 : Hid (Below W.heap.size W w4) := bl_next (And.right (And.right (And.right (by assumption)))) hb4); obtain ⟨hc4, hf4⟩ := bcell hb4; (first | (have hz4 : W.heap.size < w4.heap.size := lt_alloc (V := W.drew) hb4.size) | skip)) | (go_at_call 56; refine calls_at (H2.out _ (And.right (And.right (And.right (by assumption))))) (by with_reducible rfl) (by with_reducible rfl) ?_; rintro e w5 ⟨rfl, hb5⟩; (have HB5 : Hid (Below W.heap.size W w5) := bl_next (And.right (And.right (And.right (by assumption)))) hb5); obtain ⟨hc5, hf5⟩ := bcell hb5; (first | (have hz5 : w4.heap.size < w5.heap.size := lt_alloc (V := w4) hb5.size) | skip)))
    all_goals (go_wp2_with fail)
    all_goals go_meet
    all_goals first | exact ⟨_, rfl, heap_alloc_new w5 _, HB5.out.size, bl_alloc HB5.out _⟩ | exact ⟨_, rfl, set2 ((hb5.block _ (by simp)).trans (heap_alloc_new w4 _)) _ _, HB4.out.size, ((HB5.out.setCell HB4.out.size _).setCell HB4.out.size _)⟩ | exact ⟨_, rfl, set2 ((hb5.block _ hz4).trans ((hb4.block _ (by simp)).trans (heap_alloc_new W.drew _))) _ _, Nat.le_refl _, ((HB5.out.setCell (Nat.le_refl _) _).setCell (Nat.le_refl _) _)⟩
  case rest =>
    obtain ⟨k, rfl, HK, HKl, HBx⟩ := hcut
    rename World => wx
    obtain ⟨x0, x1, _, _⟩ := HC.out wx HBx.out
    have k0 : wx.cell? ⟨k, 0, none⟩ = some (.int .i64 lo) := cell_of HK.out 0
    have k1 : wx.cell? ⟨k, 1, none⟩ = some (.int .i64 hi) := cell_of HK.out 1
    have gR := HR.out wx HBx.out
    have HBf : Hid (Below w.heap.size w wx) := HB.out.trans (HBx.out.mono HB.out.size)
    cases t with
    | false =>
      have r0 : wx.cell? ⟨w.heap.size + 1, 0, none⟩ = some (.int .i64 0) := cell_of gR 0
      have r1 : wx.cell? ⟨w.heap.size + 1, 1, none⟩ = some (.int .i64 0) := cell_of gR 1
      have rz : ∀ i, wx.frozen? ⟨w.heap.size + 1, i, none⟩ = false := frozen_of gR
      have HG : Hid (wx.heap[w.heap.size + 1]? = some (.cells #[.int .i64 0, .int .i64 0] 101 (0, 0))) := gR
      clear gR
      go_wp2_with fail
      exact bodyPost_ret (v := bnVal lo hi) (results_cell_row Tryz.results117 _ _ (w.heap.size + 1) 101 #[.int .i64 lo, .int .i64 hi] (0, 0) _ rfl (set2 HG.out _ _) und101 rfl info101) rfl ⟨rfl, (HBf.out.setCell (by simp) _).setCell (by simp) _⟩
    | true =>
      have HT : Hid (Calls Tryz.prog 147 #[.agg #[.int .i64 lo, .int .i64 hi]] wx fun e w' => e = .returned (bnVal (-hi) (-lo)) ∧ Below wx.heap.size wx w') := turnedB_any lo hi wx (by omega) (by omega) (by omega) (by omega)
      go_wp2_with fail
      refine calls_at HT.out (by with_reducible rfl) (by with_reducible rfl) ?_
      rintro e w6 ⟨rfl, hb6⟩
      have gR6 := HR.out w6 (bl_next HBx.out hb6)
      have r0 : w6.cell? ⟨w.heap.size + 1, 0, none⟩ = some (.int .i64 0) := cell_of gR6 0
      have r1 : w6.cell? ⟨w.heap.size + 1, 1, none⟩ = some (.int .i64 0) := cell_of gR6 1
      have rz : ∀ i, w6.frozen? ⟨w.heap.size + 1, i, none⟩ = false := frozen_of gR6
      have HG : Hid (w6.heap[w.heap.size + 1]? = some (.cells #[.int .i64 0, .int .i64 0] 101 (0, 0))) := gR6
      have HB6 : Hid (Below w.heap.size w w6) := HBf.out.trans (hb6.mono HBf.out.size)
      clear gR6 gR hb6 k0 k1 x0 x1
      unfold bnVal
      go_wp2_with fail
      exact bodyPost_ret (v := bnVal (-hi) (-lo)) (results_cell_row Tryz.results117 _ _ (w.heap.size + 1) 101 #[.int .i64 (-hi), .int .i64 (-lo)] (0, 0) _ rfl (set2 HG.out _ _) und101 rfl info101) rfl ⟨rfl, (HB6.out.setCell (by simp) _).setCell (by simp) _⟩
end Go.Proofs.YtlcegpnnanhloaaGreatDoor

namespace Go.Proofs.YtlcegpnnanhloaaGreatDoor

/-- What is known of a domain that isn't empty. -/
structure Dm.Fine (d : Dm) : Prop where
  loIn : d.has d.lo = true
  hiIn : d.has d.hi = true
  least : ∀ v, d.has v = true → d.lo ≤ v
  most : ∀ v, d.has v = true → v ≤ d.hi
  one : d.one = true ↔ d.lo = d.hi
  sz : 1 ≤ d.size
  all : ∀ v, v ∈ d.all ↔ d.has v = true
  up : d.all.Pairwise (· < ·)
  b1 : -1000000000 ≤ d.lo
  b2 : d.hi ≤ 2000000000

end Go.Proofs.YtlcegpnnanhloaaGreatDoor

namespace Go.Proofs.YtlcegpnnanhloaaGreatDoor
open Go.RowKit

/-- An interval less. -/
def Sv.keep (s : Sv) (a b : Int) : Sv := ⟨max s.lo a, min s.hi b, s.tv, s.ts⟩
def keepL (S : List Sv) (x : Nat) (a b : Int) : List Sv := match S[x]? with
  | some s => S.set x (s.keep a b)
  | none => S
theorem keepL_eq {S : List Sv} {x : Nat} (hx : x < S.length) (a b : Int) : keepL S x a b = S.set x ⟨max S[x].lo a, min S[x].hi b, S[x].tv, S[x].ts⟩ := by
  unfold keepL
  rw [List.getElem?_eq_getElem hx]
  rfl
theorem keepL_len (S : List Sv) (x : Nat) (a b : Int) : (keepL S x a b).length = S.length := by
  unfold keepL
  split
  · rw [List.length_set]
  · rfl
/-- What a keep leaves. -/
def KpOut (B lp g p : Nat) (nv mv : Value) (s : St) (S' : List Sv) (w : World) (e : Ending) (w' : World) : Prop := e = .returned (.tuple #[]) ∧ LfAt B lp g p nv mv s S' w' ∧ Kq B w w'
def Kx (N g x : Nat) (a b lo hi : Int) (X w' : World) : Prop := w'.cell? ⟨N, 0, none⟩ = some (.int .i64 a) ∧ w'.cell? ⟨N, 1, none⟩ = some (.int .i64 b) ∧ w'.cell? ⟨g, x * 3, none⟩ = some (.int .i64 lo) ∧ w'.cell? ⟨g, x * 3 + 1, none⟩ = some (.int .i64 hi) ∧ Below X.heap.size X w'

set_option maxRecDepth 10000 in
set_option maxHeartbeats 1000000 in
theorem keep_any (B lp g p : Nat) (nv mv : Value) (s : St) (S : List Sv) (w : World) (h : LfAt B lp g p nv mv s S w) (x : Nat) (hx : x < S.length) (a b : Int) : Calls Tryz.prog 90 #[.pointer (some ⟨lp, 0, none⟩), .int .i64 (x : Int), bnVal a b] w (KpOut B lp g p nv mv s (keepL S x a b) w) := by
  have hn : S.length ≤ 32 := by rw [h.len]; obtain ⟨_, h1⟩ := h.st; exact h1.n32
  have hxI : (x : Int) < (S.length : Int) := by omega
  obtain ⟨W, hW⟩ : ∃ W, w.alloc (.cells #[.int .i64 a, .int .i64 b] 101) = W := ⟨_, rfl⟩
  have hb0 : Below w.heap.size w W := by rw [← hW]; exact (Below.refl _ _).alloc (Nat.le_refl _) _
  have g0 : W.heap[w.heap.size]? = some (.cells #[.int .i64 a, .int .i64 b] 101 (0, 0)) := by rw [← hW]; exact heap_alloc_new w _
  have hlt0 := (Array.getElem?_eq_some_iff.1 g0).1
  have HL : Hid (∀ w', Below W.heap.size W w' → LfAt B lp g p nv mv s S w') := fun w' hb => (h.below hb0).below hb
  have HC : Hid (∀ w', Below W.heap.size W w' → Kx w.heap.size g x a b S[x].lo S[x].hi W w') := fun w' hb => ⟨cell_of ((hb.block _ hlt0).trans g0) 0, cell_of ((hb.block _ hlt0).trans g0) 1, ((HL.out w' hb).cell x hx).1, ((HL.out w' hb).cell x hx).2.1, hb⟩
  have HK : Hid (Kq B w W) := Kq.of_below hb0 h.size
  have HM : Hid (∀ (c d : Int) (w' : World), Calls Tryz.prog 123 #[.agg #[.int .i64 c, .int .i64 d], .agg #[.int .i64 a, .int .i64 b]] w' fun e w2 => e = .returned (.agg #[.int .i64 (max c a), .int .i64 (min d b)]) ∧ Below w'.heap.size w' w2) := fun c d w' => meet_any c d a b w'
  have HF : Hid (∀ w', Below W.heap.size W w' → LfAt B lp g p nv mv s (keepL S x a b) ((w'.setCell ⟨g, x * 3, none⟩ (.int .i64 (max S[x].lo a))).setCell ⟨g, x * 3 + 1, none⟩ (.int .i64 (min S[x].hi b))) ∧ Kq B w' ((w'.setCell ⟨g, x * 3, none⟩ (.int .i64 (max S[x].lo a))).setCell ⟨g, x * 3 + 1, none⟩ (.int .i64 (min S[x].hi b)))) := fun w' hb => by
    rw [keepL_eq hx]
    exact (HL.out w' hb).put x hx _ _
  have HZ : Hid (∀ w', Below W.heap.size W w' → ∀ i, w'.frozen? ⟨g, i, none⟩ = false) := fun w' hb => frozen_of (HL.out w' hb).row
  have c1 : W.cell? ⟨lp, 1, none⟩ = some (.slice (some ⟨g, 0, none⟩) S.length S.length) := cell_of (HL.out W (Below.refl _ _)).box 1
  have HBs : Hid (B ≤ W.heap.size) := Nat.le_trans h.size hb0.size
  obtain ⟨lo, hlo⟩ : ∃ n, S[x].lo = n := ⟨_, rfl⟩
  obtain ⟨hi, hhi⟩ : ∃ n, S[x].hi = n := ⟨_, rfl⟩
  rw [hlo, hhi] at HC HF
  clear h hb0 g0 hlt0 hlo hhi
  unfold bnVal
  go_enter Tryz.func90, Tryz.ntmps90
  go_wp2_with fail
  clear c1
  refine wp_region_T (fun _ => True) (Kx w.heap.size g x a b lo hi W) [9] (by kernel_rfl) ⟨trivial, HC.out _ (Below.refl _ _).drew⟩ (fun hHeld => ?_)
  unfold Kx at hHeld ⊢
  refine wpAnyT_takeB (i := 0) (oi := ⟨some 13, .move (.tmp 6), _, _, _, _⟩) (v := ?vR2c1x0) rfl (by kernel_rfl) (by kernel_rfl) (by kernel_rfl) (by kernel_rfl) (fun _ _ _ h => h) (Or.inl ⟨by rfl, ?hyR2c1x0⟩) (by assumption) ?restR2c1x0
  case hyR2c1x0 => (intro w hSw; (try dsimp only at hSw); go_simp; try (with_reducible rfl))
  try simp only [Act.put, List.setIfInBounds_toArray, List.set_cons_zero, List.set_cons_succ]
  refine wpAnyT_takeB (i := 1) (oi := ⟨some 14, .move (.tmp 6), _, _, _, _⟩) (v := ?vR2c1x1) rfl (by kernel_rfl) (by kernel_rfl) (by kernel_rfl) (by kernel_rfl) (fun _ _ _ h => h) (Or.inl ⟨by rfl, ?hyR2c1x1⟩) (by assumption) ?restR2c1x1
  case hyR2c1x1 => (intro w hSw; (try dsimp only at hSw); go_simp; try (with_reducible rfl))
  try simp only [Act.put, List.setIfInBounds_toArray, List.set_cons_zero, List.set_cons_succ]
  refine wpAnyT_takeB (i := 2) (oi := ⟨some 15, .nilCheck (.tmp 14), _, _, _, _⟩) (v := ?vR2c1x2) rfl (by kernel_rfl) (by kernel_rfl) (by kernel_rfl) (by kernel_rfl) (fun _ _ _ h => h) (Or.inl ⟨by rfl, ?hyR2c1x2⟩) (by assumption) ?restR2c1x2
  case hyR2c1x2 => (intro w hSw; (try dsimp only at hSw); go_simp; try (with_reducible rfl))
  try simp only [Act.put, List.setIfInBounds_toArray, List.set_cons_zero, List.set_cons_succ]
  refine wpAnyT_takeB (i := 3) (oi := ⟨some 16, .fieldAddr 105 (.tmp 15) 0, _, _, _, _⟩) (v := ?vR2c1x3) rfl (by kernel_rfl) (by kernel_rfl) (by kernel_rfl) (by kernel_rfl) (fun _ _ _ h => h) (Or.inl ⟨by rfl, ?hyR2c1x3⟩) (by assumption) ?restR2c1x3
  case hyR2c1x3 => (intro w hSw; (try dsimp only at hSw); go_simp; try (with_reducible rfl))
  try simp only [Act.put, List.setIfInBounds_toArray, List.set_cons_zero, List.set_cons_succ]
  refine wpAnyT_take (i := 4) (oi := ⟨some 17, .load 101 (.tmp 16), _, _, _, _⟩) (v := ?vR2c1x4) rfl (by kernel_rfl) (by kernel_rfl) (by kernel_rfl) (by kernel_rfl) (by kernel_rfl) (fun _ _ _ h => h) (Or.inl ⟨by rfl, ?hyR2c1x4⟩) (by assumption) ?restR2c1x4
  case hyR2c1x4 => (intro w hSw; (try dsimp only at hSw); go_simp; try (with_reducible rfl))
  try simp only [Act.put, List.setIfInBounds_toArray, List.set_cons_zero, List.set_cons_succ]
  refine wpAnyT_take (i := 5) (oi := ⟨some 18, .load 101 (.tmp 5), _, _, _, _⟩) (v := ?vR2c1x5) rfl (by kernel_rfl) (by kernel_rfl) (by kernel_rfl) (by kernel_rfl) (by kernel_rfl) (fun _ _ _ h => h) (Or.inl ⟨by rfl, ?hyR2c1x5⟩) (by assumption) ?restR2c1x5
  case hyR2c1x5 => (intro w hSw; (try dsimp only at hSw); go_simp; try (with_reducible rfl))
  try simp only [Act.put, List.setIfInBounds_toArray, List.set_cons_zero, List.set_cons_succ]
  refine wpAnyT_one (i := 6) (o := ⟨some 19, .call { callee := .value (.func 123), args := #[(.tmp 17), (.tmp 18)], argTypes := #[101, 101] }, _, _, _, _⟩) (by kernel_rfl) rfl (fun K hK => ?_)
  go_simp
  refine calls_at (HM.out _ _ _) (by with_reducible rfl) (by with_reducible rfl) ?_
  rintro e w2 ⟨rfl, hb2⟩
  go_wp2_with fail
  have hb3 : Below W.heap.size W w2 := hHeld.2.2.2.2.2.trans (hb2.mono hHeld.2.2.2.2.2.size)
  have HB3 : Hid (Below W.heap.size W w2) := hb3
  have hHw : True ∧ _ := ⟨trivial, HC.out _ hb3⟩
  unfold Kx at hHw
  obtain ⟨_, _, _, d0, d1, _⟩ := hHw
  have hHw : True ∧ _ := ⟨trivial, HC.out _ hb3⟩
  unfold Kx at hHw
  have dz := HZ.out _ hb3
  clear hb2 hb3
  refine hK.out _ _ ⟨trivial, fun _ => hHw.2⟩ ?_
  clear hK K
  refine wpAnyT_takeB (i := 7) (oi := ⟨some 20, .nilCheck (.tmp 13), _, _, _, _⟩) (v := ?vR2c1x7) rfl (by kernel_rfl) (by kernel_rfl) (by kernel_rfl) (by kernel_rfl) (fun _ _ _ h => h) (Or.inl ⟨by rfl, ?hyR2c1x7⟩) (by assumption) ?restR2c1x7
  case hyR2c1x7 => (intro w hSw; (try dsimp only at hSw); go_simp; try (with_reducible rfl))
  try simp only [Act.put, List.setIfInBounds_toArray, List.set_cons_zero, List.set_cons_succ]
  refine wpAnyT_takeB (i := 8) (oi := ⟨some 21, .fieldAddr 105 (.tmp 20) 0, _, _, _, _⟩) (v := ?vR2c1x8) rfl (by kernel_rfl) (by kernel_rfl) (by kernel_rfl) (by kernel_rfl) (fun _ _ _ h => h) (Or.inl ⟨by rfl, ?hyR2c1x8⟩) (by assumption) ?restR2c1x8
  case hyR2c1x8 => (intro w hSw; (try dsimp only at hSw); go_simp; try (with_reducible rfl))
  try simp only [Act.put, List.setIfInBounds_toArray, List.set_cons_zero, List.set_cons_succ]
  refine wpAnyT_late (i := 9) (o := ⟨none, .store 101 (.tmp 21) (.tmp 19), _, _, _, _⟩) (by kernel_rfl) rfl (by kernel_rfl) (fun K hK => ?_)
  go_simp
  refine hK.out _ _ ?shR2c1x9 ?restR2c1x9
  case shR2c1x9 => ((try dsimp only); all_goals trivial)
  clear hK K
  try simp only [Act.put, List.setIfInBounds_toArray, List.set_cons_zero, List.set_cons_succ]
  refine wpAnyT_done (by kernel_rfl) ?_ _
  go_wp2_with fail
  go_end0
  have hf := HF.out _ HB3.out
  exact ⟨rfl, hf.1, (HK.out.next HB3.out HBs.out).trans hf.2⟩
end Go.Proofs.YtlcegpnnanhloaaGreatDoor
