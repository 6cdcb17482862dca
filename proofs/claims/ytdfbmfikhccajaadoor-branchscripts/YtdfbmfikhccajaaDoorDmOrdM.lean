/-
  P11.6, of stores as lists: what the places of a set say, and cuts in any order.
-/
import Derived.Test.YtdfbmfikhccajaaDoorDmOpen
import Derived.Laws.BitsAllLaws
namespace Go.Proofs.YtdfbmfikhccajaaDoor
open Go.RowKit

/-- A word's bit. -/
def wb (x : Int) (j : Nat) : Bool := x.toNat.testBit j
theorem wb_ext {x y : Int} (hx : IsW x) (hy : IsW y) (h : ∀ j, j < 32 → wb x j = wb y j) : x = y := by
  have e : x.toNat = y.toNat := Nat.eq_of_testBit_eq fun j => by
    rcases Nat.lt_or_ge j 32 with hj | hj
    · exact h j hj
    · have p : 4294967296 ≤ 2 ^ j := by
        have := Nat.pow_le_pow_right (n := 2) (by decide) hj
        simpa using this
      rw [Nat.testBit_lt_two_pow (by have := hx.2; have := hx.1; omega), Nat.testBit_lt_two_pow (by have := hy.2; have := hy.1; omega)]
  have := hx.1
  have := hy.1
  omega
theorem wb_and {x y : Int} (hx : IsW x) (hy : IsW y) (j : Nat) : wb (bits .and .u32 x y) j = (wb x j && wb y j) := by
  unfold wb
  rw [u32_and x y hx.1 hx.2 hy.1 hy.2, Int.toNat_natCast, Nat.testBit_and]
theorem wb_less {x y : Int} (hx : IsW x) (hy : IsW y) (j : Nat) (hj : j < 32) : wb (bits .andNot .u32 x y) j = (wb x j && !wb y j) := by
  unfold wb
  rw [u32_andNot x y hx.1 hx.2 hy.1 hy.2, Int.toNat_natCast, Nat.testBit_and]
  congr 1
  have h := Nat.testBit_two_pow_sub_succ (n := 32) (x := y.toNat) (by have := hy.2; have := hy.1; omega) j
  rw [show 4294967295 - y.toNat = 2 ^ 32 - (y.toNat + 1) by omega, h]
  simp [hj]
theorem wb_from (k i : Int) (j : Nat) (hj : j < 32) : wb (fWd k i) j = decide (k - i * 32 ≤ (j : Int)) := by
  unfold wb fWd
  obtain ⟨s, hs, hs2⟩ : ∃ s : Nat, (fCl (k - i * 32)).toNat = s ∧ (s ≤ j ↔ k - i * 32 ≤ (j : Int)) := by
    refine ⟨_, rfl, ?_⟩
    unfold fCl
    split
    · split at * <;> omega
    · split at * <;> omega
  rw [hs]
  have e : ((4294967295 : Int) * 2 ^ s % 4294967296).toNat = (4294967295 * 2 ^ s) % 2 ^ 32 := by
    have : ((4294967295 : Int) * 2 ^ s % 4294967296) = (((4294967295 * 2 ^ s) % 2 ^ 32 : Nat) : Int) := by
      rw [Int.natCast_emod, Int.natCast_mul, Int.natCast_pow]
      rfl
    rw [this, Int.toNat_natCast]
  rw [e, Nat.testBit_mod_two_pow, Nat.testBit_mul_two_pow]
  have h1 : (4294967295 : Nat).testBit (j - s) = true := by
    have := Nat.testBit_two_pow_sub_one 32 (j - s)
    rw [show (4294967295 : Nat) = 2 ^ 32 - 1 by decide, this]
    simp
    omega
  rw [h1]
  simp [hj, hs2]
/-- A place of a set. -/
def bt (a b : Int) (k : Nat) : Bool := if k < 32 then wb a k else wb b (k - 32)
theorem wb_at {x : Int} (hx : IsW x) (j : Nat) : (bits .and .u32 (x / 2 ^ j) 1 == 1) = wb x j := by
  have hp : (0 : Int) < 2 ^ j := Int.pow_pos (by decide)
  have h1 : 0 ≤ x / 2 ^ j := Int.ediv_nonneg hx.1 (Int.le_of_lt hp)
  have h2 : x / 2 ^ j < 4294967296 := Int.lt_of_le_of_lt (Int.ediv_le_self _ hx.1) hx.2
  rw [u32_and _ 1 h1 h2 (by decide) (by decide)]
  unfold wb
  obtain ⟨n, rfl⟩ : ∃ n : Nat, x = (n : Int) := ⟨x.toNat, by have := hx.1; omega⟩
  have e : ((n : Int) / 2 ^ j).toNat = n / 2 ^ j := by
    have : ((n : Int) / 2 ^ j) = ((n / 2 ^ j : Nat) : Int) := by rw [Int.natCast_ediv, Int.natCast_pow]; rfl
    rw [this, Int.toNat_natCast]
  rw [e, Int.toNat_natCast, Nat.testBit_eq_decide_div_mod_eq, show (1 : Int).toNat = 1 from rfl, Nat.and_one_is_mod]
  have hm : n / 2 ^ j % 2 = 0 ∨ n / 2 ^ j % 2 = 1 := by omega
  rcases hm with h | h <;> simp [h]
theorem btAt_bt {a b : Int} (ha : IsW a) (hb : IsW b) (k : Nat) (hk : k < 64) : btAt a b (k : Int) = bt a b k := by
  unfold btAt bt
  have h0 : (0 : Int) ≤ (k : Int) := by omega
  have h1 : (k : Int) < 64 := by omega
  simp only [h0, h1, decide_true, Bool.true_and]
  by_cases h : k < 32
  · have e : ((k : Int) % 32).toNat = k := by omega
    rw [if_pos (by omega), if_pos h, e]
    exact wb_at ha k
  · have e : ((k : Int) % 32).toNat = k - 32 := by omega
    rw [if_neg (by omega), if_neg h, e]
    exact wb_at hb (k - 32)
theorem bt_ext {a b c d : Int} (ha : IsW a) (hb : IsW b) (hc : IsW c) (hd : IsW d) (h : ∀ k, k < 64 → bt a b k = bt c d k) : a = c ∧ b = d := by
  refine ⟨wb_ext ha hc fun j hj => ?_, wb_ext hb hd fun j hj => ?_⟩
  · have := h j (by omega)
    unfold bt at this
    rwa [if_pos hj, if_pos hj] at this
  · have := h (j + 32) (by omega)
    unfold bt at this
    rw [if_neg (by omega), if_neg (by omega), show j + 32 - 32 = j by omega] at this
    exact this
theorem bt_from (q : Int) (k : Nat) (hk : k < 64) : bt (fWd q 0) (fWd q 1) k = decide (q ≤ (k : Int)) := by
  unfold bt
  split
  · rename_i h
    rw [wb_from q 0 k h]
    congr 1
    exact propext (by omega)
  · rename_i h
    rw [wb_from q 1 (k - 32) (by omega)]
    congr 1
    exact propext (by omega)
theorem bt_and {a b c d : Int} (ha : IsW a) (hb : IsW b) (hc : IsW c) (hd : IsW d) (k : Nat) : bt (bits .and .u32 a c) (bits .and .u32 b d) k = (bt a b k && bt c d k) := by
  unfold bt
  split
  · exact wb_and ha hc k
  · exact wb_and hb hd (k - 32)
theorem bt_less {a b c d : Int} (ha : IsW a) (hb : IsW b) (hc : IsW c) (hd : IsW d) (k : Nat) (hk : k < 64) : bt (bits .andNot .u32 a c) (bits .andNot .u32 b d) k = (bt a b k && !bt c d k) := by
  unfold bt
  split
  · rename_i h
    exact wb_less ha hc k h
  · exact wb_less hb hd (k - 32) (by omega)
/-- Does a cut take a value? -/
def takesB (kind cv v : Int) : Bool := (kind == 1 && decide (v < cv)) || (kind == 2 && decide (cv < v)) || (kind == 3 && v == cv)
theorem bt_cut {f a b : Int} (ha : IsW a) (hb : IsW b) (kind cv : Int) (k : Nat) (hk : k < 64) : bt (lWd (dPlc f cv) kind a 0) (lWd (dPlc f cv) kind b 1) k = (bt a b k && !takesB kind cv (f + (k : Int))) := by
  have w0 := isW_fWd
  unfold lWd takesB
  by_cases h1 : kind = 1
  · subst h1
    rw [if_pos rfl, if_pos rfl, bt_and ha hb (w0 _ _) (w0 _ _), bt_from _ k hk]
    congr 1
    have : (dPlc f cv ≤ (k : Int)) ↔ ¬ (f + (k : Int) < cv) := by unfold dPlc; omega
    by_cases h : dPlc f cv ≤ (k : Int)
    · simp [h, this.1 h]
    · have h2 : f + (k : Int) < cv := by
        rcases Int.lt_or_le (f + (k : Int)) cv with h3 | h3
        · exact h3
        · exact absurd (this.2 (by omega)) h
      simp [h, h2]
  by_cases h2 : kind = 2
  · subst h2
    rw [if_neg (by decide), if_pos rfl, if_neg (by decide), if_pos rfl, bt_less ha hb (w0 _ _) (w0 _ _) k hk, bt_from _ k hk]
    congr 1
    have : (dPlc f cv + 1 ≤ (k : Int)) ↔ (cv < f + (k : Int)) := by unfold dPlc; omega
    by_cases h : dPlc f cv + 1 ≤ (k : Int)
    · simp [h, this.1 h]
    · have h3 : ¬ cv < f + (k : Int) := fun e => h (this.2 e)
      simp [h, h3]
  by_cases h3 : kind = 3
  · subst h3
    rw [if_neg (by decide), if_neg (by decide), if_pos rfl, if_neg (by decide), if_neg (by decide), if_pos rfl]
    unfold oWd
    rw [bt_less ha hb (isW_bits _ _ _) (isW_bits _ _ _) k hk, bt_less (w0 _ _) (w0 _ _) (w0 _ _) (w0 _ _) k hk, bt_from _ k hk, bt_from _ k hk]
    congr 1
    have : (dPlc f cv ≤ (k : Int) ∧ ¬ dPlc f cv + 1 ≤ (k : Int)) ↔ f + (k : Int) = cv := by unfold dPlc; omega
    by_cases h : f + (k : Int) = cv
    · have h4 := this.2 h
      simp [h, h4.1, h4.2]
    · by_cases h5 : dPlc f cv ≤ (k : Int)
      · have h6 : dPlc f cv + 1 ≤ (k : Int) := by
          rcases Int.lt_or_le (k : Int) (dPlc f cv + 1) with h7 | h7
          · exact absurd (this.1 ⟨h5, by omega⟩) h
          · exact h7
        simp [h, h5, h6]
      · simp [h, h5]
  · rw [if_neg h1, if_neg h2, if_neg h3, if_neg h1, if_neg h2, if_neg h3]
    simp [h1, h2, h3]
theorem bt_whole (lo hi : Int) (k : Nat) (hk : k < 64) : bt (wWd lo hi 0) (wWd lo hi 1) k = decide ((k : Int) ≤ hi - lo) := by
  have w0 := isW_fWd
  unfold wWd
  rw [bt_less (w0 _ _) (w0 _ _) (w0 _ _) (w0 _ _) k hk, bt_from _ k hk, bt_from _ k hk]
  have h0 : (0 : Int) ≤ (k : Int) := by omega
  by_cases h : (k : Int) ≤ hi - lo
  · have : ¬ hi - lo + 1 ≤ (k : Int) := by omega
    simp [h, h0, this]
  · have : hi - lo + 1 ≤ (k : Int) := by omega
    simp [h, h0, this]
/-- A cut of a script. -/
structure Ct where
  k : Int
  x : Int
  v : Int
theorem Dm.ext {d e : Dm} (h1 : d.f = e.f) (h2 : d.a = e.a) (h3 : d.b = e.b) : d = e := by
  cases d; cases e; simp_all
theorem cut_len (s : St) (k x v : Int) : (s.cut k x v).now.length = s.now.length ∧ (s.cut k x v).noted = s.noted ∧ (s.cut k x v).marks = s.marks := by
  unfold St.cut
  split
  · exact ⟨rfl, rfl, rfl⟩
  · split
    · exact ⟨List.length_set, rfl, rfl⟩
    · exact ⟨rfl, rfl, rfl⟩
/-- A cut that may be done leaves the domain cut, and the others. -/
theorem may_cut {s : St} (c : Ct) (h : s.may c.k c.x c.v = true) (y : Nat) (hy : y < s.now.length) : ∃ h2 : y < (s.cut c.k c.x c.v).now.length, (s.cut c.k c.x c.v).now[y] = if c.x = (y : Int) then s.now[y].cut c.k c.v else s.now[y] := by
  have hl := (cut_len s c.k c.x c.v).1
  refine ⟨by omega, ?_⟩
  cases hi : isB s.now.length c.x with
  | false =>
    have hne : c.x ≠ (y : Int) := fun e => by
      rw [e] at hi
      simp [isB] at hi
      omega
    have e := (cut_no (k := c.k) (v := c.v) hi).1
    simp only [e, if_neg hne]
  | true =>
    obtain ⟨q, hq, hq2⟩ : ∃ q : Nat, c.x = (q : Int) ∧ q < s.now.length := by
      simp [isB] at hi
      exact ⟨c.x.toNat, by omega, by omega⟩
    rw [hq] at h
    obtain ⟨e1, e2, e3⟩ := cut_yes (s := s) (k := c.k) (v := c.v) hq2
    rw [e3] at h
    simp only [hq]
    cases hw : s.now[q].went c.k c.v with
    | true =>
      have e4 : s.cut c.k q c.v = { s with now := s.now.set q (s.now[q].cut c.k c.v) } := by rw [e1, hw, if_pos rfl]
      simp only [e4]
      by_cases hyq : q = y
      · subst hyq
        simp
      · rw [List.getElem_set_ne hyq, if_neg (by omega)]
    | false =>
      have e4 : s.cut c.k q c.v = s := by rw [e1, hw]; rfl
      simp only [e4]
      by_cases hyq : q = y
      · subst hyq
        rw [if_pos rfl]
        unfold Dm.may at h
        unfold Dm.went at hw
        have heq : (s.now[q].cut c.k c.v).eqB s.now[q] = true := by
          cases h1 : (s.now[q].cut c.k c.v).eqB s.now[q] with
          | true => rfl
          | false =>
            rw [h1] at h hw
            simp at h hw
            rw [h] at hw
            cases hw
        unfold Dm.eqB at heq
        simp at heq
        exact (Dm.ext (d := s.now[q].cut c.k c.v) (e := s.now[q]) rfl heq.1 heq.2).symm
      · rw [if_neg (by omega)]
/-- Cuts, one behind the other. -/
def St.cuts : St → List Ct → Option St
  | s, [] => some s
  | s, c :: r => if s.may c.k c.x c.v then (s.cut c.k c.x c.v).cuts r else none
theorem good_cut {s : St} (hg : ∀ d ∈ s.now, d.Ok) (c : Ct) : ∀ d ∈ (s.cut c.k c.x c.v).now, d.Ok := by
  unfold St.cut
  split
  · exact hg
  · split
    · rename_i d hd _
      intro e he
      rcases List.mem_or_eq_of_mem_set he with he | rfl
      · exact hg e he
      · exact (hg d (List.mem_of_getElem? hd)).cut _ _
    · exact hg
/-- What is left behind cuts: as many variables, the same first values, and of the places those that no cut takes. -/
theorem cuts_bits {l : List Ct} {s t : St} (hg : ∀ d ∈ s.now, d.Ok) (h : s.cuts l = some t) : (∀ d ∈ t.now, d.Ok) ∧ t.now.length = s.now.length ∧ t.noted = s.noted ∧ t.marks = s.marks ∧ ∀ (y : Nat) (hy : y < s.now.length) (hy2 : y < t.now.length), t.now[y].f = s.now[y].f ∧ ∀ k, k < 64 → bt t.now[y].a t.now[y].b k = (bt s.now[y].a s.now[y].b k && l.all fun c => !(decide (c.x = (y : Int)) && takesB c.k c.v (s.now[y].f + (k : Int)))) := by
  induction l generalizing s with
  | nil =>
    injection h with h
    subst h
    exact ⟨hg, rfl, rfl, rfl, fun y hy _ => ⟨rfl, fun k _ => by simp⟩⟩
  | cons c r ih =>
    unfold St.cuts at h
    split at h
    · rename_i hm
      obtain ⟨g1, g2, g3, g4, g5⟩ := ih (good_cut hg c) h
      obtain ⟨q1, q2, q3⟩ := cut_len s c.k c.x c.v
      refine ⟨g1, g2.trans q1, g3.trans q2, g4.trans q3, fun y hy hy2 => ?_⟩
      obtain ⟨hy3, hcy⟩ := may_cut c hm y hy
      obtain ⟨e1, e2⟩ := g5 y hy3 hy2
      have hok := hg s.now[y] (List.getElem_mem hy)
      have hf : ((s.cut c.k c.x c.v).now[y]).f = s.now[y].f := by
        rw [hcy]
        split <;> rfl
      refine ⟨e1.trans hf, fun k hk => ?_⟩
      rw [e2 k hk, hf, List.all_cons, hcy]
      by_cases hx : c.x = (y : Int)
      · rw [if_pos hx]
        have hb := bt_cut (f := s.now[y].f) hok.a hok.b c.k c.v k hk
        show (bt (lWd (dPlc s.now[y].f c.v) c.k s.now[y].a 0) (lWd (dPlc s.now[y].f c.v) c.k s.now[y].b 1) k && _) = _
        rw [hb]
        simp [hx, Bool.and_assoc]
      · rw [if_neg hx]
        simp [hx]
    · cases h
/-- Two stores with the same places are one. -/
theorem now_ext {s t : St} (hs : ∀ d ∈ s.now, d.Ok) (ht : ∀ d ∈ t.now, d.Ok) (hl : s.now.length = t.now.length) (h : ∀ (y : Nat) (hy : y < s.now.length) (hy2 : y < t.now.length), s.now[y].f = t.now[y].f ∧ ∀ k, k < 64 → bt s.now[y].a s.now[y].b k = bt t.now[y].a t.now[y].b k) : s.now = t.now := by
  refine List.ext_getElem hl fun y hy hy2 => ?_
  obtain ⟨h1, h2⟩ := h y hy hy2
  have o1 := hs s.now[y] (List.getElem_mem hy)
  have o2 := ht t.now[y] (List.getElem_mem hy2)
  obtain ⟨e1, e2⟩ := bt_ext o1.a o1.b o2.a o2.b h2
  exact Dm.ext h1 e1 e2
/-- Cuts in another order leave the same domains. -/
theorem cuts_order {l r : List Ct} {s t u : St} (hg : ∀ d ∈ s.now, d.Ok) (hlr : ∀ c, c ∈ l ↔ c ∈ r) (h1 : s.cuts l = some t) (h2 : s.cuts r = some u) : t.now = u.now := by
  obtain ⟨a1, a2, _, _, a5⟩ := cuts_bits hg h1
  obtain ⟨b1, b2, _, _, b5⟩ := cuts_bits hg h2
  refine now_ext a1 b1 (a2.trans b2.symm) fun y hy hy2 => ?_
  obtain ⟨e1, e2⟩ := a5 y (by omega) hy
  obtain ⟨f1, f2⟩ := b5 y (by omega) hy2
  refine ⟨e1.trans f1.symm, fun k hk => ?_⟩
  rw [e2 k hk, f2 k hk]
  congr 1
  rw [Bool.eq_iff_iff, List.all_eq_true, List.all_eq_true]
  exact ⟨fun h c hc => h c ((hlr c).2 hc), fun h c hc => h c ((hlr c).1 hc)⟩
/-- A cut that takes nothing may be done, and leaves all. -/
theorem cut_nothing {s : St} (hg : ∀ d ∈ s.now, d.Ok) (c : Ct) (h : ∀ (y : Nat) (hy : y < s.now.length) k, k < 64 → c.x = (y : Int) → bt s.now[y].a s.now[y].b k = true → takesB c.k c.v (s.now[y].f + (k : Int)) = false) : s.may c.k c.x c.v = true ∧ s.cut c.k c.x c.v = s := by
  cases hi : isB s.now.length c.x with
  | false =>
    have := cut_no (k := c.k) (v := c.v) hi
    exact ⟨this.2.2, this.1⟩
  | true =>
    obtain ⟨q, hq, hq2⟩ : ∃ q : Nat, c.x = (q : Int) ∧ q < s.now.length := by
      simp [isB] at hi
      exact ⟨c.x.toNat, by omega, by omega⟩
    obtain ⟨e1, e2, e3⟩ := cut_yes (s := s) (k := c.k) (v := c.v) hq2
    have hok := hg s.now[q] (List.getElem_mem hq2)
    have hb := bt_ext (isW_lWd (at_ := dPlc s.now[q].f c.v) (k := c.k) (i := 0) hok.a) (isW_lWd (at_ := dPlc s.now[q].f c.v) (k := c.k) (i := 1) hok.b) hok.a hok.b fun k hk => by
      rw [bt_cut hok.a hok.b c.k c.v k hk]
      cases hbt : bt s.now[q].a s.now[q].b k with
      | false => rfl
      | true => rw [h q hq2 k hk hq hbt]; rfl
    have heq : (s.now[q].cut c.k c.v).eqB s.now[q] = true := by
      unfold Dm.eqB Dm.cut
      simp only [hb.1, hb.2, beq_self_eq_true, Bool.and_self]
    have hw : s.now[q].went c.k c.v = false := by unfold Dm.went; rw [heq]; rfl
    have hm : s.now[q].may c.k c.v = true := by unfold Dm.may; rw [heq]; rfl
    rw [hq]
    exact ⟨e3.trans hm, by rw [e1, hw]; rfl⟩
/-- The same cuts again leave all. -/
theorem cuts_again {l : List Ct} {s t : St} (hg : ∀ d ∈ s.now, d.Ok) (h : s.cuts l = some t) : ∀ r : List Ct, (∀ c ∈ r, c ∈ l) → t.cuts r = some t := by
  obtain ⟨a1, a2, _, _, a5⟩ := cuts_bits hg h
  intro r
  induction r with
  | nil => intro _; rfl
  | cons c r ih =>
    intro hr
    obtain ⟨m1, m2⟩ := cut_nothing a1 c (fun y hy k hk hx hb => by
      obtain ⟨e1, e2⟩ := a5 y (by omega) hy
      rw [e2 k hk] at hb
      rw [Bool.and_eq_true, List.all_eq_true] at hb
      have := hb.2 c (hr c List.mem_cons_self)
      rw [e1]
      simpa [hx] using this)
    unfold St.cuts
    rw [m1, if_pos rfl, m2]
    exact ih (fun c hc => hr c (List.mem_cons_of_mem _ hc))
end Go.Proofs.YtdfbmfikhccajaaDoor
