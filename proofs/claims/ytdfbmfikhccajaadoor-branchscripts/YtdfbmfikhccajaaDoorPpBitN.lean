/-
  Bits of a number: the lowest, the highest, how many.
-/
import Derived.Lib.BitFns
namespace PpN

theorem first_of (p : Nat → Bool) : ∀ n i, i < n → p i = true → ∃ j, j ≤ i ∧ p j = true ∧ ∀ k, k < j → p k = false := by
  intro n
  induction n with
  | zero => intro i h; exact absurd h (by omega)
  | succ n ih =>
    intro i hi hp
    by_cases h : ∃ k, k < i ∧ p k = true
    · obtain ⟨k, hk, hpk⟩ := h
      obtain ⟨j, hj, h1, h2⟩ := ih k (by omega) hpk
      exact ⟨j, by omega, h1, h2⟩
    · refine ⟨i, Nat.le_refl _, hp, fun k hk => ?_⟩
      cases e : p k
      · rfl
      · exact absurd ⟨k, hk, e⟩ h
theorem mod_zero (a j : Nat) (h : ∀ k, k < j → a.testBit k = false) : a % 2 ^ j = 0 := by
  apply Nat.eq_of_testBit_eq
  intro i
  rw [Nat.testBit_mod_two_pow, Nat.zero_testBit]
  by_cases hi : i < j
  · rw [h i hi]; simp
  · simp [hi]
/-- The lowest bit alone. -/
theorem low_bit (a j : Nat) (ha : a < 2 ^ 32) (h1 : a.testBit j = true) (h2 : ∀ k, k < j → a.testBit k = false) : a &&& (2 ^ 32 - a) = 2 ^ j := by
  have hpos : 0 < a := by
    rcases Nat.eq_zero_or_pos a with h | h
    · rw [h, Nat.zero_testBit] at h1; cases h1
    · exact h
  have hz := mod_zero a j h2
  have hd : a = 2 ^ j * (a / 2 ^ j) := by
    have := Nat.div_add_mod a (2 ^ j)
    rw [hz] at this
    omega
  have ho : (a / 2 ^ j) % 2 = 1 := by
    rw [Nat.testBit_eq_decide_div_mod_eq] at h1
    exact of_decide_eq_true h1
  obtain ⟨m, hm⟩ : ∃ m, a / 2 ^ j = 2 * m + 1 := ⟨a / 2 ^ j / 2, by omega⟩
  rw [hm] at hd
  have hp : 0 < 2 ^ j := Nat.two_pow_pos j
  have hsub : a - 1 = 2 ^ j * (2 * m) + (2 ^ j - 1) := by
    rw [hd, Nat.mul_add]
    omega
  have hx := fun i => Nat.testBit_two_pow_sub_succ (n := 32) (x := a - 1) (by omega) i
  rw [show a - 1 + 1 = a by omega] at hx
  apply Nat.eq_of_testBit_eq
  intro i
  rw [Nat.testBit_and, hx i, Nat.testBit_two_pow, hsub, Nat.testBit_two_pow_mul_add (2 * m) (b := 2 ^ j - 1) (by omega)]
  by_cases hi : i < j
  · rw [h2 i hi]
    simp
    omega
  · rw [if_neg hi]
    have e1 : a.testBit i = (2 * m + 1).testBit (i - j) := by
      have := Nat.testBit_two_pow_mul_add (i := j) (2 * m + 1) (b := 0) hp i
      rw [Nat.add_zero, ← hd, if_neg hi] at this
      exact this
    have hi32 : a.testBit i = true → i < 32 := fun h => by
      rcases Nat.lt_or_ge i 32 with h3 | h3
      · exact h3
      · rw [Nat.testBit_lt_two_pow (Nat.lt_of_lt_of_le ha (Nat.pow_le_pow_right (by decide) h3))] at h; cases h
    by_cases hij : i = j
    · subst hij
      rw [h1, Nat.sub_self]
      have := hi32 h1
      simp [this]
    · obtain ⟨k, hk⟩ : ∃ k, i - j = k + 1 := ⟨i - j - 1, by omega⟩
      rw [hk] at e1
      rw [hk, e1, Nat.testBit_succ, Nat.testBit_succ, show (2 * m + 1) / 2 = m by omega, show 2 * m / 2 = m by omega]
      have : ¬ j = i := fun e => hij e.symm
      simp [this]
      intro h _
      exact h
theorem len_bounds : ∀ (f x : Nat), x < 2 ^ f → x ≠ 0 → 1 ≤ Go.Lib.bitLenAux f x ∧ 2 ^ (Go.Lib.bitLenAux f x - 1) ≤ x ∧ x < 2 ^ Go.Lib.bitLenAux f x := by
  intro f
  induction f with
  | zero => intro x h h0; exact absurd (by simpa using h) h0
  | succ f ih =>
    intro x h h0
    unfold Go.Lib.bitLenAux
    rw [if_neg h0]
    by_cases h2 : x / 2 = 0
    · have hx : x = 1 := by omega
      subst hx
      have : Go.Lib.bitLenAux f (1 / 2) = 0 := by
        show Go.Lib.bitLenAux f 0 = 0
        cases f <;> simp [Go.Lib.bitLenAux]
      rw [this]
      simp
    · have h3 : x / 2 < 2 ^ f := by rw [Nat.pow_succ] at h; omega
      obtain ⟨a, b, c⟩ := ih (x / 2) h3 h2
      obtain ⟨n, hn⟩ : ∃ n, Go.Lib.bitLenAux f (x / 2) = n + 1 := ⟨Go.Lib.bitLenAux f (x / 2) - 1, by omega⟩
      rw [hn] at b c ⊢
      simp only [Nat.add_sub_cancel] at b
      rw [show 1 + (n + 1) - 1 = n + 1 by omega, show 1 + (n + 1) = n + 1 + 1 by omega]
      rw [Nat.pow_succ] at c ⊢
      rw [Nat.pow_succ]
      have := Nat.pow_succ 2 n
      refine ⟨by omega, by omega, by omega⟩
/-- The highest bit. -/
theorem high_bit (x : Nat) (h : x < 2 ^ 32) (h0 : x ≠ 0) : 1 ≤ Go.Lib.bitLen x ∧ Go.Lib.bitLen x ≤ 32 ∧ x.testBit (Go.Lib.bitLen x - 1) = true ∧ ∀ i, Go.Lib.bitLen x ≤ i → x.testBit i = false := by
  have hx : x < 2 ^ 64 := Nat.lt_of_lt_of_le h (by decide)
  obtain ⟨a, b, c⟩ := len_bounds 64 x hx h0
  have e : Go.Lib.bitLenAux 64 x = Go.Lib.bitLen x := rfl
  rw [e] at a b c
  refine ⟨a, Go.Lib.bitLen_le x 32 (by decide) h, ?_, fun i hi => Nat.testBit_lt_two_pow (Nat.lt_of_lt_of_le c (Nat.pow_le_pow_right (by decide) hi))⟩
  rw [Nat.testBit_eq_decide_div_mod_eq]
  have hp : 2 ^ (Go.Lib.bitLen x) = 2 ^ (Go.Lib.bitLen x - 1) * 2 := by
    rw [← Nat.pow_succ]
    congr 1
    omega
  have : x / 2 ^ (Go.Lib.bitLen x - 1) = 1 := by
    apply Nat.div_eq_of_lt_le
    · omega
    · omega
  rw [this]
  rfl

/-! How many. -/
def cnt (p : Nat → Bool) (n : Nat) : Nat := (List.range n).countP p
theorem cnt_succ (p : Nat → Bool) (n : Nat) : cnt p (n + 1) = cnt p n + if p n = true then 1 else 0 := by
  unfold cnt
  rw [List.range_succ, List.countP_append]
  simp [List.countP_cons]
theorem cnt_add (p : Nat → Bool) (m n : Nat) : cnt p (m + n) = cnt p m + cnt (fun k => p (m + k)) n := by
  unfold cnt
  rw [List.range_add, List.countP_append, List.countP_map]
  rfl
theorem cnt_congr {p q : Nat → Bool} {n : Nat} (h : ∀ k, k < n → p k = q k) : cnt p n = cnt q n := by
  unfold cnt
  apply List.countP_congr
  intro x hx
  rw [h x (List.mem_range.1 hx)]
theorem cnt_zero {p : Nat → Bool} {n : Nat} (h : ∀ k, k < n → p k = false) : cnt p n = 0 := by
  induction n with
  | zero => rfl
  | succ n ih => rw [cnt_succ, ih (fun k hk => h k (by omega)), h n (by omega)]; rfl
theorem cnt_pos {p : Nat → Bool} {n i : Nat} (hi : i < n) (h : p i = true) : 1 ≤ cnt p n := by
  induction n with
  | zero => omega
  | succ n ih =>
    rw [cnt_succ]
    by_cases e : i = n
    · subst e; rw [if_pos h]; omega
    · have := ih (by omega); omega
theorem cnt_one {p : Nat → Bool} {n : Nat} (h : ∀ i j, i < j → j < n → p i = true → p j = false) : cnt p n ≤ 1 := by
  induction n with
  | zero => exact Nat.zero_le _
  | succ n ih =>
    rw [cnt_succ]
    split
    · rename_i hp
      rw [cnt_zero fun k hk => ?_]
      · exact Nat.le_refl _
      · cases e : p k
        · rfl
        · rw [h k n hk (by omega) e] at hp; cases hp
    · have := ih (fun i j a b => h i j a (by omega)); omega
theorem cnt_two {p : Nat → Bool} {n i j : Nat} (h1 : i < j) (h2 : j < n) (hi : p i = true) (hj : p j = true) : 2 ≤ cnt p n := by
  induction n with
  | zero => omega
  | succ n ih =>
    rw [cnt_succ]
    by_cases e : j = n
    · subst e
      have := cnt_pos h1 hi
      rw [if_pos hj]
      omega
    · have := ih (by omega); omega
theorem pop_cnt8 : ∀ n : Fin 256, Go.Lib.pop8 (n.val : Int) = (cnt n.val.testBit 8 : Int) := by decide +kernel
theorem pop_cnt (x : Nat) (h : x < 256) : Go.Lib.pop8 (x : Int) = (cnt x.testBit 8 : Int) := pop_cnt8 ⟨x, h⟩
theorem ones_cnt (a : Nat) (h : a < 2 ^ 32) : Go.Lib.pop8 ((a / 2 ^ 24 : Nat) : Int) + Go.Lib.pop8 ((a / 2 ^ 16 % 256 : Nat) : Int) + Go.Lib.pop8 ((a / 2 ^ 8 % 256 : Nat) : Int) + Go.Lib.pop8 ((a % 256 : Nat) : Int) = (cnt a.testBit 32 : Int) := by
  rw [pop_cnt _ (by omega), pop_cnt _ (by omega), pop_cnt _ (by omega), pop_cnt _ (by omega)]
  have e0 : cnt (a % 256).testBit 8 = cnt a.testBit 8 := cnt_congr fun k hk => by
    rw [show (256 : Nat) = 2 ^ 8 by decide, Nat.testBit_mod_two_pow]; simp [hk]
  have e1 : cnt (a / 2 ^ 8 % 256).testBit 8 = cnt (fun k => a.testBit (8 + k)) 8 := cnt_congr fun k hk => by
    rw [show (256 : Nat) = 2 ^ 8 by decide, Nat.testBit_mod_two_pow, Nat.testBit_div_two_pow, Nat.add_comm]; simp [hk]
  have e2 : cnt (a / 2 ^ 16 % 256).testBit 8 = cnt (fun k => a.testBit (16 + k)) 8 := cnt_congr fun k hk => by
    rw [show (256 : Nat) = 2 ^ 8 by decide, Nat.testBit_mod_two_pow, Nat.testBit_div_two_pow, Nat.add_comm]; simp [hk]
  have e3 : cnt (a / 2 ^ 24).testBit 8 = cnt (fun k => a.testBit (24 + k)) 8 := cnt_congr fun k hk => by
    rw [Nat.testBit_div_two_pow, Nat.add_comm]
  rw [e0, e1, e2, e3, show (32 : Nat) = 8 + 8 + 8 + 8 by decide, cnt_add, cnt_add, cnt_add]
  show _ = ((cnt a.testBit 8 + cnt (fun k => a.testBit (8 + k)) 8 + cnt (fun k => a.testBit (16 + k)) 8 + cnt (fun k => a.testBit (24 + k)) 8 : Nat) : Int)
  omega
end PpN
