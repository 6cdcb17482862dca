/-
  Sums of limbs at places: what the program's sums, differences and products come to.
-/
import Derived.Test.YtjffbndiecjkjaaGreatDoorLimbs
namespace Go.Proofs.YtjffbndiecjkjaaGreatDoor
open Bn (limbs)

/-- The limb at a place; 0 behind the last. -/
def lAt (l : List Nat) (p : Nat) : Nat := l.getD p 0
theorem lAt_lt {l : List Nat} (h : ∀ d ∈ l, d < 1000000000) (p : Nat) : lAt l p < 1000000000 := by
  unfold lAt
  rcases Nat.lt_or_ge p l.length with hp | hp
  · simp [hp, h _ (List.getElem_mem hp)]
  · simp [hp]
theorem lAt_get {l : List Nat} {p : Nat} (h : p < l.length) : lAt l p = l[p] := by simp [lAt, h]
theorem lAt_past {l : List Nat} {p : Nat} (h : l.length ≤ p) : lAt l p = 0 := by simp [lAt, h]

/-- The number that the sums f write at the first k places. -/
def sumP (f : Nat → Nat) : Nat → Nat
  | 0 => 0
  | k + 1 => sumP f k + 1000000000 ^ k * f k
theorem sumP_congr {f g : Nat → Nat} (h : ∀ p, f p = g p) (k : Nat) : sumP f k = sumP g k := by
  induction k with
  | zero => rfl
  | succ k ih => simp only [sumP, ih, h]
theorem sumP_add (f g : Nat → Nat) (k : Nat) : sumP (fun p => f p + g p) k = sumP f k + sumP g k := by
  induction k with
  | zero => rfl
  | succ k ih => simp only [sumP, ih, Nat.mul_add]; omega
theorem sumP_mul (f : Nat → Nat) (c k : Nat) : sumP (fun p => c * f p) k = c * sumP f k := by
  induction k with
  | zero => rfl
  | succ k ih => simp only [sumP, ih, Nat.mul_add]; rw [Nat.mul_left_comm]
theorem sumP_shift (f : Nat → Nat) (k : Nat) : sumP f (k + 1) = f 0 + 1000000000 * sumP (fun p => f (p + 1)) k := by
  induction k with
  | zero => simp [sumP]
  | succ k ih =>
    rw [show sumP f (k + 1 + 1) = sumP f (k + 1) + 1000000000 ^ (k + 1) * f (k + 1) from rfl, ih]
    simp only [sumP, Nat.mul_add, Nat.pow_succ]
    rw [Nat.mul_comm (1000000000 ^ k) 1000000000, Nat.mul_assoc]
    omega
theorem sumP_take (l : List Nat) (k : Nat) : sumP (lAt l) k = Bn.val (l.take k) := by
  induction k with
  | zero => simp [sumP, Bn.val]
  | succ k ih =>
    rw [sumP, ih]
    rcases Nat.lt_or_ge k l.length with h | h
    · rw [take_last l k h, Bn.val_append, List.length_take, Nat.min_eq_left (Nat.le_of_lt h), lAt_get h]
      simp [Bn.val]
    · rw [lAt_past h, List.take_of_length_le h, List.take_of_length_le (by omega)]; omega
theorem sumP_all {l : List Nat} {k : Nat} (h : l.length ≤ k) : sumP (lAt l) k = Bn.val l := by
  rw [sumP_take, List.take_of_length_le h]

/-- The limbs and the carry behind the first k sums. -/
def told (f : Nat → Nat) : Nat → List Nat × Nat
  | 0 => ([], 0)
  | k + 1 => ((told f k).1 ++ [((told f k).2 + f k) % 1000000000], ((told f k).2 + f k) / 1000000000)
theorem told_length (f : Nat → Nat) (k : Nat) : (told f k).1.length = k := by
  induction k with
  | zero => rfl
  | succ k ih => simp [told, ih]
theorem told_lt (f : Nat → Nat) (k : Nat) : ∀ d ∈ (told f k).1, d < 1000000000 := by
  induction k with
  | zero => simp [told]
  | succ k ih =>
    intro d hd
    simp only [told, List.mem_append, List.mem_singleton] at hd
    rcases hd with hd | rfl
    · exact ih d hd
    · omega
theorem told_val (f : Nat → Nat) (k : Nat) : Bn.val (told f k).1 + 1000000000 ^ k * (told f k).2 = sumP f k := by
  induction k with
  | zero => simp [told, sumP, Bn.val]
  | succ k ih =>
    simp only [told, sumP, Bn.val_append, told_length, Bn.val, ← ih]
    have h := Nat.mod_add_div ((told f k).2 + f k) 1000000000
    rw [Nat.pow_succ, Nat.mul_zero, Nat.add_zero, Nat.mul_assoc, Nat.add_assoc, ← Nat.mul_add, h, Nat.mul_add, Nat.add_assoc]
theorem told_carry (f : Nat → Nat) (M : Nat) (h : ∀ p, f p ≤ M) (k : Nat) : (told f k).2 ≤ M := by
  induction k with
  | zero => simp [told]
  | succ k ih => simp only [told]; have := h k; omega
theorem told_trim (f : Nat → Nat) (k : Nat) : trim ((told f k).1 ++ limbs (told f k).2) = limbs (sumP f k) := by
  rw [trim_eq _ (by
    intro d hd
    rcases List.mem_append.1 hd with h | h
    · exact told_lt f k d h
    · exact Bn.limbs_lt' h), Bn.val_append, told_length, Bn.val_limbs', told_val]

/-- The sum of the products that fall to a place. -/
def conv : List Nat → List Nat → Nat → Nat
  | [], _, _ => 0
  | d :: _, b, 0 => d * lAt b 0
  | d :: a, b, p + 1 => d * lAt b (p + 1) + conv a b p
theorem sumP_conv (b : List Nat) : ∀ (a : List Nat) (n : Nat), a.length + b.length ≤ n → sumP (conv a b) n = Bn.val a * Bn.val b
  | [], n, _ => by
    have : ∀ k, sumP (conv [] b) k = 0 := fun k => by
      induction k with
      | zero => rfl
      | succ k ih => rw [sumP, ih]; simp [conv]
    rw [this]; simp [Bn.val]
  | d :: a, 0, h => by simp at h
  | d :: a, n + 1, h => by
    have hl : a.length + b.length ≤ n := by simp at h; omega
    rw [sumP_shift, sumP_congr (f := fun p => conv (d :: a) b (p + 1)) (g := fun p => d * lAt b (p + 1) + conv a b p) (fun p => rfl) n, sumP_add, sumP_conv b a n hl, sumP_mul]
    have h2 : lAt b 0 + 1000000000 * sumP (fun p => lAt b (p + 1)) n = Bn.val b := by
      rw [← sumP_shift, sumP_all (by omega)]
    simp only [conv, Bn.val, ← h2, Nat.mul_add, Nat.add_mul]
    simp only [Nat.mul_assoc, Nat.mul_left_comm, Nat.mul_comm]
    omega

/-- The first i of these products. -/
def psum (a b : List Nat) (p : Nat) : Nat → Nat
  | 0 => 0
  | i + 1 => psum a b p i + (if i ≤ p then lAt a i * lAt b (p - i) else 0)
theorem psum_cons (d : Nat) (a b : List Nat) (p i : Nat) : psum (d :: a) b (p + 1) (i + 1) = d * lAt b (p + 1) + psum a b p i := by
  induction i with
  | zero => simp [psum, lAt]
  | succ i ih =>
    rw [show psum (d :: a) b (p + 1) (i + 1 + 1) = psum (d :: a) b (p + 1) (i + 1) + (if i + 1 ≤ p + 1 then lAt (d :: a) (i + 1) * lAt b (p + 1 - (i + 1)) else 0) from rfl, ih, psum]
    simp [lAt, Nat.add_assoc]
theorem psum_cons0 (d : Nat) (a b : List Nat) (i : Nat) : psum (d :: a) b 0 (i + 1) = d * lAt b 0 := by
  induction i with
  | zero => simp [psum, lAt]
  | succ i ih => rw [psum, ih]; simp
theorem conv_psum (b : List Nat) : ∀ (a : List Nat) (p : Nat), conv a b p = psum a b p a.length
  | [], _ => rfl
  | d :: a, 0 => by rw [List.length_cons, psum_cons0]; rfl
  | d :: a, p + 1 => by rw [List.length_cons, psum_cons, ← conv_psum b a p]; rfl
/-- No product falls to a place behind p, or behind b's last. -/
theorem psum_hi (a b : List Nat) (p n : Nat) (hn : p + 1 ≤ n) : psum a b p n = psum a b p (p + 1) := by
  induction n with
  | zero => omega
  | succ n ih =>
    rcases Nat.lt_or_ge p n with h | h
    · rw [psum, ih (by omega), if_neg (by omega)]; rfl
    · rw [show n = p from by omega]
theorem psum_lo (a b : List Nat) (p i : Nat) (h : i + b.length ≤ p + 1) : psum a b p i = 0 := by
  induction i with
  | zero => rfl
  | succ i ih =>
    rw [psum, ih (by omega), if_pos (by omega), lAt_past (l := b) (by omega)]; simp
theorem conv_min (a b : List Nat) (p : Nat) : conv a b p = psum a b p (min (p + 1) a.length) := by
  rw [conv_psum]
  rcases Nat.le_total (p + 1) a.length with h | h
  · rw [Nat.min_eq_left h, psum_hi _ _ _ _ h]
  · rw [Nat.min_eq_right h]
theorem psum_le (a b : List Nat) (ha : ∀ d ∈ a, d < 1000000000) (hb : ∀ d ∈ b, d < 1000000000) (p i : Nat) : psum a b p i ≤ i * 1000000000000000000 := by
  induction i with
  | zero => simp [psum]
  | succ i ih =>
    rw [psum, Nat.succ_mul]
    have h1 := lAt_lt ha i
    have h2 := lAt_lt hb (p - i)
    have h3 : lAt a i * lAt b (p - i) ≤ 1000000000 * 1000000000 := Nat.mul_le_mul (Nat.le_of_lt h1) (Nat.le_of_lt h2)
    rw [show 1000000000 * 1000000000 = 1000000000000000000 from by decide] at h3
    split
    · exact Nat.add_le_add ih h3
    · exact Nat.add_le_add ih (Nat.zero_le _)

/-- The first k limbs of a less b t times, and what is owed. -/
def took (a b : List Nat) (t : Nat) : Nat → List Nat × Nat
  | 0 => ([], 0)
  | k + 1 =>
    if lAt a k < ((took a b t k).2 + lAt b k * t) % 1000000000 then ((took a b t k).1 ++ [lAt a k + 1000000000 - ((took a b t k).2 + lAt b k * t) % 1000000000], ((took a b t k).2 + lAt b k * t) / 1000000000 + 1)
    else ((took a b t k).1 ++ [lAt a k - ((took a b t k).2 + lAt b k * t) % 1000000000], ((took a b t k).2 + lAt b k * t) / 1000000000)
theorem took_length (a b : List Nat) (t k : Nat) : (took a b t k).1.length = k := by
  induction k with
  | zero => rfl
  | succ k ih => simp only [took]; split <;> simp [ih]
theorem took_lt (a b : List Nat) (t : Nat) (ha : ∀ d ∈ a, d < 1000000000) (k : Nat) : ∀ d ∈ (took a b t k).1, d < 1000000000 := by
  induction k with
  | zero => simp [took]
  | succ k ih =>
    intro d hd
    have h0 := lAt_lt ha k
    simp only [took] at hd
    split at hd
    all_goals
      simp only [List.mem_append, List.mem_singleton] at hd
      rcases hd with hd | rfl
      · exact ih d hd
      · omega
theorem took_val (a b : List Nat) (t k : Nat) : Bn.val (a.take k) + 1000000000 ^ k * (took a b t k).2 = Bn.val (took a b t k).1 + t * Bn.val (b.take k) := by
  induction k with
  | zero => simp [took, Bn.val]
  | succ k ih =>
    rw [← sumP_take, ← sumP_take] at ih
    rw [← sumP_take, ← sumP_take]
    obtain ⟨o, ho⟩ : ∃ o, o = (took a b t k).2 + lAt b k * t := ⟨_, rfl⟩
    have hs : ∃ n o', took a b t (k + 1) = ((took a b t k).1 ++ [n], o') ∧ lAt a k + 1000000000 * o' = n + o := by
      simp only [took, ← ho]
      split
      · exact ⟨_, _, rfl, by omega⟩
      · exact ⟨_, _, rfl, by omega⟩
    obtain ⟨n, o', e, h⟩ := hs
    rw [e]
    simp only [sumP, Bn.val_append, took_length, Bn.val, Nat.mul_zero, Nat.add_zero, Nat.pow_succ]
    have h2 := congrArg (fun x => 1000000000 ^ k * x) h
    simp only [ho, Nat.mul_add] at h2
    rw [Nat.mul_add, Nat.mul_assoc, Nat.mul_left_comm t, Nat.mul_comm t (lAt b k)]
    omega
end Go.Proofs.YtjffbndiecjkjaaGreatDoor
