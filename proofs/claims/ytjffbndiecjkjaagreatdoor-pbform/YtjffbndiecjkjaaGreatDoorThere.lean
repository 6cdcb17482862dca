/-
  Texts of numbers: there and back.
-/
import Derived.Test.YtjffbndiecjkjaaGreatDoorParse
namespace Go.Proofs.YtjffbndiecjkjaaGreatDoor
open Go

theorem byte_digit {c : UInt8} (h : isDig c = true) : UInt8.ofNat (48 + (c.toNat - 48)) = c := by
  unfold isDig at h
  have h' := of_decide_eq_true h
  rw [show 48 + (c.toNat - 48) = c.toNat from by omega]
  exact UInt8.ofNat_toNat

/-- Digits that write a number above 0 are its digits. -/
theorem digits_back (l : List UInt8) : sizeB l = true → 0 < dval l ∧ Lib.decDigits (dval l) = l := by
  suffices H : ∀ r : List UInt8, sizeB r.reverse = true → 0 < dval r.reverse ∧ Lib.decDigits (dval r.reverse) = r.reverse by
    have := H l.reverse; rwa [List.reverse_reverse] at this
  intro r
  induction r with
  | nil => intro h; cases h
  | cons c r ih =>
    intro h
    rw [List.reverse_cons] at h ⊢
    unfold sizeB at h
    simp only [Bool.and_eq_true, List.all_append, List.all_cons, List.all_nil, Bool.and_true] at h
    obtain ⟨⟨_, h1⟩, h2, h3⟩ := h
    rw [dval_snoc]
    have hd := of_decide_eq_true (show decide (48 ≤ c.toNat ∧ c.toNat ≤ 57) = true from h3)
    cases hr : r.reverse with
    | nil =>
      rw [hr] at h1
      have hc : c.toNat ≠ 48 := by
        intro e
        have : c = 48 := UInt8.toNat_inj.1 (by rw [e]; rfl)
        subst this; exact absurd h1 (by decide)
      have e0 : dval [] = 0 := rfl
      rw [e0, Nat.mul_zero, Nat.zero_add]
      refine ⟨by omega, ?_⟩
      rw [Lib.decDigits_one (by omega), byte_digit h3]; rfl
    | cons e t =>
      have hs : sizeB r.reverse = true := by
        unfold sizeB
        rw [h2]
        rw [hr] at h1 ⊢
        simp at h1 ⊢
        exact h1
      obtain ⟨p, q⟩ := ih hs
      rw [hr] at p q
      refine ⟨by omega, ?_⟩
      rw [Bn.decDigits_step p (by omega), q, byte_digit h3]

theorem itoa_neg {n : Nat} (h : 0 < n) : Lib.itoa (-(n : Int)) = 45 :: Lib.decDigits n := by
  unfold Lib.itoa
  rw [if_pos (by omega)]
  congr 2
  omega
theorem itoa_nat (n : Nat) : Lib.itoa (n : Int) = Lib.decDigits n := by
  unfold Lib.itoa
  rw [if_neg (by omega)]
  congr 1

/-- A text that is taken is the text of its number. -/
theorem text_of_parse {l : List UInt8} {z : Int} (h : parseZ l = some z) : Lib.itoa z = l := by
  unfold parseZ at h
  split at h
  · rename_i hc
    injection h with h
    subst h
    rcases hc with rfl | hc
    · have : sg (minus [48]) (dval (digitsOf [48])) = 0 := by rfl
      rw [this, Bn.itoa_zero]
    · obtain ⟨p, q⟩ := digits_back _ hc
      unfold sg minus
      unfold digitsOf Lib.trimPrefix at p q ⊢
      cases hm : Lib.hasPrefix l [45] with
      | true =>
        rw [hm] at p q
        simp only [if_true] at p q ⊢
        rw [itoa_neg p, q]
        cases l with
        | nil => cases hm
        | cons c t =>
          unfold Lib.hasPrefix at hm
          simp [List.isPrefixOf] at hm
          subst hm; rfl
      | false =>
        rw [hm] at p q
        simp at p q ⊢
        rw [itoa_nat, q]
  · cases h

/-- A number's digits are digits, write it, and begin with none that is 0. -/
theorem digits_of (n : Nat) (h : 0 < n) : sizeB (Lib.decDigits n) = true ∧ dval (Lib.decDigits n) = n := by
  induction n using Nat.strongRecOn with
  | _ n ih =>
    by_cases hn : n < 10
    · rw [Lib.decDigits_one hn]
      match n, hn, h with
      | 1, _, _ => decide
      | 2, _, _ => decide
      | 3, _, _ => decide
      | 4, _, _ => decide
      | 5, _, _ => decide
      | 6, _, _ => decide
      | 7, _, _ => decide
      | 8, _, _ => decide
      | 9, _, _ => decide
    · obtain ⟨h1, h2⟩ := ih (n / 10) (by omega) (by omega)
      have hb : ∀ d, d < 10 → isDig (UInt8.ofNat (48 + d)) = true ∧ (UInt8.ofNat (48 + d)).toNat - 48 = d := by decide
      obtain ⟨b1, b2⟩ := hb (n % 10) (by omega)
      have hs : Lib.decDigits n = Lib.decDigits (n / 10) ++ [UInt8.ofNat (48 + n % 10)] := by
        rw [Lib.decDigits, dif_neg hn]
      rw [hs]
      constructor
      · unfold sizeB at h1 ⊢
        simp only [Bool.and_eq_true] at h1 ⊢
        obtain ⟨⟨a1, a2⟩, a3⟩ := h1
        cases hl : Lib.decDigits (n / 10) with
        | nil => rw [hl] at a1; cases a1
        | cons c t =>
          rw [hl] at a2 a3
          refine ⟨⟨rfl, ?_⟩, ?_⟩
          · simpa using a2
          · rw [List.all_append, a3, List.all_cons, b1]; rfl
      · rw [dval_snoc, h2, b2]; omega

/-- A number's text is taken for it. -/
theorem parse_of_text (z : Int) : parseZ (Lib.itoa z) = some z := by
  rcases Int.lt_trichotomy z 0 with h | h | h
  · obtain ⟨n, rfl⟩ : ∃ n : Nat, z = -(n : Int) := ⟨z.natAbs, by omega⟩
    obtain ⟨h1, h2⟩ := digits_of n (by omega)
    rw [itoa_neg (by omega)]
    have hd : digitsOf (45 :: Lib.decDigits n) = Lib.decDigits n := by
      unfold digitsOf Lib.trimPrefix Lib.hasPrefix
      simp [List.isPrefixOf]
    have hm : minus (45 :: Lib.decDigits n) = true := by
      unfold minus Lib.hasPrefix
      simp [List.isPrefixOf]
    unfold parseZ
    rw [hd, hm, if_pos (.inr h1), h2]; rfl
  · subst h; rw [Bn.itoa_zero]; rfl
  · obtain ⟨n, rfl⟩ : ∃ n : Nat, z = (n : Int) := ⟨z.natAbs, by omega⟩
    obtain ⟨h1, h2⟩ := digits_of n (by omega)
    rw [itoa_nat]
    have hm : minus (Lib.decDigits n) = false := by
      cases hl : Lib.decDigits n with
      | nil => rfl
      | cons c t =>
        rw [hl] at h1
        unfold minus Lib.hasPrefix
        unfold sizeB at h1
        simp [List.isPrefixOf] at h1 ⊢
        intro e
        subst e
        exact absurd h1.2.1 (by decide)
    have hd : digitsOf (Lib.decDigits n) = Lib.decDigits n := by
      unfold minus at hm
      unfold digitsOf Lib.trimPrefix
      rw [hm]; rfl
    unfold parseZ
    rw [hd, hm, if_pos (.inr h1), h2]; rfl
end Go.Proofs.YtjffbndiecjkjaaGreatDoor
