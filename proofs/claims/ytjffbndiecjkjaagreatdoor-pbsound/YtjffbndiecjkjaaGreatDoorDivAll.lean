/-
  Put together: DivMath, Give, DivShort, Guess, Scale, DivLong, DivLimbs.
-/
import Derived.Test.YtjffbndiecjkjaaGreatDoorSub
import Derived.Deep.OwnRows
import Derived.Laws.CopyOwn
import Derived.Test.YtjffbndiecjkjaaGreatDoorAdd
import Derived.Test.YtjffbndiecjkjaaGreatDoorPlus
namespace Go.Proofs.YtjffbndiecjkjaaGreatDoor
open Bn (limbs)

/-- What goes so often goes no more often by the last two limbs into the last three. -/
theorem guess_over {k P D U V q p d : Nat} (hP : P = p + 1000000000 ^ k * U) (hp : p < 1000000000 ^ k) (hD : D = d + 1000000000 ^ k * V) (h : q * D ≤ P) : q * V ≤ U := by
  generalize 1000000000 ^ k = K at *
  have h1 : K * (q * V) ≤ q * D := by
    rw [hD, Nat.mul_add, Nat.mul_left_comm q K V]; omega
  have h2 : K * (q * V) < K * (U + 1) := by rw [Nat.mul_add]; omega
  exact Nat.lt_succ_iff.1 (Nat.lt_of_mul_lt_mul_left h2)

/-- One less than that often it goes. -/
theorem guess_near {k P D U V s p d : Nat} (hP : P = p + 1000000000 ^ k * U) (hD : D = d + 1000000000 ^ k * V) (hd : d < 1000000000 ^ k) (ht : (s + 1) * V ≤ U) (hs : s ≤ V) : s * D ≤ P := by
  generalize 1000000000 ^ k = K at *
  have h1 : s * d ≤ V * K := Nat.mul_le_mul hs (Nat.le_of_lt hd)
  have h2 : K * ((s + 1) * V) ≤ K * U := Nat.mul_le_mul_left K ht
  rw [hD, Nat.mul_add, Nat.mul_left_comm s K V]
  rw [Nat.add_mul, Nat.one_mul, Nat.mul_add, Nat.mul_comm K V] at h2
  omega

/-- A guess is at most the base. -/
theorem guess_most {k P D U V t p d : Nat} (hP : P = p + 1000000000 ^ k * U) (hD : D = d + 1000000000 ^ k * V) (hd : d < 1000000000 ^ k) (hPD : P < 1000000000 * D) (hV : 1000000000 ≤ V) (ht : t * V ≤ U) : t ≤ 1000000000 := by
  have hK : 0 < 1000000000 ^ k := Nat.pow_pos (by decide)
  generalize 1000000000 ^ k = K at *
  have h1 : K * U < K * (1000000000 * (V + 1)) := by
    have : 1000000000 * D < 1000000000 * (K * (V + 1)) := by rw [hD, Nat.mul_add K]; omega
    rw [Nat.mul_left_comm K]; omega
  have h2 : U < 1000000000 * (V + 1) := Nat.lt_of_mul_lt_mul_left h1
  rcases Nat.lt_or_ge 1000000000 t with h | h
  · have h3 : 1000000001 * V ≤ t * V := Nat.mul_le_mul_right V h
    omega
  · exact h

/-- The right quotient is the guess, or one less. -/
theorem guess_right {k P D U V p d : Nat} (hP : P = p + 1000000000 ^ k * U) (hp : p < 1000000000 ^ k) (hD : D = d + 1000000000 ^ k * V) (hd : d < 1000000000 ^ k) (hPD : P < 1000000000 * D) (hV : 1000000000 ≤ V) :
    U / V ≤ 1000000000 ∧ (U / V * D ≤ P ∧ P < (U / V + 1) * D ∨ 0 < U / V ∧ P < U / V * D ∧ (U / V - 1) * D ≤ P) := by
  have hm := guess_most (t := U / V) hP hD hd hPD hV (Nat.div_mul_le_self U V)
  refine ⟨hm, ?_⟩
  have hup : P < (U / V + 1) * D := by
    rcases Nat.lt_or_ge P ((U / V + 1) * D) with h | h
    · exact h
    · have h1 := guess_over hP hp hD h
      have h2 := Nat.lt_mul_div_succ U (show 0 < V by omega)
      rw [Nat.mul_comm] at h2
      omega
  rcases Nat.lt_or_ge P (U / V * D) with h | h
  · have h0 : 0 < U / V := by
      rcases Nat.eq_zero_or_pos (U / V) with e | e
      · rw [e, Nat.zero_mul] at h; omega
      · exact e
    refine .inr ⟨h0, h, guess_near hP hD hd ?_ (by omega)⟩
    rw [Nat.sub_add_cancel h0]; exact Nat.div_mul_le_self U V
  · exact .inl ⟨h, hup⟩
theorem guess_init {u2 u1 u0 v1 v0 lead U V : Nat} (hl : lead = u2 * 1000000000 + u1) (hU : U = lead * 1000000000 + u0) (hV : V = v1 * 1000000000 + v0) (hv : 1 ≤ v1) (h2 : u2 ≤ v1) (h1 : u1 < 1000000000) (h0 : u0 < 1000000000) :
    U / V ≤ lead / v1 ∧ lead / v1 ≤ 2000000000 := by
  constructor
  · refine (Nat.le_div_iff_mul_le (by omega)).2 ?_
    have h := Nat.div_mul_le_self U V
    obtain ⟨q, hq⟩ : ∃ q, q = U / V := ⟨_, rfl⟩
    rw [← hq] at h ⊢
    rw [hV, hU, Nat.mul_add, ← Nat.mul_assoc] at h
    omega
  · refine (Nat.div_le_iff_le_mul (by omega)).2 ?_
    omega
theorem guess_mul {t v1 v0 l u0 lead m U V : Nat} (hU : U = lead * 1000000000 + u0) (hV : V = v1 * 1000000000 + v0) (h : t * v1 + l = lead) (hm : m = t * v0) : t * V + (l * 1000000000 + u0) = U + m := by
  rw [hV, hU, Nat.mul_add, ← Nat.mul_assoc, ← hm, ← h]
  omega
theorem guess_step {t v1 v0 l u0 lead m U V : Nat} (hU : U = lead * 1000000000 + u0) (hV : V = v1 * 1000000000 + v0) (hv : 1 ≤ v1) (h : t * v1 + l = lead) (hm : m = t * v0) (hgt : l * 1000000000 + u0 < m) :
    U / V ≤ t - 1 ∧ (t - 1) * v1 + (l + v1) = lead ∧ 1 ≤ t := by
  have ht : 1 ≤ t := by
    rcases Nat.eq_zero_or_pos t with e | e
    · rw [e, Nat.zero_mul] at hm; omega
    · exact e
  refine ⟨?_, ?_, ht⟩
  · have h1 := guess_mul hU hV h hm
    have h2 : U / V < t := (Nat.div_lt_iff_lt_mul (by omega)).2 (by omega)
    omega
  · obtain ⟨s, rfl⟩ : ∃ s, t = s + 1 := ⟨t - 1, by omega⟩
    rw [Nat.add_sub_cancel, ← h, Nat.add_mul, Nat.one_mul]; omega
theorem guess_done {t v1 v0 l u0 lead m U V : Nat} (hU : U = lead * 1000000000 + u0) (hV : V = v1 * 1000000000 + v0) (hv : 1 ≤ v1) (h : t * v1 + l = lead) (hm : m = t * v0) (hle : m ≤ l * 1000000000 + u0) (hge : U / V ≤ t) :
    t = U / V := by
  refine Nat.le_antisymm ?_ hge
  have h1 := guess_mul hU hV h hm
  exact (Nat.le_div_iff_mul_le (by omega)).2 (by omega)
theorem val_split (l : List Nat) (i : Nat) (h : i ≤ l.length) : Bn.val l = Bn.val (l.take i) + 1000000000 ^ i * Bn.val (l.drop i) := by
  conv => lhs; rw [← List.take_append_drop i l]
  rw [Bn.val_append, List.length_take, Nat.min_eq_left h]
theorem val_at (l : List Nat) (i : Nat) (h : i < l.length) : Bn.val (l.drop i) = l[i] + 1000000000 * Bn.val (l.drop (i + 1)) := by
  rw [List.drop_eq_getElem_cons h]; rfl

/-- The part that a step of the long division looks at: it is all that is left there, and it is below the divisor times the base. -/
theorem part_val (L : List Nat) (i n D : Nat) (hL : ∀ d ∈ L, d < 1000000000) (hi : i + n + 1 ≤ L.length) (hD : D < 1000000000 ^ n) (hH : Bn.val (L.drop (i + 1)) < D) :
    Bn.val (L.drop i) = Bn.val ((L.drop i).take (n + 1)) ∧ Bn.val (L.drop (i + n + 1)) = 0 ∧ Bn.val ((L.drop i).take (n + 1)) < 1000000000 * D := by
  have h0 : Bn.val (L.drop (i + n + 1)) = 0 := by
    have h1 := val_split (L.drop (i + 1)) n (by simp; omega)
    rw [List.drop_drop, show i + 1 + n = i + n + 1 from by omega] at h1
    rcases Nat.eq_zero_or_pos (Bn.val (L.drop (i + n + 1))) with e | e
    · exact e
    · have h2 := Nat.mul_le_mul_left (1000000000 ^ n) e
      omega
  have h2 := val_split (L.drop i) (n + 1) (by simp; omega)
  rw [List.drop_drop, show i + (n + 1) = i + n + 1 from by omega, h0, Nat.mul_zero, Nat.add_zero] at h2
  refine ⟨h2, h0, ?_⟩
  rw [← h2, val_at L i (by omega)]
  have h3 := hL _ (List.getElem_mem (show i < L.length by omega))
  omega

/-- What a step leaves. -/
theorem part_step (L P' : List Nat) (i n D q : Nat) (hi : i + n + 1 ≤ L.length) (h0 : Bn.val (L.drop (i + n + 1)) = 0) (hp : Bn.val P' + q * D = Bn.val ((L.drop i).take (n + 1))) (hl : P'.length = n + 1) :
    Bn.val (L.take i ++ P' ++ L.drop (i + n + 1)) + D * (1000000000 ^ i * q) = Bn.val L ∧ Bn.val ((L.take i ++ P' ++ L.drop (i + n + 1)).drop i) = Bn.val P' := by
  have hti : (L.take i).length = i := by simp; omega
  constructor
  · rw [Bn.val_append, Bn.val_append, h0, Nat.mul_zero, Nat.add_zero, hti]
    have h1 := val_split L i (by omega)
    have h2 := val_split (L.drop i) (n + 1) (by simp; omega)
    rw [List.drop_drop, show i + (n + 1) = i + n + 1 from by omega, h0, Nat.mul_zero, Nat.add_zero, ← hp] at h2
    rw [h1, h2, Nat.mul_add, Nat.mul_left_comm D, Nat.mul_comm D q]
    omega
  · rw [List.append_assoc, List.drop_append_of_le_length (by omega), List.drop_of_length_le (by omega), List.nil_append, Bn.val_append, h0, Nat.mul_zero, Nat.add_zero]

/-- A limb more of the quotient. -/
theorem val_set0 (Q : List Nat) (i q : Nat) (h : i < Q.length) (h0 : Q[i] = 0) : Bn.val (Q.set i q) = Bn.val Q + 1000000000 ^ i * q := by
  rw [List.set_eq_take_append_cons_drop, if_pos h, Bn.val_append]
  have h1 := val_split Q i (by omega)
  rw [val_at Q i h, h0, Nat.zero_add] at h1
  have : (Q.take i).length = i := by simp; omega
  rw [this, h1]
  simp only [Bn.val, Nat.mul_add]
  omega

theorem took_fits {a b : List Nat} {t : Nat} (ha : ∀ d ∈ a, d < 1000000000) (hl : b.length ≤ a.length) (h : t * Bn.val b ≤ Bn.val a) :
    (took a b t a.length).2 = 0 ∧ Bn.val (took a b t a.length).1 + t * Bn.val b = Bn.val a := by
  have hv := took_val a b t a.length
  rw [List.take_length, List.take_of_length_le hl] at hv
  have hlt := val_lt _ (took_lt a b t ha a.length)
  rw [took_length] at hlt
  rcases Nat.eq_zero_or_pos (took a b t a.length).2 with e | e
  · rw [e, Nat.mul_zero] at hv
    exact ⟨e, by omega⟩
  · have := Nat.le_mul_of_pos_right (1000000000 ^ a.length) e
    omega

theorem mod_same {K a b c d : Nat} (ha : a < K) (hb : b < K) (h : a + K * c = b + K * d) : a = b := by
  have h1 := congrArg (fun x => x % K) h
  simp only [Nat.add_mul_mod_self_left] at h1
  rwa [Nat.mod_eq_of_lt ha, Nat.mod_eq_of_lt hb] at h1

theorem took_over {a b : List Nat} {s : Nat} (ha : ∀ d ∈ a, d < 1000000000) (hb : ∀ d ∈ b, d < 1000000000) (hl : b.length ≤ a.length) (h : Bn.val a < (s + 1) * Bn.val b) (h1 : s * Bn.val b ≤ Bn.val a) :
    0 < (took a b (s + 1) a.length).2 ∧ Bn.val (told (fun p => lAt (took a b (s + 1) a.length).1 p + lAt b p) a.length).1 + s * Bn.val b = Bn.val a := by
  have hv := took_val a b (s + 1) a.length
  rw [List.take_length, List.take_of_length_le hl] at hv
  have hlt := val_lt _ (took_lt a b (s + 1) ha a.length)
  rw [took_length] at hlt
  have hr := took_length a b (s + 1) a.length
  have hbl := val_lt _ hb
  have hbl2 : Bn.val b < 1000000000 ^ a.length := Nat.lt_of_lt_of_le hbl (Nat.pow_le_pow_right (by decide) hl)
  generalize (took a b (s + 1) a.length).1 = r at *
  generalize (took a b (s + 1) a.length).2 = o at *
  have ho : 0 < o := by
    rcases Nat.eq_zero_or_pos o with e | e
    · rw [e, Nat.mul_zero] at hv; omega
    · exact e
  refine ⟨ho, ?_⟩
  have ht := told_val (fun p => lAt r p + lAt b p) a.length
  rw [sumP_add, sumP_all (by omega), sumP_all hl] at ht
  have hc := val_lt _ (told_lt (fun p => lAt r p + lAt b p) a.length)
  rw [told_length] at hc
  generalize (told (fun p => lAt r p + lAt b p) a.length).1 = c at *
  generalize (told (fun p => lAt r p + lAt b p) a.length).2 = cy at *
  rw [Nat.add_mul, Nat.one_mul] at hv h
  have he : Bn.val c = Bn.val a - s * Bn.val b := by
    refine mod_same (K := 1000000000 ^ a.length) (c := cy) (d := o) hc (by omega) ?_
    omega
  omega

theorem val_replicate (k : Nat) (q : List Nat) : Bn.val (List.replicate k 0 ++ q) = 1000000000 ^ k * Bn.val q := by
  induction k with
  | zero => simp
  | succ k ih =>
    rw [List.replicate_succ, List.cons_append]
    simp only [Bn.val]
    rw [ih, Nat.pow_succ, Nat.mul_comm (1000000000 ^ k) 1000000000, Nat.mul_assoc]; omega
theorem val_pad (l : List Nat) (k : Nat) : Bn.val (l ++ List.replicate k 0) = Bn.val l := by
  rw [Bn.val_append]
  have := val_replicate k []
  rw [List.append_nil] at this
  rw [this]; simp [Bn.val]

/-- How the scaled divisor lies. -/
theorem scaled_length {y v s : Nat} {n : Nat} (hn : (limbs y).length = n + 1) (hv : (limbs y)[n] = v) (hs : s = 1000000000 / (v + 1)) : 0 < s ∧ s ≤ 1000000000 ∧ (limbs (s * y)).length = n + 1 := by
  have hvb : v < 1000000000 := by rw [← hv]; exact Bn.limbs_get_lt _
  have hv' := Bn.get_limbs (show n < (limbs y).length by omega)
  rw [hv] at hv'
  have hlt : y < 1000000000 ^ (n + 1) := (Bn.limbs_length_le y (n + 1)).1 (by omega)
  have hge : 1000000000 ^ n ≤ y := by
    rcases Nat.lt_or_ge y (1000000000 ^ n) with h | h
    · have := (Bn.limbs_length_le y n).2 h; omega
    · exact h
  have hP : 0 < 1000000000 ^ n := Nat.pow_pos (by decide)
  have hq : y / 1000000000 ^ n < 1000000000 := by
    rw [Nat.div_lt_iff_lt_mul hP, Nat.mul_comm]; rw [Nat.pow_succ] at hlt; exact hlt
  rw [Nat.mod_eq_of_lt hq] at hv'
  have hup : y < 1000000000 ^ n * (v + 1) := by
    rw [hv']; exact Nat.lt_mul_div_succ y hP
  have hs1 : 0 < s := by rw [hs]; exact Nat.div_pos (by omega) (by omega)
  have hs2 : s * (v + 1) ≤ 1000000000 := by rw [hs]; exact Nat.div_mul_le_self _ _
  refine ⟨hs1, by rw [hs]; exact Nat.div_le_self _ _, ?_⟩
  have u1 : s * y < 1000000000 ^ (n + 1) := by
    have a1 : s * y < s * (1000000000 ^ n * (v + 1)) := Nat.mul_lt_mul_of_pos_left hup hs1
    have a2 : s * (1000000000 ^ n * (v + 1)) = 1000000000 ^ n * (s * (v + 1)) := Nat.mul_left_comm _ _ _
    have a3 : 1000000000 ^ n * (s * (v + 1)) ≤ 1000000000 ^ n * 1000000000 := Nat.mul_le_mul_left _ hs2
    rw [Nat.pow_succ]; omega
  have u2 : 1000000000 ^ n ≤ s * y := Nat.le_trans hge (Nat.le_mul_of_pos_left y hs1)
  have l1 := (Bn.limbs_length_le (s * y) (n + 1)).2 u1
  rcases Nat.lt_or_ge (limbs (s * y)).length (n + 1) with h | h
  · have := (Bn.limbs_length_le (s * y) n).1 (by omega); omega
  · omega

/-- All that is left lies below the divisor at the start. -/
theorem scaled_start {x y s la n : Nat} (hx : (limbs x).length = la) (hy : (limbs y).length = n + 1) (hs : 0 < s) (hn : n + 1 ≤ la) : s * x < s * y * 1000000000 ^ (la - n) := by
  have h1 : x < 1000000000 ^ la := (Bn.limbs_length_le x la).1 (by omega)
  have hge : 1000000000 ^ n ≤ y := by
    rcases Nat.lt_or_ge y (1000000000 ^ n) with h | h
    · have := (Bn.limbs_length_le y n).2 h; omega
    · exact h
  have e : 1000000000 ^ la = 1000000000 ^ n * 1000000000 ^ (la - n) := by rw [← Nat.pow_add]; congr 1; omega
  rw [Nat.mul_assoc]
  refine Nat.mul_lt_mul_of_pos_left (Nat.lt_of_lt_of_le h1 ?_) hs
  rw [e]; exact Nat.mul_le_mul_right _ hge

/-- The parts of a row of limbs, and its top. -/
theorem parts_val {l : List Nat} {m : Nat} (hl : ∀ d ∈ l, d < 1000000000) (h : l.length = m + 2) : Bn.val l = Bn.val (l.take m) + 1000000000 ^ m * (l[m + 1] * 1000000000 + l[m]) ∧ Bn.val (l.take m) < 1000000000 ^ m := by
  constructor
  · rw [val_split l m (by omega), val_at l m (by omega), val_at l (m + 1) (by omega), List.drop_of_length_le (by omega)]
    simp only [Bn.val]
    congr 2
    omega
  · have := val_lt (l.take m) (fun d hd => hl d (List.mem_of_mem_take hd))
    rwa [List.length_take, Nat.min_eq_left (by omega)] at this
theorem parts_val3 {l : List Nat} {m : Nat} (hl : ∀ d ∈ l, d < 1000000000) (h : l.length = m + 3) : Bn.val l = Bn.val (l.take m) + 1000000000 ^ m * ((l[m + 2] * 1000000000 + l[m + 1]) * 1000000000 + l[m]) ∧ Bn.val (l.take m) < 1000000000 ^ m := by
  constructor
  · rw [val_split l m (by omega), val_at l m (by omega), val_at l (m + 1) (by omega), val_at l (m + 2) (by omega), List.drop_of_length_le (by omega)]
    simp only [Bn.val]
    congr 2
    omega
  · have := val_lt (l.take m) (fun d hd => hl d (List.mem_of_mem_take hd))
    rwa [List.length_take, Nat.min_eq_left (by omega)] at this

/-- The part's top is at most the divisor's. -/
theorem top_le {P D K u v p d : Nat} (hP : P = p + K * 1000000000 * u) (hD : D = d + K * v) (hd : d < K) (h : P < 1000000000 * D) : u ≤ v := by
  rcases Nat.lt_or_ge v u with hv | hv
  · have h1 : K * 1000000000 * (v + 1) ≤ K * 1000000000 * u := Nat.mul_le_mul_left _ hv
    rw [Nat.mul_add, Nat.mul_one, Nat.mul_assoc K 1000000000 v, Nat.mul_left_comm K 1000000000 v] at h1
    omega
  · exact hv

/-- What a step of the long division looks at. -/
theorem long_facts {L : List Nat} {j m D u2 u1 u0 v1 v0 : Nat} (hL : ∀ d ∈ L, d < 1000000000) (hdl : (limbs D).length = m + 2) (hj : j + (m + 3) ≤ L.length) (hH : Bn.val (L.drop (j + 1)) < D)
    (h2 : lAt L (j + (m + 2)) = u2) (h1 : lAt L (j + (m + 1)) = u1) (h0 : lAt L (j + m) = u0) (k1 : lAt (limbs D) (m + 1) = v1) (k0 : lAt (limbs D) m = v0) :
    1 ≤ v1 ∧ u2 ≤ v1 ∧ u1 < 1000000000 ∧ u0 < 1000000000 ∧ v1 < 1000000000 ∧ v0 < 1000000000 ∧
    ∃ P : List Nat, P = (L.drop j).take (m + 3) ∧ P.length = m + 3 ∧ (∀ d ∈ P, d < 1000000000) ∧ Bn.val (L.drop (j + (m + 2) + 1)) = 0 ∧
      ∀ U V, U = (u2 * 1000000000 + u1) * 1000000000 + u0 → V = v1 * 1000000000 + v0 →
        U / V ≤ 1000000000 ∧ (U / V * D ≤ Bn.val P ∧ Bn.val P < (U / V + 1) * D ∨ 0 < U / V ∧ Bn.val P < U / V * D ∧ (U / V - 1) * D ≤ Bn.val P) ∧ Bn.val P < 1000000000 * D := by
  have hD1 : D < 1000000000 ^ (m + 2) := (Bn.limbs_length_le D (m + 2)).1 (by omega)
  have hD0 : 1000000000 ^ (m + 1) ≤ D := by
    rcases Nat.lt_or_ge D (1000000000 ^ (m + 1)) with h | h
    · have := (Bn.limbs_length_le D (m + 1)).2 h; omega
    · exact h
  have hdd : ∀ d ∈ limbs D, d < 1000000000 := fun d h => Bn.limbs_lt' h
  obtain ⟨p1, p2, p3⟩ := part_val L j (m + 2) D hL (by omega) hD1 hH
  obtain ⟨P, hP⟩ : ∃ P, P = (L.drop j).take (m + 3) := ⟨_, rfl⟩
  have hPl : P.length = m + 3 := by rw [hP]; simp; omega
  have hPd : ∀ d ∈ P, d < 1000000000 := fun d hd => hL d (by rw [hP] at hd; exact List.mem_of_mem_drop (List.mem_of_mem_take hd))
  have g : ∀ i (h : i < m + 3), P[i]'(by omega) = lAt L (j + i) := by
    intro i h
    rw [lAt_get (by omega)]
    simp [hP]
  have g2 : P[m + 2]'(by omega) = u2 := by rw [g _ (by omega), h2]
  have g1 : P[m + 1]'(by omega) = u1 := by rw [g _ (by omega), h1]
  have g0 : P[m]'(by omega) = u0 := by rw [g _ (by omega), h0]
  have e1 : (limbs D)[m + 1]'(by omega) = v1 := by rw [← k1, lAt_get (by omega)]
  have e0 : (limbs D)[m]'(by omega) = v0 := by rw [← k0, lAt_get (by omega)]
  have b2 : u2 < 1000000000 := by rw [← h2]; exact lAt_lt hL _
  have b1 : u1 < 1000000000 := by rw [← h1]; exact lAt_lt hL _
  have b0 : u0 < 1000000000 := by rw [← h0]; exact lAt_lt hL _
  have c1 : v1 < 1000000000 := by rw [← k1]; exact lAt_lt hdd _
  have c0 : v0 < 1000000000 := by rw [← k0]; exact lAt_lt hdd _
  obtain ⟨q1, q2⟩ := parts_val3 hPd hPl
  rw [g2, g1, g0] at q1
  obtain ⟨d1, d2⟩ := parts_val hdd hdl
  rw [e1, e0, Bn.val_limbs'] at d1
  have hVB : ∀ V, V = v1 * 1000000000 + v0 → 1000000000 ≤ V := by
    intro V hV
    rw [← hV] at d1
    have hk : 1000000000 ^ m * 1000000000 < 1000000000 ^ m * (V + 1) := by
      rw [Nat.pow_succ] at hD0
      rw [Nat.mul_add]; omega
    have := Nat.lt_of_mul_lt_mul_left hk
    omega
  have hv1 : 1 ≤ v1 := by have := hVB _ rfl; omega
  rw [show m + 2 + 1 = m + 3 from rfl, ← hP] at p3
  have hu : u2 ≤ v1 := by
    have t1 := val_split P (m + 2) (by omega)
    rw [val_at P (m + 2) (by omega), g2, List.drop_of_length_le (by omega)] at t1
    have t2 := val_split (limbs D) (m + 1) (by omega)
    rw [val_at (limbs D) (m + 1) (by omega), e1, List.drop_of_length_le (by omega), Bn.val_limbs'] at t2
    simp only [Bn.val, Nat.mul_zero, Nat.add_zero] at t1 t2
    have t3 := val_lt ((limbs D).take (m + 1)) (fun d hd => hdd d (List.mem_of_mem_take hd))
    rw [List.length_take, Nat.min_eq_left (by omega)] at t3
    refine top_le (K := 1000000000 ^ (m + 1)) (p := Bn.val (P.take (m + 2))) (d := Bn.val ((limbs D).take (m + 1))) ?_ t2 t3 p3
    rw [← Nat.pow_succ]; exact t1
  refine ⟨hv1, hu, b1, b0, c1, c0, P, hP, hPl, hPd, p2, fun U V hU hV => ?_⟩
  rw [← hU] at q1
  rw [← hV] at d1
  obtain ⟨r1, r2⟩ := guess_right q1 q2 d1 d2 p3 (hVB V hV)
  exact ⟨r1, r2, p3⟩

/-- A quotient's limb is one. -/
theorem limb_of {q D P : Nat} (h : q * D ≤ P) (hP : P < 1000000000 * D) : q < 1000000000 := by
  rcases Nat.lt_or_ge q 1000000000 with h1 | h1
  · exact h1
  · have := Nat.mul_le_mul_right D h1; omega

/-- What stays true of what is left, and of the quotient. -/
theorem long_next {L P' : List Nat} {j n D q S Q : Nat} (hi : j + n + 1 ≤ L.length) (h0 : Bn.val (L.drop (j + n + 1)) = 0) (hp : Bn.val P' + q * D = Bn.val ((L.drop j).take (n + 1))) (hl : P'.length = n + 1) (hlt : Bn.val P' < D)
    (hS : Bn.val L + D * (1000000000 ^ (j + 1) * Q) = S) :
    Bn.val (L.take j ++ P' ++ L.drop (j + n + 1)) + D * (1000000000 ^ j * (q + 1000000000 * Q)) = S ∧ Bn.val ((L.take j ++ P' ++ L.drop (j + n + 1)).drop j) < D := by
  obtain ⟨h1, h2⟩ := part_step L P' j n D q hi h0 hp hl
  refine ⟨?_, by rw [h2]; exact hlt⟩
  rw [← hS, ← h1, Nat.mul_add (1000000000 ^ j), Nat.mul_add D, Nat.pow_succ, Nat.mul_assoc (1000000000 ^ j)]
  omega
end Go.Proofs.YtjffbndiecjkjaaGreatDoor

namespace Go.Proofs.YtjffbndiecjkjaaGreatDoor
open Go.RowKit
open Bn (limbs)

/-- Nothing but the n cells of block bk from off on is other. -/
def Wrote (bk off n : Nat) (w w' : World) : Prop :=
  w'.heap.size = w.heap.size ∧ (∀ k, k ≠ bk → w'.heap[k]? = w.heap[k]?) ∧ (∀ p, p < off ∨ off + n ≤ p → w'.cell? ⟨bk, p, none⟩ = w.cell? ⟨bk, p, none⟩ ∧ w'.frozen? ⟨bk, p, none⟩ = w.frozen? ⟨bk, p, none⟩) ∧ Below bk w w'

theorem Wrote.refl (bk off n : Nat) (w : World) : Wrote bk off n w w := ⟨rfl, fun _ _ => rfl, fun _ _ => ⟨rfl, rfl⟩, Below.refl _ _⟩
theorem Wrote.set {bk off n j : Nat} {w w' : World} (h : Wrote bk off n w w') (hj : j < n) (u : Value) : Wrote bk off n w (w'.setCell ⟨bk, off + j, none⟩ u) := by
  obtain ⟨h1, h2, h3, h4⟩ := h
  refine ⟨by simpa [World.setCell] using h1, fun k hk => (Below.heap_setCell w' ⟨bk, off + j, none⟩ u k hk).trans (h2 k hk), fun p hp => ?_, h4.setCell (p := ⟨bk, off + j, none⟩) (Nat.le_refl _) _⟩
  obtain ⟨c1, c2⟩ := h3 p hp
  exact ⟨(World.cell?_setCell_other (h := show (⟨bk, off + j, none⟩ : Addr) ≠ ⟨bk, p, none⟩ from fun e => by injection e with _ e1 _; omega) ..).trans c1, (World.frozen?_setCell ..).trans c2⟩
theorem Wrote.drew {bk off n : Nat} {w w' : World} (h : Wrote bk off n w w') : Wrote bk off n w w'.drew := ⟨h.1, h.2.1, h.2.2.1, h.2.2.2.drew⟩
theorem Wrote.below {bk off n : Nat} {w w' : World} (h : Wrote bk off n w w') : Below bk w w' := h.2.2.2
theorem Wrote.trans {bk off n : Nat} {w w1 w2 : World} (h : Wrote bk off n w w1) (g : Wrote bk off n w1 w2) : Wrote bk off n w w2 :=
  ⟨g.1.trans h.1, fun k hk => (g.2.1 k hk).trans (h.2.1 k hk), fun p hp => ⟨(g.2.2.1 p hp).1.trans (h.2.2.1 p hp).1, (g.2.2.1 p hp).2.trans (h.2.2.1 p hp).2⟩, h.2.2.2.trans g.2.2.2⟩
/-- A row of another block stays. -/
theorem RowAt.wrote {bk off n b o : Nat} {l : List Nat} {w w' : World} (h : RowAt w b o l) (hw : Wrote bk off n w w') (hb : b ≠ bk) : RowAt w' b o l := by
  intro j hj
  obtain ⟨h1, h2⟩ := h j hj
  have e := hw.2.1 b hb
  exact ⟨(World.cell?_of_block (a := ⟨b, o + j, none⟩) e).trans h1, (World.frozen?_of_block (a := ⟨b, o + j, none⟩) e).trans h2⟩
theorem U32At.wrote {bk off n : Nat} {v : Value} {l : List Nat} {w w' : World} (h : U32At w v l) (hw : Wrote bk off n w w') (hv : v.ownBlock ≠ some bk) : U32At w' v l := by
  rcases h with h | ⟨b, o, cap, hv', hlt, hl, hm, hc⟩
  · exact .inl h
  · have hb : b ≠ bk := fun e => hv (by rw [hv', ← e]; rfl)
    exact .inr ⟨b, o, cap, hv', by rw [hw.1]; exact hlt, hl, hm, fun j hj => (World.cell?_of_block (a := ⟨b, o + j, none⟩) (hw.2.1 b hb)).trans (hc j hj)⟩
/-- A row whose middle was written over. -/
theorem RowAt.middle {bk i : Nat} {L P' : List Nat} {w w' : World} (h : RowAt w bk 0 L) (hi : i + P'.length ≤ L.length) (hw : Wrote bk i P'.length w w') (hp : RowAt w' bk i P') : RowAt w' bk 0 (L.take i ++ P' ++ L.drop (i + P'.length)) := by
  intro j hj
  rw [Nat.zero_add]
  have hti : (L.take i).length = i := by simp; omega
  have hlen : (L.take i ++ P' ++ L.drop (i + P'.length)).length = L.length := by simp; omega
  rcases Nat.lt_or_ge j i with h1 | h1
  · obtain ⟨a, b⟩ := h j (by omega)
    rw [Nat.zero_add] at a b
    obtain ⟨c, d⟩ := hw.2.2.1 j (.inl h1)
    refine ⟨?_, d.trans b⟩
    rw [c, a]
    congr 3
    rw [List.getElem_append_left (by simp; omega), List.getElem_append_left (by omega), List.getElem_take]
  · rcases Nat.lt_or_ge j (i + P'.length) with h2 | h2
    · obtain ⟨a, b⟩ := hp (j - i) (by omega)
      rw [show i + (j - i) = j from by omega] at a b
      refine ⟨?_, b⟩
      rw [a]
      congr 3
      rw [List.getElem_append_left (by simp; omega), List.getElem_append_right (by omega)]
      congr 1; omega
    · obtain ⟨a, b⟩ := h j (by omega)
      rw [Nat.zero_add] at a b
      obtain ⟨c, d⟩ := hw.2.2.1 j (.inr h2)
      refine ⟨?_, d.trans b⟩
      rw [c, a]
      congr 3
      rw [List.getElem_append_right (by simp; omega), List.getElem_drop]
      congr 1
      simp; omega
/-- A part of a row. -/
theorem RowAt.part {bk i n : Nat} {L : List Nat} {w : World} (h : RowAt w bk 0 L) : RowAt w bk i ((L.drop i).take n) := by
  intro j hj
  have hj' : j < n ∧ i + j < L.length := by simp at hj; omega
  obtain ⟨a, b⟩ := h (i + j) hj'.2
  rw [Nat.zero_add] at a b
  refine ⟨?_, b⟩
  rw [a]
  congr 3
  rw [List.getElem_take, List.getElem_drop]

set_option maxHeartbeats 2000000 in
set_option maxRecDepth 100000 in
/-- takeTimes, and what it leaves alone. -/
theorem takeTimes_row (a b : List Nat) (t bk off cap : Nat) (vb : Value) (w : World) (ha : RowAt w bk off a) (hb : U32At w vb b) (hvb : vb.ownBlock ≠ some bk) (hda : ∀ d ∈ a, d < 1000000000) (hdb : ∀ d ∈ b, d < 1000000000)
    (ht : t ≤ 1000000000) (hl : a.length ≤ 10000000) :
    Calls Tryz.prog 94 #[.slice (some ⟨bk, off, none⟩) a.length cap, vb, .int .u64 (t : Int)] w fun e w' => e = .returned (.bool (decide (0 < (took a b t a.length).2))) ∧ RowAt w' bk off (took a b t a.length).1 ∧ Wrote bk off a.length w w' := by
  go_enter Tryz.func94, Tryz.ntmps94
  go_wp2
  go_loopw [7, 13] (fun ov iv wr => ∃ k : Nat, iv = .int .i64 (k : Int) ∧ k ≤ a.length ∧ ov = .int .u64 (((took a b t k).2 : Nat) : Int) ∧ RowAt wr bk off ((took a b t k).1 ++ a.drop k) ∧ Wrote bk off a.length w wr) (fun _ iv _ => a.length - (intOf iv).toNat)
  case atStart => exact ⟨0, rfl, Nat.zero_le _, rfl, ha, Wrote.refl _ _ _ _⟩
  case round =>
    clear ha
    obtain ⟨k, rfl, hk, rfl, hR, hbel⟩ := hrel
    by_cases hlt : k < a.length
    · have hltI : (k : Int) < (a.length : Int) := by omega
      have HC : Hid (Calls Tryz.prog 91 #[vb, .int .i64 (k : Int)] wr fun e w' => e = .returned (.int .u64 ((lAt b k : Nat) : Int)) ∧ w' = wr) := limbAt_any b k vb wr (hb.wrote hbel hvb) hdb (by omega)
      have ho := took_bound a b t hdb ht k
      have hx := lAt_lt hdb k
      have hd := lAt_lt hda k
      obtain ⟨hc1, hc2⟩ := hR k (by simp [took_length]; omega)
      rw [show (((took a b t k).1 ++ a.drop k)[k]'(by simp [took_length]; omega)) = lAt a k from by simp [took_length, lAt_get hlt]] at hc1
      obtain ⟨o, eo⟩ : ∃ o, o = (took a b t k).2 := ⟨_, rfl⟩
      obtain ⟨x, ex⟩ : ∃ x, x = lAt b k := ⟨_, rfl⟩
      obtain ⟨d, ed⟩ : ∃ d, d = lAt a k := ⟨_, rfl⟩
      obtain ⟨m, em⟩ : ∃ m, m = x * t := ⟨_, rfl⟩
      have hmul : (x : Int) * (t : Int) = (m : Int) := by rw [em]; simp
      have hm : m ≤ 1000000000000000000 := by
        rw [em]; exact Nat.le_trans (Nat.mul_le_mul (Nat.le_of_lt (ex ▸ hx)) ht) (by decide)
      have HS : Hid (took a b t (k + 1) = if d < (o + m) % 1000000000 then ((took a b t k).1 ++ [d + 1000000000 - (o + m) % 1000000000], (o + m) / 1000000000 + 1) else ((took a b t k).1 ++ [d - (o + m) % 1000000000], (o + m) / 1000000000)) := by
        show _ = _; rw [eo, em, ex, ed]; rfl
      rw [← eo] at ho
      rw [← ex] at hx HC
      rw [← ed] at hd hc1
      rw [← eo]
      have HR : Hid (RowAt wr bk off ((took a b t k).1 ++ a.drop k)) := hR
      clear eo ex ed em hR
      have HD : Hid (a.drop k = a[k] :: a.drop (k + 1)) := List.drop_eq_getElem_cons hlt
      by_cases hlo : d < (o + m) % 1000000000
      · have HS' : Hid (took a b t (k + 1) = ((took a b t k).1 ++ [d + 1000000000 - (o + m) % 1000000000], (o + m) / 1000000000 + 1)) := by
          show _ = _; rw [HS.out, if_pos hlo]
        clear HS
        go_wp2_with (go_at_call 91; refine HC.out.mono ?_; rintro e w' ⟨rfl, rfl⟩)
        go_roundw
        case rel =>
          refine ⟨k + 1, by go_num, by omega, ?_, ?_, hbel.set hlt _⟩
          · rw [HS'.out]; congr 1
          · rw [HS'.out]
            have h := HR.out
            rw [HD.out] at h
            exact h.set (took_length _ _ _ _) (by omega)
        case measure => simp [intOf]; omega
      · have HS' : Hid (took a b t (k + 1) = ((took a b t k).1 ++ [d - (o + m) % 1000000000], (o + m) / 1000000000)) := by
          show _ = _; rw [HS.out, if_neg hlo]
        clear HS
        go_wp2_with (go_at_call 91; refine HC.out.mono ?_; rintro e w' ⟨rfl, rfl⟩)
        go_roundw
        case rel =>
          refine ⟨k + 1, by go_num, by omega, ?_, ?_, hbel.set hlt _⟩
          · rw [HS'.out]; congr 1
          · rw [HS'.out]
            have h := HR.out
            rw [HD.out] at h
            exact h.set (took_length _ _ _ _) (by omega)
        case measure => simp [intOf]; omega
    · obtain rfl : k = a.length := by omega
      have hR' : RowAt wr bk off (took a b t a.length).1 := by rw [List.drop_length, List.append_nil] at hR; exact hR
      obtain ⟨o, ho⟩ : ∃ o, o = (took a b t a.length).2 := ⟨_, rfl⟩
      rw [← ho]
      have HO : Hid (o = (took a b t a.length).2) := ho
      clear hR ho
      go_wp2
      go_ret
      exact ⟨by rw [← HO.out]; simp, hR', hbel⟩


set_option maxHeartbeats 2000000 in
set_option maxRecDepth 100000 in
/-- giveBack. -/
theorem giveBack_row (a b : List Nat) (bk off cap : Nat) (vb : Value) (w : World) (ha : RowAt w bk off a) (hb : U32At w vb b) (hvb : vb.ownBlock ≠ some bk) (hda : ∀ d ∈ a, d < 1000000000) (hdb : ∀ d ∈ b, d < 1000000000)
    (hl : a.length ≤ 10000000) :
    Calls Tryz.prog 128 #[.slice (some ⟨bk, off, none⟩) a.length cap, vb] w fun e w' => e = .returned (.tuple #[]) ∧ RowAt w' bk off (told (fun p => lAt a p + lAt b p) a.length).1 ∧ Wrote bk off a.length w w' := by
  go_enter Tryz.func128, Tryz.ntmps128
  go_wp2
  go_loopw [4, 10] (fun cv iv wr => ∃ k : Nat, iv = .int .i64 (k : Int) ∧ k ≤ a.length ∧ cv = .int .u64 (((told (fun p => lAt a p + lAt b p) k).2 : Nat) : Int) ∧ RowAt wr bk off ((told (fun p => lAt a p + lAt b p) k).1 ++ a.drop k) ∧ Wrote bk off a.length w wr) (fun _ iv _ => a.length - (intOf iv).toNat)
  case atStart => exact ⟨0, rfl, Nat.zero_le _, rfl, ha, Wrote.refl _ _ _ _⟩
  case round =>
    clear ha
    obtain ⟨k, rfl, hk, rfl, hR, hbel⟩ := hrel
    by_cases hlt : k < a.length
    · have hltI : (k : Int) < (a.length : Int) := by omega
      have HC : Hid (Calls Tryz.prog 91 #[vb, .int .i64 (k : Int)] wr fun e w' => e = .returned (.int .u64 ((lAt b k : Nat) : Int)) ∧ w' = wr) := limbAt_any b k vb wr (hb.wrote hbel hvb) hdb (by omega)
      have ho := told_carry (fun p => lAt a p + lAt b p) 2000000000 (fun p => by have := lAt_lt hda p; have := lAt_lt hdb p; show _ + _ ≤ _; omega) k
      have hx := lAt_lt hdb k
      have hd := lAt_lt hda k
      obtain ⟨hc1, hc2⟩ := hR k (by simp [told_length]; omega)
      rw [show (((told (fun p => lAt a p + lAt b p) k).1 ++ a.drop k)[k]'(by simp [told_length]; omega)) = lAt a k from by simp [told_length, lAt_get hlt]] at hc1
      obtain ⟨o, eo⟩ : ∃ o, o = (told (fun p => lAt a p + lAt b p) k).2 := ⟨_, rfl⟩
      obtain ⟨x, ex⟩ : ∃ x, x = lAt b k := ⟨_, rfl⟩
      obtain ⟨d, ed⟩ : ∃ d, d = lAt a k := ⟨_, rfl⟩
      have HS : Hid (told (fun p => lAt a p + lAt b p) (k + 1) = ((told (fun p => lAt a p + lAt b p) k).1 ++ [(o + (d + x)) % 1000000000], (o + (d + x)) / 1000000000)) := by
        show _ = _; rw [eo, ex, ed]; rfl
      rw [← eo] at ho
      rw [← ex] at hx HC
      rw [← ed] at hd hc1
      rw [← eo]
      have HR : Hid (RowAt wr bk off ((told (fun p => lAt a p + lAt b p) k).1 ++ a.drop k)) := hR
      clear eo ex ed hR
      have HD : Hid (a.drop k = a[k] :: a.drop (k + 1)) := List.drop_eq_getElem_cons hlt
      go_wp2_with (go_at_call 91; refine HC.out.mono ?_; rintro e w' ⟨rfl, rfl⟩)
      go_roundw
      case rel =>
        refine ⟨k + 1, by go_num, by omega, ?_, ?_, hbel.set hlt _⟩
        · rw [HS.out]; congr 1; omega
        · rw [HS.out]
          have h := HR.out
          rw [HD.out] at h
          exact h.set (told_length _ _) (by omega)
      case measure => simp [intOf]; omega
    · obtain rfl : k = a.length := by omega
      have hR' : RowAt wr bk off (told (fun p => lAt a p + lAt b p) a.length).1 := by rw [List.drop_length, List.append_nil] at hR; exact hR
      clear hR
      go_wp2
      go_end0
      exact ⟨rfl, hR', hbel⟩
end Go.Proofs.YtjffbndiecjkjaaGreatDoor

namespace Go.Proofs.YtjffbndiecjkjaaGreatDoor
open Go.RowKit
open Bn (limbs)

/-- A row of noughts that has just been made. -/
theorem RowAt.made (w : World) (n : Nat) : RowAt (w.alloc (.cells (madeCells #[.int .u32 0] n) 104)) w.heap.size 0 (List.replicate n 0) := by
  intro j hj
  have h := World.rowIs_made w (.int .u32 0) n 104
  have hj' : j < n := by simpa using hj
  rw [Nat.zero_add]
  refine ⟨?_, h.frozen j⟩
  rw [h.cell hj']
  simp

theorem short_step {s B l d q r A Q : Nat} (hA : A = s * Q + l) (hq : l * B + d = s * q + r) : d + B * A = s * (q + B * Q) + r := by
  rw [hA, Nat.mul_add, Nat.mul_add, Nat.mul_left_comm B s Q, Nat.mul_comm B l]
  omega

set_option maxHeartbeats 2000000 in
set_option maxRecDepth 100000 in
/-- divShort. -/
theorem divShort_any (x s : Nat) (va : Value) (w : World) (ha : U32At w va (limbs x)) (hl : (limbs x).length ≤ 5000000) (hs0 : 0 < s) (hs : s < 1000000000) :
    Calls Tryz.prog 104 #[va, .int .u64 (s : Int)] w fun e w' => ∃ v, e = .returned (.tuple #[v, .bool (decide (x % s = 0))]) ∧ U32At w' v (limbs (x / s)) ∧ Below w.heap.size w w' := by
  obtain ⟨i0, hi0, hz0, hz1, hz2⟩ := info_parts Tryz.info104
  obtain ⟨n, hn⟩ : ∃ n, n = (limbs x).length := ⟨_, rfl⟩
  obtain ⟨pa, ca, hva, hma⟩ := ha.form
  rw [← hn] at hva hl
  subst hva
  have HA : Hid (U32At w (.slice pa n ca) (limbs x)) := ha
  have HN : Hid (n = (limbs x).length) := hn
  clear ha hma hn
  go_enter Tryz.func104, Tryz.ntmps104
  go_wp2_with (refine wpList_make_row _ rfl _ _ 76 rfl 104 i0 (.int .u32 0) Tryz.underlying76 hi0 hz0 hz1 rfl .i64 .i64 n rfl rfl (by rw [hz2]; omega) (by omega) ?_)
  obtain ⟨W, hW⟩ : ∃ W, W = w.alloc (.cells (madeCells #[.int .u32 0] n) 104) := ⟨_, rfl⟩
  have hR0 : RowAt W w.heap.size 0 (List.replicate n 0) := by rw [hW]; exact RowAt.made w n
  have hbW : Below w.heap.size w W := by rw [hW]; exact (Below.refl _ _).alloc (Nat.le_refl _) _
  have hsW : w.heap.size < W.heap.size := by rw [hW]; simp
  rw [← hW]
  clear hW
  go_loopw [6, 7] (fun lv iv wr => ∃ (k l : Nat) (q : List Nat), iv = .int .i64 ((k : Int) - 1) ∧ k ≤ n ∧ lv = .int .u64 (l : Int) ∧ l < s ∧ Hid (q.length + k = n ∧ (∀ d ∈ q, d < 1000000000) ∧ Bn.val ((limbs x).drop k) = s * Bn.val q + l) ∧ RowAt wr w.heap.size 0 (List.replicate k 0 ++ q) ∧ Below w.heap.size w wr ∧ w.heap.size < wr.heap.size) (fun _ iv _ => (intOf iv + 1).toNat)
  case atStart => exact ⟨n, 0, [], rfl, Nat.le_refl _, rfl, hs0, ⟨by simp, by simp, by rw [HN.out, List.drop_length]; simp [Bn.val]⟩, by rw [List.append_nil]; exact hR0, hbW, hsW⟩
  case round =>
    obtain ⟨k, l, q, rfl, hk, rfl, hls, HQ, hR, hbel, hwr⟩ := hrel
    cases k with
    | zero =>
      have hq := HQ.out
      have HU : Hid (Calls Tryz.prog 79 #[.slice (some ⟨w.heap.size, 0, none⟩) n n] wr fun e w' => ∃ v', e = .returned v' ∧ U32At wr v' (limbs (x / s)) ∧ w' = wr) := by
        have hql : q.length = n := by have := hq.1; omega
        have h := trimmed_any q (.slice (some ⟨w.heap.size, 0, none⟩) n n) wr (.inr ⟨w.heap.size, 0, n, by rw [hql], hwr, by omega, by unfold maxLen; omega, fun j hj => by have := hR j (by simpa using hj); simpa using this.1⟩) (fun d hd => by have := hq.2.1 d hd; omega)
        have hv := hq.2.2
        rw [List.drop_zero, Bn.val_limbs'] at hv
        rw [trim_eq _ hq.2.1, show Bn.val q = x / s from by rw [hv, Nat.mul_add_div hs0, Nat.div_eq_of_lt hls, Nat.add_zero]] at h
        refine h.mono ?_
        rintro e w' ⟨v', h1, h2, h3, _⟩
        exact ⟨v', h1, h2, h3⟩
      have HE : Hid (((l : Int) == 0) = decide (x % s = 0)) := by
        show _ = _
        have hv := hq.2.2
        rw [List.drop_zero, Bn.val_limbs'] at hv
        rw [show x % s = l from by rw [hv, Nat.mul_add_mod, Nat.mod_eq_of_lt hls]]
        rw [Bool.eq_iff_iff, beq_iff_eq, decide_eq_true_iff]
        omega
      clear hq HQ hR
      go_wp2_with fail
      refine HU.out.mono ?_
      rintro e w1 ⟨v, rfl, hU, rfl⟩
      obtain ⟨pv, cv, hvv, _⟩ := hU.form
      subst hvv
      go_wp2
      go_ret2
      refine ⟨.slice pv _ cv, ?_, hU, hbel⟩
      show Ending.returned (.tuple #[.slice pv (limbs (x / s)).length cv, .bool ((l : Int) == 0)]) = _
      rw [HE.out]
    | succ j =>
      have hj : j < (limbs x).length := by have := HN.out; omega
      obtain ⟨b, off, cap', hv, hbs, hl1, hm1, hc⟩ := (HA.out.below hbel).pos (by omega)
      injection hv with hv1 hv2 hv3
      subst hv1
      subst hv3
      have hck := hc j hj
      have hd := Bn.limbs_get_lt hj
      have hva := val_at (limbs x) j hj
      generalize (limbs x)[j] = d at *
      have hR' : RowAt wr w.heap.size 0 (List.replicate j 0 ++ 0 :: q) := by
        rw [List.replicate_succ', List.append_assoc] at hR; exact hR
      obtain ⟨hc1, hc2⟩ := hR' j (by simp)
      rw [Nat.zero_add] at hc1 hc2
      rw [show ((List.replicate j 0 ++ 0 :: q)[j]'(by simp)) = 0 from by simp] at hc1
      obtain ⟨t, et⟩ : ∃ t, t = l * 1000000000 + d := ⟨_, rfl⟩
      have eT : (l : Int) * 1000000000 + (d : Int) = (t : Int) := by rw [et]; simp
      have ht : t < s * 1000000000 := by
        have := Nat.mul_le_mul_right 1000000000 (show l + 1 ≤ s from hls)
        omega
      have hq0 : t / s < 1000000000 := by rw [Nat.div_lt_iff_lt_mul hs0, Nat.mul_comm]; exact ht
      have hr0 : t % s < s := Nat.mod_lt _ hs0
      have eq0 : (t : Int) / (s : Int) = ((t / s : Nat) : Int) := rfl
      have er0 : (t : Int) % (s : Int) = ((t % s : Nat) : Int) := rfl
      have HST : Hid (d + 1000000000 * Bn.val ((limbs x).drop (j + 1)) = s * (t / s + 1000000000 * Bn.val q) + t % s) := short_step HQ.out.2.2 (by rw [← et]; exact (Nat.div_add_mod t s).symm)
      have htI : t < 1000000000000000000 := by omega
      obtain ⟨q0, hq0e⟩ : ∃ q0, q0 = t / s := ⟨_, rfl⟩
      obtain ⟨r0, hr0e⟩ : ∃ r0, r0 = t % s := ⟨_, rfl⟩
      rw [← hq0e] at hq0 eq0 HST
      rw [← hr0e] at hr0 er0 HST
      have HV : Hid (Bn.val ((limbs x).drop j) = d + 1000000000 * Bn.val ((limbs x).drop (j + 1))) := hva
      have HR : Hid (RowAt wr w.heap.size 0 (List.replicate j 0 ++ 0 :: q)) := hR'
      have hsI : (0 : Int) < (s : Int) := by omega
      have hjI : (j : Int) < (n : Int) := by omega
      clear hv2 hq0e hr0e et hc hva hR hR'
      go_wp2
      have hset := HR.out.set (k := j) (n := q0) (u := (q0 : Int)) (by simp) rfl
      rw [Nat.zero_add, List.append_assoc] at hset
      have hq := HQ.out
      refine ⟨⟨j, r0, q0 :: q, rfl, by omega, by rw [er0], hr0, ⟨by have := hq.1; simp; omega, fun e he => ?_, ?_⟩, hset, hbel.setCell (p := ⟨w.heap.size, j, none⟩) (Nat.le_refl _) _, by simpa [World.setCell] using hwr⟩, by simp [intOf]⟩
      · rcases List.mem_cons.1 he with rfl | he
        · exact hq0
        · exact hq.2.1 e he
      · rw [HV.out, HST.out]; rfl

theorem made_toList (n : Nat) : (madeCells #[.int .u32 0] n).toList = cells32 (List.replicate n 0) := by
  apply List.ext_getElem
  · simp [size_madeCells, cells32]
  · intro i h1 h2
    simp [madeCells, cells32, Nat.mod_one]

theorem add_none (b o j : Nat) : (⟨b, o, none⟩ : Addr).add j = ⟨b, o + j, none⟩ := by
  cases j <;> simp [Addr.add]

theorem copied {W : World} {lb n : Nat} {S : List Nat} (hL : W.heap[lb]? = some (.cells (madeCells #[.int .u32 0] n) 104 (0, 0))) {V : World}
    (hV : V = W.setRow lb ((madeCells #[.int .u32 0] n).toList.take 0 ++ cells32 S ++ (madeCells #[.int .u32 0] n).toList.drop (0 + (cells32 S).length)).toArray) :
    RowAt V lb 0 (S ++ List.replicate (n - S.length) 0) ∧ V.heap.size = W.heap.size ∧ (∀ k, k ≠ lb → V.heap[k]? = W.heap[k]?) ∧ Below lb W V := by
  have e : ((madeCells #[.int .u32 0] n).toList.take 0 ++ cells32 S ++ (madeCells #[.int .u32 0] n).toList.drop (0 + (cells32 S).length)) = cells32 (S ++ List.replicate (n - S.length) 0) := by
    rw [made_toList]
    simp [cells32]
  rw [e] at hV
  subst hV
  refine ⟨fun j hj => ?_, by simp [World.setRow], fun k hk => setRow_other W lb k _ hk, ⟨rfl, rfl, rfl, by simp [World.setRow], fun k hk => setRow_other W lb k _ (by omega)⟩⟩
  have hh := setRow_heap W lb _ (cells32 (S ++ List.replicate (n - S.length) 0)).toArray 104 _ hL
  rw [Nat.zero_add]
  generalize hM : S ++ List.replicate (n - S.length) 0 = M at *
  generalize hX : W.setRow lb (cells32 M).toArray = X at *
  constructor
  · simp only [World.cell?, hh]
    simp [cells32, hj]
  · simp [World.frozen?, hh]
end Go.Proofs.YtjffbndiecjkjaaGreatDoor

namespace Go.Proofs.YtjffbndiecjkjaaGreatDoor
open Go.RowKit
open Bn (limbs)

set_option maxHeartbeats 2000000 in
set_option maxRecDepth 100000 in
/-- guess: how often the last two limbs go into the last three. -/
theorem guess_row (m u2 u1 u0 v1 v0 lead U V : Nat) (ba oa bb ob capa capb : Nat) (w : World)
    (HU : Hid (U = lead * 1000000000 + u0)) (HV : Hid (V = v1 * 1000000000 + v0)) (HL : Hid (lead = u2 * 1000000000 + u1)) (hv : 1 ≤ v1) (h2 : u2 ≤ v1) (h1 : u1 < 1000000000) (h0 : u0 < 1000000000) (hv1 : v1 < 1000000000) (hv0 : v0 < 1000000000)
    (ca2 : w.cell? ⟨ba, oa + (m + 2), none⟩ = some (.int .u32 (u2 : Int))) (ca1 : w.cell? ⟨ba, oa + (m + 1), none⟩ = some (.int .u32 (u1 : Int))) (ca0 : w.cell? ⟨ba, oa + m, none⟩ = some (.int .u32 (u0 : Int)))
    (cb1 : w.cell? ⟨bb, ob + (m + 1), none⟩ = some (.int .u32 (v1 : Int))) (cb0 : w.cell? ⟨bb, ob + m, none⟩ = some (.int .u32 (v0 : Int))) (hm : m ≤ 10000000) :
    Calls Tryz.prog 127 #[.slice (some ⟨ba, oa, none⟩) (m + 3) capa, .slice (some ⟨bb, ob, none⟩) (m + 2) capb] w fun e w' => e = .returned (.int .u64 ((U / V : Nat) : Int)) ∧ w'.heap = w.heap ∧ Below w.heap.size w w' := by
  have eL : (u2 : Int) * 1000000000 + (u1 : Int) = (lead : Int) := by rw [HL.out]; simp
  have hlead : lead < 1000000001000000000 := by rw [HL.out]; omega
  have hvI : (0 : Int) < (v1 : Int) := by omega
  go_enter Tryz.func127, Tryz.ntmps127
  go_wp2
  go_region
  go_wp2
  go_region
  go_wp2
  go_region
  have eQ : IntKind.u64.wrap ((lead : Int) / (v1 : Int)) = ((lead / v1 : Nat) : Int) := by
    have h := Nat.div_le_self lead v1
    rw [show (lead : Int) / (v1 : Int) = ((lead / v1 : Nat) : Int) from rfl, IntKind.wrap_u64]
    generalize lead / v1 = q at *
    omega
  have eR : (lead : Int) % (v1 : Int) = ((lead % v1 : Nat) : Int) := rfl
  have HE : Hid (lead / v1 * v1 + lead % v1 = lead) := Nat.div_add_mod' lead v1
  obtain ⟨i1, i2⟩ := guess_init HL.out HU.out HV.out hv h2 h1 h0
  have i3 : lead % v1 < v1 := Nat.mod_lt _ hv
  rw [eQ, eR]
  generalize lead / v1 = t0 at *
  generalize lead % v1 = l0 at *
  clear eQ eR
  go_wp2
  go_loopw [9, 10] (fun tv lv wr => ∃ t l : Nat, tv = .int .u64 (t : Int) ∧ lv = .int .u64 (l : Int) ∧ Hid (t * v1 + l = lead) ∧ U / V ≤ t ∧ t ≤ 2000000000 ∧ l ≤ 3000000000 ∧ wr.heap = w.heap ∧ Below w.heap.size w wr) (fun tv _ _ => (intOf tv).toNat)
  case atStart => exact ⟨t0, l0, rfl, rfl, HE, i1, i2, by omega, rfl, ((Below.refl _ _).drew.drew.drew)⟩
  case round =>
    obtain ⟨t, l, rfl, rfl, HT, g1, g2, g3, hh, hbel⟩ := hrel
    have ca0' : wr.cell? ⟨ba, oa + m, none⟩ = some (.int .u32 (u0 : Int)) := (World.cell?_of_block (a := ⟨ba, oa + m, none⟩) (by rw [hh])).trans ca0
    obtain ⟨mm, em⟩ : ∃ mm, mm = t * v0 := ⟨_, rfl⟩
    have hmul : (t : Int) * (v0 : Int) = (mm : Int) := by rw [em]; simp
    have hmm : mm ≤ 2000000000000000000 := by
      rw [em]; exact Nat.le_trans (Nat.mul_le_mul g2 (Nat.le_of_lt hv0)) (by decide)
    have EM : Hid (mm = t * v0) := em
    have HG : Hid (U / V ≤ t) := g1
    clear ca0 ca1 ca2 cb0 cb1 em g1
    by_cases hgt : l * 1000000000 + u0 < mm
    · obtain ⟨s1, s2, s3⟩ := guess_step HU.out HV.out hv HT.out EM.out hgt
      have S1 : Hid (U / V ≤ t - 1) := s1
      have S2 : Hid ((t - 1) * v1 + (l + v1) = lead) := s2
      clear s1 s2
      go_wp2
      go_roundw
      case rel => exact ⟨t - 1, l + v1, by go_num, by go_num, S2, S1.out, by omega, by omega, hh, hbel⟩
      case measure => simp [intOf]; omega
    · have HD : Hid (t = U / V) := guess_done HU.out HV.out hv HT.out EM.out (by omega) HG.out
      go_wp2
      go_ret
      exact ⟨ret_int (congrArg Int.ofNat HD.out), hh, hbel⟩
end Go.Proofs.YtjffbndiecjkjaaGreatDoor

namespace Go.Proofs.YtjffbndiecjkjaaGreatDoor
open Go.RowKit
open Bn (limbs)

theorem enter103 (args : Array Value) (w : World) : (callFunc 139 args).run Tryz.prog w = .ok (.enter 139 args) w := enter_body Tryz.func139 (by kernel_rfl) rfl args w

set_option maxHeartbeats 1000000 in
set_option maxRecDepth 100000 in
theorem scaleLimbs1_any (a : List Nat) (va : Value) (s ab sb base tb : Nat) (W : World) (hT : TallyAt W base tb [] 0) (hn : a.length ≤ 10000000) (hs : s ≤ 1000000000)
    (hca : W.cell? ⟨ab, 0, none⟩ = some va) (hcs : W.cell? ⟨sb, 0, none⟩ = some (.int .u64 (s : Int)))
    (hsb : sb < base) (hua : ∀ W', Below base W W' → U32At W' va a) (hda : ∀ d ∈ a, d < 1000000000) :
    Calls Tryz.prog 139 (#[.func (.func 108) #[.pointer (some ⟨tb, 0, none⟩)] #[]] ++ #[.pointer (some ⟨ab, 0, none⟩), .pointer (some ⟨sb, 0, none⟩)]) W fun e W' => e = .returned (.tuple #[]) ∧ TallyAt W' base tb (told (fun p => s * lAt a p) a.length).1 (told (fun p => s * lAt a p) a.length).2 ∧ Below base W W' := by
  obtain ⟨pa, cap, rfl, hml⟩ := (hua W (Below.refl _ _)).form
  go_enter Tryz.func139, Tryz.ntmps139
  go_wp2
  go_loopw [8] (fun iv wr => ∃ k : Nat, iv = .int .i64 (k : Int) ∧ k ≤ a.length ∧ TallyAt wr base tb (told (fun p => s * lAt a p) k).1 (told (fun p => s * lAt a p) k).2 ∧ Below base W wr) (fun iv _ => a.length - (intOf iv).toNat)
  case atStart => exact ⟨0, rfl, Nat.zero_le _, hT, Below.refl _ _⟩
  case round =>
    clear hT
    obtain ⟨k, rfl, hk, hT, hbel⟩ := hrel
    have hcs' : wr.cell? ⟨sb, 0, none⟩ = some (.int .u64 (s : Int)) := (hbel.cell (p := ⟨sb, 0, none⟩) hsb).trans hcs
    by_cases hlt : k < a.length
    · have hltI : (k : Int) < (a.length : Int) := by omega
      have h1 := lAt_lt hda k
      obtain ⟨b, off, cap', hv, hbs, hl1, hm1, hc⟩ := (hua wr hbel).pos (by omega)
      injection hv with hv1 hv2 hv3
      subst hv1
      subst hv3
      have hck := hc k hlt
      rw [← lAt_get hlt] at hck
      have hc' := told_carry (fun p => s * lAt a p) 1000000000000000000 (fun p => by have := lAt_lt hda p; exact Nat.le_trans (Nat.mul_le_mul hs (Nat.le_of_lt this)) (by decide)) k
      have hlen : (told (fun p => s * lAt a p) k).1.length ≤ 100000000 := by rw [told_length]; omega
      have HN : Hid (∀ W' : World, TallyAt W' base tb ((told (fun p => s * lAt a p) k).1 ++ [((told (fun p => s * lAt a p) k).2 + s * lAt a k) % 1000000000]) (((told (fun p => s * lAt a p) k).2 + s * lAt a k) / 1000000000) → TallyAt W' base tb (told (fun p => s * lAt a p) (k + 1)).1 (told (fun p => s * lAt a p) (k + 1)).2) := fun _ h => h
      generalize (told (fun p => s * lAt a p) k).1 = L at *
      generalize (told (fun p => s * lAt a p) k).2 = c at *
      obtain ⟨d, ed⟩ : ∃ d, d = lAt a k := ⟨_, rfl⟩
      rw [← ed] at HN h1 hck
      clear ed
      obtain ⟨m, em⟩ : ∃ m, m = s * d := ⟨_, rfl⟩
      have hmul : (d : Int) * (s : Int) = (m : Int) := by rw [em, Nat.mul_comm]; simp
      have hm : m ≤ 1000000000000000000 := by
        rw [em]; exact Nat.le_trans (Nat.mul_le_mul hs (Nat.le_of_lt h1)) (by decide)
      rw [← em] at HN
      have HD : Hid (Calls Tryz.prog 108 #[.pointer (some ⟨tb, 0, none⟩), .int .u64 0, .int .u64 (m : Int)] wr fun e w' => e = .returned (.tuple #[]) ∧ TallyAt w' base tb (L ++ [(c + m) % 1000000000]) ((c + m) / 1000000000) ∧ Below base wr w') :=
        tell_any base tb 0 m c ((c + m) / 1000000000) ((c + m) % 1000000000) L wr hT (by omega) (by omega) (by omega) hlen
      clear hca hcs hua hda hT em hc
      go_wp2_with (go_at_call 108; refine calls_of HD.out (by with_reducible rfl) ?_; rintro e w' ⟨rfl, hT', hb'⟩)
      go_roundw
      case rel => exact ⟨k + 1, by go_num, by omega, HN.out _ hT', hbel.trans hb'⟩
      case measure => simp [intOf]; omega
    · obtain rfl : k = a.length := by omega
      go_wp2
      go_end0
      exact ⟨rfl, hT, hbel⟩

set_option maxHeartbeats 1000000 in
set_option maxRecDepth 100000 in
/-- scaleLimbs. -/
theorem scaleLimbs_any (x s : Nat) (va : Value) (w : World) (ha : U32At w va (limbs x)) (hx : (limbs x).length ≤ 5000000) (hs : s ≤ 1000000000) :
    Calls Tryz.prog 126 #[va, .int .u64 (s : Int)] w fun e w' => ∃ v, e = .returned v ∧ U32At w' v (limbs (s * x)) ∧ Below w.heap.size w w' ∧ (∀ k, v.ownBlock = some k → w.heap.size ≤ k) := by
  have hmf : ∀ (fn : Fn) (first cap : Array Value) (w : World), (Instr.makeFunc fn first cap).run Tryz.prog w = .ok (.func fn first cap) w := fun _ _ _ _ => rfl
  obtain ⟨pa, ca, rfl, hma⟩ := ha.form
  obtain ⟨W3, hW3⟩ : ∃ W3, W3 = (w.alloc (.cells #[.slice pa (limbs x).length ca] 76)).alloc (.cells #[.int .u64 (s : Int)] 103) := ⟨_, rfl⟩
  have hs3 : W3.heap.size = w.heap.size + 2 := by rw [hW3]; simp
  have hb3 : Below w.heap.size w W3 := by
    rw [hW3]; exact ((Below.refl _ _).alloc (Nat.le_refl _) _).alloc (by simp) _
  have k0 : W3.cell? ⟨w.heap.size, 0, none⟩ = some (.slice pa (limbs x).length ca) := by rw [hW3, World.cell?_alloc_past _ _ _ (by simp)]; simp
  have k1 : W3.cell? ⟨w.heap.size + 1, 0, none⟩ = some (.int .u64 (s : Int)) := by
    rw [hW3]
    have : (w.alloc (.cells #[.slice pa (limbs x).length ca] 76)).heap.size = w.heap.size + 1 := by simp
    rw [← this]; exact alloc_first _ _ _
  have hcar := told_carry (fun p => s * lAt (limbs x) p) 1000000000000000000 (fun p => by have := lAt_lt (fun d h => Bn.limbs_lt' (m := x) h) p; exact Nat.le_trans (Nat.mul_le_mul hs (Nat.le_of_lt this)) (by decide)) (limbs x).length
  have hC := tallied_any 139 #[.pointer (some ⟨w.heap.size, 0, none⟩), .pointer (some ⟨w.heap.size + 1, 0, none⟩)] ((limbs x).length + 1) (told (fun p => s * lAt (limbs x) p) (limbs x).length).2 (told (fun p => s * lAt (limbs x) p) (limbs x).length).1 W3 (by omega)
    (by omega) (by rw [told_length]; omega) (told_lt _ _) enter103
    (fun W base tb hB hbs hT => scaleLimbs1_any (limbs x) _ s w.heap.size (w.heap.size + 1) base tb W hT (by omega) hs
      ((hB.cell (p := ⟨w.heap.size, 0, none⟩) (show w.heap.size < W3.heap.size by omega)).trans k0) ((hB.cell (p := ⟨w.heap.size + 1, 0, none⟩) (show w.heap.size + 1 < W3.heap.size by omega)).trans k1) (by omega)
      (fun W' hB' => ha.below (hb3.trans ((hB.mono hb3.size).trans (hB'.mono (by omega))))) (fun d h => Bn.limbs_lt' h))
  rw [told_trim, sumP_mul, sumP_all (Nat.le_refl _), Bn.val_limbs', hW3] at hC
  have HC : Hid (Calls Tryz.prog 89 #[.int .i64 (((limbs x).length : Int) + 1), .func (.func 139) #[] #[.pointer (some ⟨w.heap.size, 0, none⟩), .pointer (some ⟨w.heap.size + 1, 0, none⟩)]]
    ((w.alloc (.cells #[.slice pa (limbs x).length ca] 76)).alloc (.cells #[.int .u64 (s : Int)] 103)) fun e w' => ∃ v, e = .returned v ∧ U32At w' v (limbs (s * x)) ∧ Below w.heap.size w w' ∧ (∀ k, v.ownBlock = some k → w.heap.size ≤ k)) := by
    refine hC.mono ?_
    rw [← hW3]
    rintro e w' ⟨v, rfl, hU, hB, hfr⟩
    exact ⟨v, rfl, hU, hb3.trans (hB.mono hb3.size), fun k hk => Nat.le_trans hb3.size (hfr k hk)⟩
  clear hC k0 k1 hb3 hs3 hW3 ha hcar
  go_enter Tryz.func126, Tryz.ntmps126
  go_wp2_with fail
  refine HC.out.mono ?_
  rintro e w' ⟨v, rfl, hU, hB, hfr⟩
  go_wp2
  go_ret
  exact ⟨_, rfl, hU, hB, hfr⟩
end Go.Proofs.YtjffbndiecjkjaaGreatDoor

namespace Go.Proofs.YtjffbndiecjkjaaGreatDoor
open Go.RowKit
open Bn (limbs)

theorem RowAt.below {w w' : World} {b o : Nat} {l : List Nat} (h : RowAt w b o l) (hb : Below w.heap.size w w') (hlt : b < w.heap.size) : RowAt w' b o l := fun j hj =>
  ⟨(hb.cell (p := ⟨b, o + j, none⟩) hlt).trans (h j hj).1, (hb.frozen (p := ⟨b, o + j, none⟩) hlt).trans (h j hj).2⟩
theorem RowAt.of_heap {w w' : World} {b o : Nat} {l : List Nat} (h : RowAt w b o l) (e : w'.heap[b]? = w.heap[b]?) : RowAt w' b o l := fun j hj =>
  ⟨(World.cell?_of_block (a := ⟨b, o + j, none⟩) e).trans (h j hj).1, (World.frozen?_of_block (a := ⟨b, o + j, none⟩) e).trans (h j hj).2⟩
theorem U32At.of_heap {w w' : World} {v : Value} {l : List Nat} {n : Nat} (h : U32At w v l) (hs : w'.heap.size = w.heap.size) (e : ∀ k, k ≠ n → w'.heap[k]? = w.heap[k]?) (hv : v.ownBlock ≠ some n) : U32At w' v l := by
  rcases h with h | ⟨b, o, cap, hv', hlt, hl, hm, hc⟩
  · exact .inl h
  · have hb : b ≠ n := fun e => hv (by rw [hv', ← e]; rfl)
    exact .inr ⟨b, o, cap, hv', by rw [hs]; exact hlt, hl, hm, fun j hj => (World.cell?_of_block (a := ⟨b, o + j, none⟩) (e b hb)).trans (hc j hj)⟩

/-- The long division under way: what is left, the quotient's limbs from k on. -/
def LongAt (w : World) (lb qb : Nat) (vd : Value) (D S la c k : Nat) (wr : World) (L q : List Nat) : Prop :=
  (L.length = la + 1 ∧ (∀ d ∈ L, d < 1000000000) ∧ q.length + k = c ∧ (∀ d ∈ q, d < 1000000000) ∧ Bn.val L + D * (1000000000 ^ k * Bn.val q) = S ∧ Bn.val (L.drop k) < D) ∧
  RowAt wr lb 0 L ∧ RowAt wr qb 0 (List.replicate k 0 ++ q) ∧ U32At wr vd (limbs D) ∧ vd.ownBlock ≠ some lb ∧ vd.ownBlock ≠ some qb ∧ lb ≠ qb ∧ lb < wr.heap.size ∧ qb < wr.heap.size ∧ w.heap.size ≤ lb ∧ w.heap.size ≤ qb ∧ Below w.heap.size w wr

theorem long_put {w w2 : World} {lb qb : Nat} {vd : Value} {D S la c j t : Nat} {L q : List Nat} {u : Int} (hm : L.length = la + 1 ∧ (∀ d ∈ L, d < 1000000000) ∧ q.length + (j + 1) = c ∧ (∀ d ∈ q, d < 1000000000) ∧ Bn.val L + D * (1000000000 ^ j * (t + 1000000000 * Bn.val q)) = S ∧ Bn.val (L.drop j) < D) (ht : t < 1000000000)
    (hRL : RowAt w2 lb 0 L) (hRQ : RowAt w2 qb 0 (List.replicate j 0 ++ 0 :: q)) (hU : U32At w2 vd (limbs D)) (h1 : vd.ownBlock ≠ some lb) (h2 : vd.ownBlock ≠ some qb) (h3 : lb ≠ qb) (h4 : lb < w2.heap.size) (h5 : qb < w2.heap.size) (h6 : w.heap.size ≤ lb) (h7 : w.heap.size ≤ qb) (hb : Below w.heap.size w w2) (hu : u = (t : Int)) :
    LongAt w lb qb vd D S la c j (w2.setCell ⟨qb, j, none⟩ (.int .u32 u)) L (t :: q) := by
  obtain ⟨m1, m2, m3, m4, m5, m6⟩ := hm
  have hset := hRQ.set (k := j) (n := t) (u := u) (by simp) hu
  rw [Nat.zero_add, List.append_assoc] at hset
  refine ⟨⟨m1, m2, by simp; omega, fun d hd => ?_, m5, m6⟩, hRL.of_heap (Below.heap_setCell w2 ⟨qb, j, none⟩ _ lb h3), hset, hU.setCell (p := ⟨qb, j, none⟩) h2 _, h1, h2, h3, by simpa [World.setCell] using h4, by simpa [World.setCell] using h5, h6, h7, hb.setCell (p := ⟨qb, j, none⟩) h7 _⟩
  rcases List.mem_cons.1 hd with rfl | hd
  · exact ht
  · exact m4 d hd

/-- Behind a step's subtractions: the quotient's limb may be written. -/
def Puts (w : World) (lb qb : Nat) (vd : Value) (D S la c j : Nat) (q : List Nat) (t : Nat) (w' : World) : Prop :=
  w'.cell? ⟨qb, j, none⟩ = some (.int .u32 0) ∧ w'.frozen? ⟨qb, j, none⟩ = false ∧ ∀ u : Int, u = (t : Int) → ∃ L', LongAt w lb qb vd D S la c j (w'.setCell ⟨qb, j, none⟩ (.int .u32 u)) L' (t :: q)

theorem puts_of {w wr w2 : World} {lb qb : Nat} {vd : Value} {D S la c j m t : Nat} {L q T : List Nat} (hI : LongAt w lb qb vd D S la c (j + 1) wr L q) (hjc : j + (m + 3) ≤ la + 1) (hz : Bn.val (L.drop (j + (m + 2) + 1)) = 0)
    (hw : Wrote lb j (m + 3) wr w2) (hbw : Below lb wr w2) (hT : RowAt w2 lb j T) (hTl : T.length = m + 3) (hTd : ∀ d ∈ T, d < 1000000000) (ht : t < 1000000000) (hv : Bn.val T + t * D = Bn.val ((L.drop j).take (m + 3))) (hlt : Bn.val T < D) :
    Puts w lb qb vd D S la c j q t w2 := by
  obtain ⟨⟨hLl, hLd, hql, hqd, hS, hH⟩, hRL, hRQ, hUD, hn1, hn2, hn3, hlbs, hqbs, hw1, hw2, hbel⟩ := hI
  have hRQ' : RowAt wr qb 0 (List.replicate j 0 ++ 0 :: q) := by
    rw [List.replicate_succ', List.append_assoc] at hRQ; exact hRQ
  have hRQ2 : RowAt w2 qb 0 (List.replicate j 0 ++ 0 :: q) := hRQ'.wrote hw hn3.symm
  obtain ⟨c1, c2⟩ := hRQ2 j (by simp)
  rw [Nat.zero_add] at c1 c2
  rw [show ((List.replicate j 0 ++ 0 :: q)[j]'(by simp)) = 0 from by simp] at c1
  refine ⟨c1, c2, fun u hu => ⟨L.take j ++ T ++ L.drop (j + (m + 3)), ?_⟩⟩
  obtain ⟨N1, N2⟩ := long_next (L := L) (P' := T) (j := j) (n := m + 2) (D := D) (q := t) (S := S) (Q := Bn.val q) (by omega) hz hv hTl hlt hS
  have hRL2 : RowAt w2 lb 0 (L.take j ++ T ++ L.drop (j + T.length)) := hRL.middle (by omega) (by rw [hTl]; exact hw) hT
  rw [hTl] at hRL2
  refine long_put ⟨by simp [hTl]; omega, fun d hd => ?_, hql, hqd, N1, N2⟩ ht hRL2 hRQ2 (hUD.wrote hw hn1) hn1 hn2 hn3 (by rw [hw.1]; exact hlbs) (by rw [hw.1]; exact hqbs) hw1 hw2 (hbel.trans (hbw.mono hw1)) hu
  rcases List.mem_append.1 hd with h | h
  · rcases List.mem_append.1 h with h | h
    · exact hLd d (List.mem_of_mem_take h)
    · exact hTd d h
  · exact hLd d (List.mem_of_mem_drop h)

theorem Wrote.of_heap {bk off n : Nat} {w w' : World} (hh : w'.heap = w.heap) (hb : Below w.heap.size w w') (hlt : bk ≤ w.heap.size) : Wrote bk off n w w' :=
  ⟨by rw [hh], fun k _ => by rw [hh], fun p _ => ⟨World.cell?_of_block (a := ⟨bk, p, none⟩) (by rw [hh]), World.frozen?_of_block (a := ⟨bk, p, none⟩) (by rw [hh])⟩, hb.mono hlt⟩

set_option maxHeartbeats 1000000 in
/-- One round of the long division. -/
theorem long_round {w wr : World} {lb qb : Nat} {pd : Option Addr} {cd D S la c j m : Nat} {L q : List Nat} (hI : LongAt w lb qb (.slice pd (m + 1 + 1) cd) D S la c (j + 1) wr L q) (hsl : (limbs D).length = m + 2) (hjc : j + (m + 3) ≤ la + 1) (hlen : la ≤ 5000000) :
    ∃ t : Nat, t ≤ 1000000000 ∧ Calls Tryz.prog 127 #[.slice (some ⟨lb, j, none⟩) (m + 3) (la + 1 - j), .slice pd (m + 1 + 1) cd] wr (fun e w' => e = .returned (.int .u64 (t : Int)) ∧ w'.heap = wr.heap ∧ Below wr.heap.size wr w') ∧
      ((t < 1000000000 ∧ ∀ w1 : World, w1.heap = wr.heap → Below wr.heap.size wr w1 → Calls Tryz.prog 94 #[.slice (some ⟨lb, j, none⟩) (m + 3) (la + 1 - j), .slice pd (m + 1 + 1) cd, .int .u64 (t : Int)] w1 fun e w' => e = .returned (.bool false) ∧ Puts w lb qb (.slice pd (m + 1 + 1) cd) D S la c j q t w') ∨
       (1 ≤ t ∧ ∀ w1 : World, w1.heap = wr.heap → Below wr.heap.size wr w1 → Calls Tryz.prog 94 #[.slice (some ⟨lb, j, none⟩) (m + 3) (la + 1 - j), .slice pd (m + 1 + 1) cd, .int .u64 (t : Int)] w1 fun e w' => e = .returned (.bool true) ∧
          Calls Tryz.prog 128 #[.slice (some ⟨lb, j, none⟩) (m + 3) (la + 1 - j), .slice pd (m + 1 + 1) cd] w' fun e w'' => e = .returned (.tuple #[]) ∧ Puts w lb qb (.slice pd (m + 1 + 1) cd) D S la c j q (t - 1) w'')) := by
  have hI' := hI
  obtain ⟨⟨hLl, hLd, hql, hqd, hS, hH⟩, hRL, hRQ, hUD, hn1, hn2, hn3, hlbs, hqbs, hw1, hw2, hbel⟩ := hI'
  obtain ⟨db, dof, dcap, hpd, hdlt, _, _, hdc⟩ := hUD.pos (by omega)
  injection hpd with e1 e2 e3
  subst e1
  subst e3
  obtain ⟨hv1, hu2, b1, b0, c1, c0, P, hP, hPl, hPd, hz, hUV⟩ := long_facts hLd hsl (by omega) hH rfl rfl rfl rfl rfl
  have cu : ∀ i (h : i < L.length), wr.cell? ⟨lb, i, none⟩ = some (.int .u32 ((lAt L i : Nat) : Int)) := fun i h => by
    have := (hRL i h).1
    rw [Nat.zero_add] at this
    rw [lAt_get h]; exact this
  have cd1 : ∀ i (h : i < (limbs D).length), wr.cell? ⟨db, dof + i, none⟩ = some (.int .u32 ((lAt (limbs D) i : Nat) : Int)) := fun i h => by
    rw [lAt_get h]; exact hdc i h
  obtain ⟨U, hU⟩ : ∃ U, U = (lAt L (j + (m + 2)) * 1000000000 + lAt L (j + (m + 1))) * 1000000000 + lAt L (j + m) := ⟨_, rfl⟩
  obtain ⟨V, hV⟩ : ∃ V, V = lAt (limbs D) (m + 1) * 1000000000 + lAt (limbs D) m := ⟨_, rfl⟩
  obtain ⟨ht, hcases, hPD⟩ := hUV U V hU hV
  refine ⟨U / V, ht, guess_row m _ _ _ _ _ _ U V lb j db dof (la + 1 - j) cd wr hU hV rfl hv1 hu2 b1 b0 c1 c0 (cu _ (by omega)) (cu _ (by omega)) (cu _ (by omega)) (cd1 _ (by omega)) (cd1 _ (by omega)) (by omega), ?_⟩
  generalize U / V = t at *
  clear hU hV hUV cu cd1 hdc hv1 hu2 b1 b0 c1 c0
  have hRP : RowAt wr lb j P := by rw [hP]; exact hRL.part
  have hTk : ∀ w1 : World, w1.heap = wr.heap → Calls Tryz.prog 94 #[.slice (some ⟨lb, j, none⟩) (m + 3) (la + 1 - j), .slice (some ⟨db, dof, none⟩) (m + 1 + 1) cd, .int .u64 (t : Int)] w1 fun e w' => e = .returned (.bool (decide (0 < (took P (limbs D) t (m + 3)).2))) ∧ RowAt w' lb j (took P (limbs D) t (m + 3)).1 ∧ Wrote lb j (m + 3) w1 w' := by
    intro w1 hh
    have h := takeTimes_row P (limbs D) t lb j (la + 1 - j) (.slice (some ⟨db, dof, none⟩) (m + 1 + 1) cd) w1 (hRP.of_heap (by rw [hh])) (hUD.of_heap (n := lb) (by rw [hh]) (fun k _ => by rw [hh]) hn1) hn1 hPd (fun d h => Bn.limbs_lt' h) ht (by omega)
    rw [hPl] at h; exact h
  have hTl := took_length P (limbs D) t (m + 3)
  have hTd := took_lt P (limbs D) t hPd (m + 3)
  rcases hcases with ⟨hA1, hA2⟩ | ⟨hB0, hB1, hB2⟩
  · left
    obtain ⟨o1, o2⟩ := took_fits (a := P) (b := limbs D) (t := t) hPd (by omega) (by rw [Bn.val_limbs']; exact hA1)
    rw [hPl] at o1 o2
    rw [Bn.val_limbs'] at o2
    refine ⟨limb_of hA1 hPD, fun w1 hh hb => (hTk w1 hh).mono ?_⟩
    rintro e w' ⟨rfl, r1, r2⟩
    rw [o1]
    have hw := (Wrote.of_heap (off := j) (n := m + 3) hh hb (Nat.le_of_lt hlbs)).trans r2
    exact ⟨rfl, puts_of hI hjc hz hw hw.below r1 hTl hTd (limb_of hA1 hPD) (by rw [← hP]; exact o2) (by rw [Nat.add_mul] at hA2; omega)⟩
  · right
    obtain ⟨t', rfl⟩ : ∃ t', t = t' + 1 := ⟨t - 1, by omega⟩
    obtain ⟨o1, o2⟩ := took_over (a := P) (b := limbs D) (s := t') hPd (fun d h => Bn.limbs_lt' h) (by omega) (by rw [Bn.val_limbs']; exact hB1) (by rw [Bn.val_limbs']; exact hB2)
    rw [hPl] at o1 o2
    rw [Bn.val_limbs'] at o2
    refine ⟨by omega, fun w1 hh hb => (hTk w1 hh).mono ?_⟩
    rintro e w' ⟨rfl, r1, r2⟩
    have hw := (Wrote.of_heap (off := j) (n := m + 3) hh hb (Nat.le_of_lt hlbs)).trans r2
    refine ⟨by rw [decide_eq_true o1], ?_⟩
    have h := giveBack_row (took P (limbs D) (t' + 1) (m + 3)).1 (limbs D) lb j (la + 1 - j) (.slice (some ⟨db, dof, none⟩) (m + 1 + 1) cd) w' r1 (hUD.wrote hw hn1) hn1 hTd (fun d h => Bn.limbs_lt' h) (by omega)
    rw [hTl] at h
    refine h.mono ?_
    rintro e w'' ⟨rfl, s1, s2⟩
    have hw2' := hw.trans s2
    refine ⟨rfl, puts_of hI hjc hz hw2' hw2'.below s1 (told_length _ _) (told_lt _ _) (limb_of hB2 hPD) (by rw [← hP]; exact o2) ?_⟩
    rw [Nat.add_mul] at hB1
    have : t' + 1 - 1 = t' := rfl
    omega

set_option maxHeartbeats 2000000 in
set_option maxRecDepth 100000 in
/-- divLong. -/
theorem divLong_any (x y la m v s : Nat) (va vb : Value) (w : World) (ha : U32At w va (limbs x)) (hb : U32At w vb (limbs y)) (hla : (limbs x).length = la) (hlb : (limbs y).length = m + 2) (hlm : m + 2 ≤ la) (hlen : la ≤ 5000000)
    (hv : (limbs y)[m + 1] = v) (hs : s = 1000000000 / (v + 1)) :
    Calls Tryz.prog 105 #[va, vb] w fun e w' => ∃ r, e = .returned (.tuple #[r, .bool (decide (x % y = 0))]) ∧ U32At w' r (limbs (x / y)) ∧ Below w.heap.size w w' := by
  obtain ⟨i0, hi0, hz0, hz1, hz2⟩ := info_parts Tryz.info104
  obtain ⟨hs0, hs1, hsl⟩ := scaled_length hlb hv hs
  have hvb : v < 1000000000 := by rw [← hv]; exact Bn.limbs_get_lt _
  obtain ⟨bb, ob, cb, hvv, hbs, hl1, hm1, hc⟩ := hb.pos (by omega)
  have hcv := hc (m + 1) (by omega)
  rw [hv] at hcv
  rw [hlb] at hvv
  subst hvv
  obtain ⟨pa, ca, hva, hma⟩ := ha.form
  rw [hla] at hva
  subst hva
  have eS : (1000000000 : Int) / ((v : Int) + 1) = (s : Int) := by
    rw [hs]; rfl
  have hvI : (0 : Int) < (v : Int) + 1 := by omega
  have HA : Hid (U32At w (.slice pa la ca) (limbs x)) := ha
  have HB : Hid (U32At w (.slice (some ⟨bb, ob, none⟩) (m + 2) cb) (limbs y)) := hb
  have hmk : ∀ w, (Instr.makeSlice 76 (.int .i64 ((la : Int) + 1)) (.int .i64 ((la : Int) + 1))).run Tryz.prog w = .ok (.slice (some ⟨w.heap.size, 0, none⟩) (la + 1) (la + 1)) (w.alloc (.cells (madeCells #[.int .u32 0] (la + 1)) 104)) :=
    run_make_row (P := Tryz.prog) 76 104 i0 (.int .u32 0) Tryz.underlying76 hi0 hz0 hz1 rfl .i64 .i64 (la + 1) (by rw [hz2]; omega) (by omega)
  have hwl : IntKind.i64.wrap ((la : Int) + 1) = (la : Int) + 1 := by rw [IntKind.wrap_i64]; omega
  obtain ⟨c, hc0⟩ : ∃ c, c + (m + 2) = la + 1 := ⟨la + 1 - (m + 2), by omega⟩
  have ec : (la : Int) + 1 - ((m : Int) + 1 + 1) = (c : Int) := by omega
  have hmk2 : ∀ w, (Instr.makeSlice 76 (.int .i64 (c : Int)) (.int .i64 (c : Int))).run Tryz.prog w = .ok (.slice (some ⟨w.heap.size, 0, none⟩) c c) (w.alloc (.cells (madeCells #[.int .u32 0] c) 104)) :=
    run_make_row (P := Tryz.prog) 76 104 i0 (.int .u32 0) Tryz.underlying76 hi0 hz0 hz1 rfl .i64 .i64 c (by rw [hz2]; omega) (by omega)
  have HSb : Hid (∀ w', Below w.heap.size w w' → Calls Tryz.prog 126 #[.slice (some ⟨bb, ob, none⟩) (m + 2) cb, .int .u64 (s : Int)] w' fun e w'' => ∃ v, e = .returned v ∧ U32At w'' v (limbs (s * y)) ∧ Below w'.heap.size w' w'' ∧ (∀ k, v.ownBlock = some k → w'.heap.size ≤ k)) :=
    fun w' h => scaleLimbs_any y s _ w' (HB.out.below h) (by omega) hs1
  have HSa : Hid (∀ w', Below w.heap.size w w' → Calls Tryz.prog 126 #[.slice pa la ca, .int .u64 (s : Int)] w' fun e w'' => ∃ v, e = .returned v ∧ U32At w'' v (limbs (s * x)) ∧ Below w'.heap.size w' w'' ∧ (∀ k, v.ownBlock = some k → w'.heap.size ≤ k)) :=
    fun w' h => scaleLimbs_any x s _ w' (HA.out.below h) (by omega) hs1
  have hstart := scaled_start hla (show (limbs y).length = m + 1 + 1 from hlb) hs0 hlm
  have hx0 : 0 < x := by
    rcases Nat.eq_zero_or_pos x with e | e
    · rw [e] at hla; simp [Bn.limbs_zero] at hla; omega
    · exact e
  have hSl : (limbs (s * x)).length ≤ la + 1 := by
    rw [Bn.limbs_length_le]
    have h1 : x < 1000000000 ^ la := (Bn.limbs_length_le x la).1 (by omega)
    have h2 : s * x < 1000000000 * 1000000000 ^ la := Nat.lt_of_le_of_lt (Nat.mul_le_mul_right x hs1) (Nat.mul_lt_mul_of_pos_left h1 (by decide))
    rw [Nat.pow_succ, Nat.mul_comm (1000000000 ^ la)]; exact h2
  have hS0 : 0 < (limbs (s * x)).length := by
    rcases Nat.eq_zero_or_pos (limbs (s * x)).length with e | e
    · have := Bn.limbs_eq_nil.1 (List.eq_nil_of_length_eq_zero e)
      have := Nat.mul_pos hs0 hx0
      omega
    · exact e
  clear ha hb hma hc hs hv
  go_enter Tryz.func105, Tryz.ntmps105
  go_wp2_with fail
  rw [eS]
  clear eS hcv
  go_region_with (go_at_call 126; refine calls_at (HSb.out _ ?_) (by with_reducible rfl) (by with_reducible rfl) ?_; (first | exact (Below.refl _ _).drew | exact (Below.refl _ _).drew.alloc (by simp) _); rintro e w1 ⟨vd, rfl, hUd, hb1, hfr⟩; obtain ⟨pd, cd, hvd, _⟩ := hUd.form; rw [hsl] at hvd; subst hvd)
  have hwd : Below w.heap.size w w1 := (Below.refl _ _).drew.trans hb1
  generalize hW : w1.alloc (.cells (madeCells #[.int .u32 0] (la + 1)) 104) = W
  have hbA : Below w1.heap.size w1 W := by rw [← hW]; exact (Below.refl _ _).alloc (Nat.le_refl _) _
  have hLB : W.heap[w1.heap.size]? = some (.cells (madeCells #[.int .u32 0] (la + 1)) 104 (0, 0)) := by rw [← hW]; exact World.alloc_heap_new w1 _
  have hUD : U32At W (.slice pd (m + 1 + 1) cd) (limbs (s * y)) := hUd.below hbA
  have hwW : Below w.heap.size w W := hwd.trans (hbA.mono hwd.size)
  have hlbW : w1.heap.size < W.heap.size := by rw [← hW]; simp
  have hne : (Value.slice pd (m + 1 + 1) cd).ownBlock ≠ some w1.heap.size := hUd.old (Nat.le_refl _)
  have hwlb : w.heap.size ≤ w1.heap.size := hwd.size
  clear hW hbA hwd hfr hUd hb1
  generalize w1.heap.size = lb at *
  rotate_left 1
  generalize hW0 : (w.alloc (.cells (madeCells #[.int .u32 0] (la + 1)) 104)).drew = W0 at *
  have hwd : Below w.heap.size w W0 := by rw [← hW0]; exact ((Below.refl _ _).alloc (Nat.le_refl _) _).drew
  have hs0' : W0.heap.size = w.heap.size + 1 := by rw [← hW0]; simp
  have hLB : w1.heap[w.heap.size]? = some (.cells (madeCells #[.int .u32 0] (la + 1)) 104 (0, 0)) := (hb1.block w.heap.size (by omega)).trans (by rw [← hW0]; exact World.alloc_heap_new w _)
  have hUD : U32At w1 (.slice pd (m + 1 + 1) cd) (limbs (s * y)) := hUd
  have hwW : Below w.heap.size w w1 := hwd.trans (hb1.mono hwd.size)
  have hlbW : w.heap.size < w1.heap.size := by have := hb1.size; omega
  have hne : (Value.slice pd (m + 1 + 1) cd).ownBlock ≠ some w.heap.size := fun e => by have := hfr _ e; omega
  obtain ⟨lb, hlbe⟩ : ∃ lb, lb = w.heap.size := ⟨_, rfl⟩
  rw [← hlbe] at hLB hlbW hne
  rw [← hlbe]
  have hwlb : w.heap.size ≤ lb := by omega
  clear hW0 hwd hfr hUd hb1 hs0' hlbe
  generalize w1 = W at *
  rotate_left 1
  all_goals
    go_wp2_with fail
    refine (HSa.out _ hwW).mono ?_
    rintro e W1 ⟨vs, rfl, hUs, hbs1, hfs⟩
    obtain ⟨sb, so, sc, hvs, _, _, _, hcs⟩ := hUs.pos hS0
    subst hvs
    have hLB1 := (hbs1.block lb hlbW).trans hLB
    have HCS : Hid (∀ j (h : j < (limbs (s * x)).length), W1.cell? ⟨sb, so + j, none⟩ = some (.int .u32 (((limbs (s * x))[j] : Nat) : Int))) := hcs
    have HD1 : Hid (U32At W1 (.slice pd (m + 1 + 1) cd) (limbs (s * y))) := hUD.below hbs1
    have HW1 : Hid (Below w.heap.size w W1) := hwW.trans (hbs1.mono hwW.size)
    have hlb1 : lb < W1.heap.size := Nat.lt_of_lt_of_le hlbW hbs1.size
    clear hcs hUs hbs1 hwW hUD hlbW hLB hfs
    have hrun := run_copy_row (P := Tryz.prog) W1 76 76 3 104 lb 0 (la + 1) (la + 1) ⟨sb, so, none⟩ (limbs (s * x)).length sc _ 104 (cells32 (limbs (s * x))) Tryz.underlying76 (by kernel_rfl) hLB1 (by simp [cells32]; exact (Nat.min_eq_left hSl).symm) (fun j u hj => by
        simp only [cells32, List.getElem?_map, Option.map_eq_some_iff] at hj
        obtain ⟨d, hd, rfl⟩ := hj
        obtain ⟨hj, rfl⟩ := List.getElem?_eq_some_iff.1 hd
        rw [add_none]; exact HCS.out j hj) (by rw [size_madeCells]; simp [cells32]; exact hSl) (fun u hu => by simp only [cells32, List.mem_map] at hu; obtain ⟨d, _, rfl⟩ := hu; rfl)
    obtain ⟨W2, hW2⟩ : ∃ W2, W2 = W1.setRow lb ((madeCells #[.int .u32 0] (la + 1)).toList.take 0 ++ cells32 (limbs (s * x)) ++ (madeCells #[.int .u32 0] (la + 1)).toList.drop (0 + (cells32 (limbs (s * x))).length)).toArray := ⟨_, rfl⟩
    obtain ⟨hL2, hsz2, hot2, hbl2⟩ := copied (S := limbs (s * x)) hLB1 hW2
    rw [← hW2] at hrun
    clear hW2
    go_wp2_with fail
    obtain ⟨V0, hV0⟩ : ∃ V0, V0 = W2.alloc (.cells (madeCells #[.int .u32 0] c) 104) := ⟨_, rfl⟩
    obtain ⟨qb, hqb⟩ : ∃ qb, qb = W1.heap.size := ⟨_, rfl⟩
    have hVs : V0.heap.size = qb + 1 := by rw [hV0, hqb, ← hsz2]; simp
    have hVB : Below W2.heap.size W2 V0 := by rw [hV0]; exact (Below.refl _ _).alloc (Nat.le_refl _) _
    have HI : Hid (LongAt w lb qb (.slice pd (m + 1 + 1) cd) (s * y) (s * x) la c c V0 (limbs (s * x) ++ List.replicate (la + 1 - (limbs (s * x)).length) 0) []) := by
      refine ⟨⟨by simp; omega, fun d hd => ?_, by simp, by simp, ?_, ?_⟩, hL2.below hVB (by rw [hsz2]; exact hlb1), ?_, ?_, hne, ?_, by omega, by omega, by omega, hwlb, by omega, ?_⟩
      · rcases List.mem_append.1 hd with h | h
        · exact Bn.limbs_lt' h
        · rw [(List.mem_replicate.1 h).2]; decide
      · rw [val_pad, Bn.val_limbs']; simp [Bn.val]
      · have h1 := val_split (limbs (s * x) ++ List.replicate (la + 1 - (limbs (s * x)).length) 0) c (by simp; omega)
        rw [val_pad, Bn.val_limbs'] at h1
        rw [show la - (m + 1) = c from by omega] at hstart
        refine Nat.lt_of_mul_lt_mul_left (a := 1000000000 ^ c) ?_
        rw [Nat.mul_comm (s * y)] at hstart
        omega
      · rw [List.append_nil, hqb, ← hsz2, hV0]; exact RowAt.made W2 c
      · exact (HD1.out.of_heap hsz2 hot2 hne).below hVB
      · rw [hqb]; exact HD1.out.old (Nat.le_refl _)
      · have h2 : Below w.heap.size w W2 := HW1.out.trans (hbl2.mono hwlb)
        exact h2.trans (hVB.mono h2.size)
    rw [← hV0, ← hqb]
    clear hV0 hqb hVs hVB hL2 hsz2 hot2 hbl2 HD1 HW1 HCS hLB1 hrun hlb1
    generalize (limbs (s * x) ++ List.replicate (la + 1 - (limbs (s * x)).length) 0) = L0 at *
    go_loopw [9] (fun iv wr => ∃ (k : Nat) (L q : List Nat), iv = .int .i64 ((k : Int) - 1) ∧ k ≤ c ∧ LongAt w lb qb (.slice pd (m + 1 + 1) cd) (s * y) (s * x) la c k wr L q) (fun iv _ => (intOf iv + 1).toNat)
    case atStart => exact ⟨c, L0, [], rfl, Nat.le_refl _, HI.out⟩
    case round =>
      obtain ⟨k, L, q, rfl, hk, hI⟩ := hrel
      cases k with
      | zero =>
        obtain ⟨⟨hLl, hLd, hql, hqd, hS, hH⟩, hRL, hRQ, hUD, hn1, hn2, hn3, hlbs, hqbs, hw1, hw2, hbel⟩ := hI
        rw [List.drop_zero] at hH
        rw [Nat.pow_zero, Nat.one_mul] at hS
        have hy0 : 0 < s * y := by omega
        have hq1 : Bn.val q = x / y := by
          rw [← Nat.mul_div_mul_left x y hs0, ← hS, Nat.add_mul_div_left _ _ hy0, Nat.div_eq_of_lt hH, Nat.zero_add]
        have hq2 : Bn.val L = s * (x % y) := by
          rw [← Nat.mul_mod_mul_left, ← hS, Nat.add_mul_mod_self_left, Nat.mod_eq_of_lt hH]
        have hqc : q.length = c := hql
        have HU1 : Hid (Calls Tryz.prog 79 #[.slice (some ⟨qb, 0, none⟩) c c] wr fun e w' => ∃ v', e = .returned v' ∧ U32At wr v' (limbs (x / y)) ∧ w' = wr) := by
          have h := trimmed_any q (.slice (some ⟨qb, 0, none⟩) c c) wr (.inr ⟨qb, 0, c, by rw [hqc], hqbs, by omega, by unfold maxLen; omega, fun j hj => by have := hRQ j (by simpa using hj); simpa using this.1⟩) (fun d hd => by have := hqd d hd; omega)
          rw [trim_eq _ hqd, hq1] at h
          refine h.mono ?_
          rintro e w' ⟨v', h1, h2, h3, _⟩
          exact ⟨v', h1, h2, h3⟩
        have HU2 : Hid (Calls Tryz.prog 79 #[.slice (some ⟨lb, 0, none⟩) (la + 1) (la + 1)] wr fun e w' => ∃ v', e = .returned v' ∧ U32At wr v' (limbs (s * (x % y))) ∧ w' = wr) := by
          have h := trimmed_any L (.slice (some ⟨lb, 0, none⟩) (la + 1) (la + 1)) wr (.inr ⟨lb, 0, la + 1, by rw [hLl], hlbs, by omega, by unfold maxLen; omega, fun j hj => (hRL j hj).1⟩) (fun d hd => by have := hLd d hd; omega)
          rw [trim_eq _ hLd, hq2] at h
          refine h.mono ?_
          rintro e w' ⟨v', h1, h2, h3, _⟩
          exact ⟨v', h1, h2, h3⟩
        have HE : Hid ((((limbs (s * (x % y))).length : Int) == 0) = decide (x % y = 0)) := by
          show _ = _
          rw [Bool.eq_iff_iff, beq_iff_eq, decide_eq_true_iff]
          constructor
          · intro h
            have h1 := Bn.limbs_eq_nil.1 (List.eq_nil_of_length_eq_zero (show (limbs (s * (x % y))).length = 0 by omega))
            rcases Nat.mul_eq_zero.1 h1 with h2 | h2
            · omega
            · exact h2
          · intro h; rw [h, Nat.mul_zero]; rfl
        have HBL : Hid (Below w.heap.size w wr) := hbel
        clear hLl hLd hql hqd hS hH hRL hRQ hUD hn1 hn2 hn3 hlbs hqbs hw1 hw2 hbel hy0 hq1 hq2 hqc
        go_wp2_with fail
        refine HU1.out.mono ?_
        rintro e w4 ⟨vq, rfl, hUq, rfl⟩
        obtain ⟨pq, cq, hvq, _⟩ := hUq.form
        subst hvq
        go_wp2_with fail
        refine HU2.out.mono ?_
        rintro e w5 ⟨vl, rfl, hUl, rfl⟩
        obtain ⟨pl, cl, hvl, _⟩ := hUl.form
        subst hvl
        go_wp2
        go_ret2
        refine ⟨.slice pq _ cq, ?_, hUq, HBL.out⟩
        show Ending.returned (.tuple #[.slice pq (limbs (x / y)).length cq, .bool (((limbs (s * (x % y))).length : Int) == 0)]) = _
        rw [HE.out]
      | succ j =>
        have hjc : j + (m + 3) ≤ la + 1 := by omega
        have hjI : (j : Int) + ((m : Int) + 1 + 1) + 1 ≤ (la : Int) + 1 := by omega
        obtain ⟨t, ht, hG, hcases⟩ := long_round hI hsl hjc hlen
        have HG : Hid (Calls Tryz.prog 127 #[.slice (some ⟨lb, j, none⟩) (m + 3) (la + 1 - j), .slice pd (m + 1 + 1) cd] wr (fun e w' => e = .returned (.int .u64 (t : Int)) ∧ w'.heap = wr.heap ∧ Below wr.heap.size wr w')) := hG
        clear hI hG
        rcases hcases with ⟨htb, hT⟩ | ⟨htb, hT⟩
        · have HT : Hid (∀ w1 : World, w1.heap = wr.heap → Below wr.heap.size wr w1 → Calls Tryz.prog 94 #[.slice (some ⟨lb, j, none⟩) (m + 3) (la + 1 - j), .slice pd (m + 1 + 1) cd, .int .u64 (t : Int)] w1 fun e w' => e = .returned (.bool false) ∧ Puts w lb qb (.slice pd (m + 1 + 1) cd) (s * y) (s * x) la c j q t w') := hT
          clear hT
          go_wp2_with fail
          rw [show j + (m + 1 + 1) + 1 - j = m + 3 from by omega]
          refine HG.out.mono ?_
          rintro e w1 ⟨rfl, hh1, hbl1⟩
          have HH : Hid (w1.heap = wr.heap) := hh1
          clear hh1
          go_wp2_with fail
          refine (HT.out w1 HH.out hbl1).mono ?_
          rintro e w2 ⟨rfl, hc1, hc2, hput⟩
          have HP : Hid (∀ u : Int, u = (t : Int) → ∃ L', LongAt w lb qb (.slice pd (m + 1 + 1) cd) (s * y) (s * x) la c j (w2.setCell ⟨qb, j, none⟩ (.int .u32 u)) L' (t :: q)) := hput
          clear hput
          go_wp2_with fail
          obtain ⟨L', h⟩ := HP.out _ rfl
          exact ⟨⟨j, L', t :: q, rfl, by omega, h⟩, by simp [intOf]⟩
        · have HT : Hid (∀ w1 : World, w1.heap = wr.heap → Below wr.heap.size wr w1 → Calls Tryz.prog 94 #[.slice (some ⟨lb, j, none⟩) (m + 3) (la + 1 - j), .slice pd (m + 1 + 1) cd, .int .u64 (t : Int)] w1 fun e w' => e = .returned (.bool true) ∧
              Calls Tryz.prog 128 #[.slice (some ⟨lb, j, none⟩) (m + 3) (la + 1 - j), .slice pd (m + 1 + 1) cd] w' fun e w'' => e = .returned (.tuple #[]) ∧ Puts w lb qb (.slice pd (m + 1 + 1) cd) (s * y) (s * x) la c j q (t - 1) w'') := hT
          clear hT
          go_wp2_with fail
          rw [show j + (m + 1 + 1) + 1 - j = m + 3 from by omega]
          refine HG.out.mono ?_
          rintro e w1 ⟨rfl, hh1, hbl1⟩
          have HH : Hid (w1.heap = wr.heap) := hh1
          clear hh1
          go_wp2_with fail
          refine (HT.out w1 HH.out hbl1).mono ?_
          rintro e w2 ⟨rfl, hback⟩
          have HB2 : Hid (Calls Tryz.prog 128 #[.slice (some ⟨lb, j, none⟩) (m + 3) (la + 1 - j), .slice pd (m + 1 + 1) cd] w2 fun e w'' => e = .returned (.tuple #[]) ∧ Puts w lb qb (.slice pd (m + 1 + 1) cd) (s * y) (s * x) la c j q (t - 1) w'') := hback
          clear hback
          go_wp2_with fail
          refine HB2.out.mono ?_
          rintro e w3 ⟨rfl, hc1, hc2, hput⟩
          have HP : Hid (∀ u : Int, u = ((t - 1 : Nat) : Int) → ∃ L', LongAt w lb qb (.slice pd (m + 1 + 1) cd) (s * y) (s * x) la c j (w3.setCell ⟨qb, j, none⟩ (.int .u32 u)) L' ((t - 1) :: q)) := hput
          clear hput
          go_wp2_with fail
          obtain ⟨L', h⟩ := HP.out ((t : Int) - 1) (by omega)
          exact ⟨⟨j, L', (t - 1) :: q, rfl, by omega, h⟩, by simp [intOf]⟩
end Go.Proofs.YtjffbndiecjkjaaGreatDoor

namespace Go.Proofs.YtjffbndiecjkjaaGreatDoor
open Go.RowKit
open Bn (limbs)

set_option maxHeartbeats 1000000 in
set_option maxRecDepth 100000 in
/-- divLimbs. -/
theorem divLimbs_any (x y : Nat) (va vb : Value) (w : World) (ha : U32At w va (limbs x)) (hb : U32At w vb (limbs y)) (hx : (limbs x).length ≤ 5000000) (hy : 0 < y) :
    Calls Tryz.prog 87 #[va, vb] w fun e w' => ∃ r, e = .returned (.tuple #[r, .bool (decide (x % y = 0))]) ∧ U32At w' r (limbs (x / y)) ∧ Below w.heap.size w w' := by
  have HA : Hid (U32At w va (limbs x)) := ha
  have HB : Hid (U32At w vb (limbs y)) := hb
  have HC : Hid (Calls Tryz.prog 65 #[va, vb] w fun e w' => e = .returned (.int .i64 (cmpI (x : Int) (y : Int))) ∧ Below w.heap.size w w') := compareLimbs_any x y va vb w ha hb hx
  obtain ⟨pa, ca, hva, _⟩ := ha.form
  obtain ⟨n, hn⟩ : ∃ n, n = (limbs x).length := ⟨_, rfl⟩
  rw [← hn] at hva
  subst hva
  by_cases hlt : x < y
  · have hc : cmpI (x : Int) (y : Int) = -1 := cmpI_lt (by omega)
    rw [hc] at HC
    obtain ⟨pb, cb, rfl, _⟩ := hb.form
    have HE : Hid (((n : Int) == 0) = decide (x % y = 0)) := by
      show _ = _
      rw [Nat.mod_eq_of_lt hlt, Bool.eq_iff_iff, beq_iff_eq, decide_eq_true_iff]
      constructor
      · intro h; exact Bn.limbs_eq_nil.1 (List.eq_nil_of_length_eq_zero (by omega))
      · intro h; rw [hn, h]; rfl
    have HZ : Hid (limbs (x / y) = []) := by show _ = _; rw [Nat.div_eq_of_lt hlt]; rfl
    clear ha hb hn hc
    go_enter Tryz.func87, Tryz.ntmps87
    go_wp2_with fail
    refine HC.out.mono ?_
    rintro e w1 ⟨rfl, hb1⟩
    go_wp2
    go_ret2
    refine ⟨.slice none 0 0, ?_, .inl ⟨rfl, HZ.out⟩, hb1⟩
    show Ending.returned (.tuple #[.slice none 0 0, .bool ((n : Int) == 0)]) = _
    rw [HE.out]
  · have hc : 0 ≤ cmpI (x : Int) (y : Int) := by
      rcases Nat.lt_or_ge y x with h | h
      · rw [cmpI_gt (by omega)]; decide
      · rw [cmpI_eq (by omega) (by omega)]; decide
    generalize cmpI (x : Int) (y : Int) = cc at *
    have hly : 0 < (limbs y).length := by
      rcases Nat.eq_zero_or_pos (limbs y).length with e | e
      · have := Bn.limbs_eq_nil.1 (List.eq_nil_of_length_eq_zero e); omega
      · exact e
    obtain ⟨bb, ob, cb, hvb, hbs, hl1, hm1, hcb⟩ := hb.pos hly
    obtain ⟨l, hl⟩ : ∃ l, l = (limbs y).length := ⟨_, rfl⟩
    rw [← hl] at hvb
    subst hvb
    by_cases h1 : l = 1
    · subst h1
      have hs : (limbs y)[0] = y := by
        have := Bn.val_limbs' y
        have hh : limbs y = [(limbs y)[0]] := by
          apply List.ext_getElem
          · simp; omega
          · intro i h2 h3; simp at h3; subst h3; rfl
        rw [hh] at this
        simpa [Bn.val] using this
      have hyb : y < 1000000000 := by rw [← hs]; exact Bn.limbs_get_lt _
      have hc0 := hcb 0 hly
      rw [hs] at hc0
      have HS : Hid (∀ w1, Below w.heap.size w w1 → Calls Tryz.prog 104 #[.slice pa n ca, .int .u64 (y : Int)] w1 fun e w' => ∃ v, e = .returned (.tuple #[v, .bool (decide (x % y = 0))]) ∧ U32At w' v (limbs (x / y)) ∧ Below w1.heap.size w1 w') :=
        fun w1 h => divShort_any x y _ w1 (HA.out.below h) hx hy hyb
      have HC0 : Hid (∀ w1, Below w.heap.size w w1 → w1.cell? ⟨bb, ob, none⟩ = some (.int .u32 (y : Int))) := fun w1 h => (h.cell (p := ⟨bb, ob, none⟩) hbs).trans hc0
      generalize decide (x % y = 0) = dd at *
      clear ha hb hn hs hc0 hcb hl
      go_enter Tryz.func87, Tryz.ntmps87
      go_wp2_with fail
      refine HC.out.mono ?_
      rintro e w1 ⟨rfl, hb1⟩
      have hc1 := HC0.out w1 hb1
      go_wp2_with fail
      refine (HS.out w1 hb1).mono ?_
      rintro e w2 ⟨v, rfl, hU, hb2⟩
      go_wp2
      go_ret2
      exact ⟨_, rfl, hU, hb1.trans (hb2.mono hb1.size)⟩
    · obtain ⟨m, rfl⟩ : ∃ m, l = m + 2 := ⟨l - 2, by omega⟩
      have hlm : m + 2 ≤ n := by
        rw [hl, hn]
        rw [Bn.limbs_length_le]
        exact Nat.lt_of_le_of_lt (by omega) ((Bn.limbs_length_le x _).1 (Nat.le_refl _))
      have HL : Hid (∀ w1, Below w.heap.size w w1 → Calls Tryz.prog 105 #[.slice pa n ca, .slice (some ⟨bb, ob, none⟩) (m + 2) cb] w1 fun e w' => ∃ r, e = .returned (.tuple #[r, .bool (decide (x % y = 0))]) ∧ U32At w' r (limbs (x / y)) ∧ Below w1.heap.size w1 w') :=
        fun w1 h => divLong_any x y n m _ _ _ _ w1 (HA.out.below h) (HB.out.below h) hn.symm hl.symm hlm (by omega) rfl rfl
      have hlI : (((m : Int) + 2) == 1) = false := by rw [beq_eq_false_iff_ne]; omega
      generalize decide (x % y = 0) = dd at *
      clear ha hb hn hcb hl h1
      go_enter Tryz.func87, Tryz.ntmps87
      go_wp2_with fail
      refine HC.out.mono ?_
      rintro e w1 ⟨rfl, hb1⟩
      go_wp2_with fail
      refine (HL.out w1 hb1).mono ?_
      rintro e w2 ⟨v, rfl, hU, hb2⟩
      go_wp2
      go_ret2
      exact ⟨_, rfl, hU, hb1.trans (hb2.mono hb1.size)⟩
end Go.Proofs.YtjffbndiecjkjaaGreatDoor
