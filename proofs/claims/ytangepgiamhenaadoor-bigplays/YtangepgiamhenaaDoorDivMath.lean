/-
  Long division by limbs: what a guess of two limbs into three is worth, what a step leaves, and that all comes out.
-/
import Derived.Test.YtangepgiamhenaaDoorSub
namespace Go.Proofs.YtangepgiamhenaaDoor
open Bn (limbs)

/-- What goes so often goes no more often by the last two limbs into the last three. -/
theorem guess_over {k P D U V q p d : Nat} (hP : P = p + 1000000000 ^ k * U) (hp : p < 1000000000 ^ k) (hD : D = d + 1000000000 ^ k * V) (h : q * D ≤ P) : q * V ≤ U := by
  generalize 1000000000 ^ k = K at *
  have h1 : K * (q * V) ≤ q * D := by
    rw [hD, Nat.mul_add, Nat.mul_left_comm q K V]; omega
  have h2 : K * (q * V) < K * (U + 1) := by rw [Nat.mul_add]; omega
  exact Nat.lt_succ_iff.1 (Nat.lt_of_mul_lt_mul_left h2)

/-- One less than that often it goes. -/
theorem guess_near {k P D U V s p d : Nat} (hP : P = p + 1000000000 ^ k * U) (hD : D = d + 1000000000 ^ k * V) (hd : d < 1000000000 ^ k) (ht : (s + 1) * V ≤ U) (hs : s ≤ V) : s * D ≤ P := by
  generalize 1000000000 ^ k = K at *
  have h1 : s * d ≤ V * K := Nat.mul_le_mul hs (Nat.le_of_lt hd)
  have h2 : K * ((s + 1) * V) ≤ K * U := Nat.mul_le_mul_left K ht
  rw [hD, Nat.mul_add, Nat.mul_left_comm s K V]
  rw [Nat.add_mul, Nat.one_mul, Nat.mul_add, Nat.mul_comm K V] at h2
  omega

/-- A guess is at most the base. -/
theorem guess_most {k P D U V t p d : Nat} (hP : P = p + 1000000000 ^ k * U) (hD : D = d + 1000000000 ^ k * V) (hd : d < 1000000000 ^ k) (hPD : P < 1000000000 * D) (hV : 1000000000 ≤ V) (ht : t * V ≤ U) : t ≤ 1000000000 := by
  have hK : 0 < 1000000000 ^ k := Nat.pow_pos (by decide)
  generalize 1000000000 ^ k = K at *
  have h1 : K * U < K * (1000000000 * (V + 1)) := by
    have : 1000000000 * D < 1000000000 * (K * (V + 1)) := by rw [hD, Nat.mul_add K]; omega
    rw [Nat.mul_left_comm K]; omega
  have h2 : U < 1000000000 * (V + 1) := Nat.lt_of_mul_lt_mul_left h1
  rcases Nat.lt_or_ge 1000000000 t with h | h
  · have h3 : 1000000001 * V ≤ t * V := Nat.mul_le_mul_right V h
    omega
  · exact h

/-- The right quotient is the guess, or one less. -/
theorem guess_right {k P D U V p d : Nat} (hP : P = p + 1000000000 ^ k * U) (hp : p < 1000000000 ^ k) (hD : D = d + 1000000000 ^ k * V) (hd : d < 1000000000 ^ k) (hPD : P < 1000000000 * D) (hV : 1000000000 ≤ V) :
    U / V ≤ 1000000000 ∧ (U / V * D ≤ P ∧ P < (U / V + 1) * D ∨ 0 < U / V ∧ P < U / V * D ∧ (U / V - 1) * D ≤ P) := by
  have hm := guess_most (t := U / V) hP hD hd hPD hV (Nat.div_mul_le_self U V)
  refine ⟨hm, ?_⟩
  have hup : P < (U / V + 1) * D := by
    rcases Nat.lt_or_ge P ((U / V + 1) * D) with h | h
    · exact h
    · have h1 := guess_over hP hp hD h
      have h2 := Nat.lt_mul_div_succ U (show 0 < V by omega)
      rw [Nat.mul_comm] at h2
      omega
  rcases Nat.lt_or_ge P (U / V * D) with h | h
  · have h0 : 0 < U / V := by
      rcases Nat.eq_zero_or_pos (U / V) with e | e
      · rw [e, Nat.zero_mul] at h; omega
      · exact e
    refine .inr ⟨h0, h, guess_near hP hD hd ?_ (by omega)⟩
    rw [Nat.sub_add_cancel h0]; exact Nat.div_mul_le_self U V
  · exact .inl ⟨h, hup⟩
theorem guess_init {u2 u1 u0 v1 v0 lead U V : Nat} (hl : lead = u2 * 1000000000 + u1) (hU : U = lead * 1000000000 + u0) (hV : V = v1 * 1000000000 + v0) (hv : 1 ≤ v1) (h2 : u2 ≤ v1) (h1 : u1 < 1000000000) (h0 : u0 < 1000000000) :
    U / V ≤ lead / v1 ∧ lead / v1 ≤ 2000000000 := by
  constructor
  · refine (Nat.le_div_iff_mul_le (by omega)).2 ?_
    have h := Nat.div_mul_le_self U V
    obtain ⟨q, hq⟩ : ∃ q, q = U / V := ⟨_, rfl⟩
    rw [← hq] at h ⊢
    rw [hV, hU, Nat.mul_add, ← Nat.mul_assoc] at h
    omega
  · refine (Nat.div_le_iff_le_mul (by omega)).2 ?_
    omega
theorem guess_mul {t v1 v0 l u0 lead m U V : Nat} (hU : U = lead * 1000000000 + u0) (hV : V = v1 * 1000000000 + v0) (h : t * v1 + l = lead) (hm : m = t * v0) : t * V + (l * 1000000000 + u0) = U + m := by
  rw [hV, hU, Nat.mul_add, ← Nat.mul_assoc, ← hm, ← h]
  omega
theorem guess_step {t v1 v0 l u0 lead m U V : Nat} (hU : U = lead * 1000000000 + u0) (hV : V = v1 * 1000000000 + v0) (hv : 1 ≤ v1) (h : t * v1 + l = lead) (hm : m = t * v0) (hgt : l * 1000000000 + u0 < m) :
    U / V ≤ t - 1 ∧ (t - 1) * v1 + (l + v1) = lead ∧ 1 ≤ t := by
  have ht : 1 ≤ t := by
    rcases Nat.eq_zero_or_pos t with e | e
    · rw [e, Nat.zero_mul] at hm; omega
    · exact e
  refine ⟨?_, ?_, ht⟩
  · have h1 := guess_mul hU hV h hm
    have h2 : U / V < t := (Nat.div_lt_iff_lt_mul (by omega)).2 (by omega)
    omega
  · obtain ⟨s, rfl⟩ : ∃ s, t = s + 1 := ⟨t - 1, by omega⟩
    rw [Nat.add_sub_cancel, ← h, Nat.add_mul, Nat.one_mul]; omega
theorem guess_done {t v1 v0 l u0 lead m U V : Nat} (hU : U = lead * 1000000000 + u0) (hV : V = v1 * 1000000000 + v0) (hv : 1 ≤ v1) (h : t * v1 + l = lead) (hm : m = t * v0) (hle : m ≤ l * 1000000000 + u0) (hge : U / V ≤ t) :
    t = U / V := by
  refine Nat.le_antisymm ?_ hge
  have h1 := guess_mul hU hV h hm
  exact (Nat.le_div_iff_mul_le (by omega)).2 (by omega)
theorem val_split (l : List Nat) (i : Nat) (h : i ≤ l.length) : Bn.val l = Bn.val (l.take i) + 1000000000 ^ i * Bn.val (l.drop i) := by
  conv => lhs; rw [← List.take_append_drop i l]
  rw [Bn.val_append, List.length_take, Nat.min_eq_left h]
theorem val_at (l : List Nat) (i : Nat) (h : i < l.length) : Bn.val (l.drop i) = l[i] + 1000000000 * Bn.val (l.drop (i + 1)) := by
  rw [List.drop_eq_getElem_cons h]; rfl

/-- The part that a step of the long division looks at: it is all that is left there, and it is below the divisor times the base. -/
theorem part_val (L : List Nat) (i n D : Nat) (hL : ∀ d ∈ L, d < 1000000000) (hi : i + n + 1 ≤ L.length) (hD : D < 1000000000 ^ n) (hH : Bn.val (L.drop (i + 1)) < D) :
    Bn.val (L.drop i) = Bn.val ((L.drop i).take (n + 1)) ∧ Bn.val (L.drop (i + n + 1)) = 0 ∧ Bn.val ((L.drop i).take (n + 1)) < 1000000000 * D := by
  have h0 : Bn.val (L.drop (i + n + 1)) = 0 := by
    have h1 := val_split (L.drop (i + 1)) n (by simp; omega)
    rw [List.drop_drop, show i + 1 + n = i + n + 1 from by omega] at h1
    rcases Nat.eq_zero_or_pos (Bn.val (L.drop (i + n + 1))) with e | e
    · exact e
    · have h2 := Nat.mul_le_mul_left (1000000000 ^ n) e
      omega
  have h2 := val_split (L.drop i) (n + 1) (by simp; omega)
  rw [List.drop_drop, show i + (n + 1) = i + n + 1 from by omega, h0, Nat.mul_zero, Nat.add_zero] at h2
  refine ⟨h2, h0, ?_⟩
  rw [← h2, val_at L i (by omega)]
  have h3 := hL _ (List.getElem_mem (show i < L.length by omega))
  omega

/-- What a step leaves. -/
theorem part_step (L P' : List Nat) (i n D q : Nat) (hi : i + n + 1 ≤ L.length) (h0 : Bn.val (L.drop (i + n + 1)) = 0) (hp : Bn.val P' + q * D = Bn.val ((L.drop i).take (n + 1))) (hl : P'.length = n + 1) :
    Bn.val (L.take i ++ P' ++ L.drop (i + n + 1)) + D * (1000000000 ^ i * q) = Bn.val L ∧ Bn.val ((L.take i ++ P' ++ L.drop (i + n + 1)).drop i) = Bn.val P' := by
  have hti : (L.take i).length = i := by simp; omega
  constructor
  · rw [Bn.val_append, Bn.val_append, h0, Nat.mul_zero, Nat.add_zero, hti]
    have h1 := val_split L i (by omega)
    have h2 := val_split (L.drop i) (n + 1) (by simp; omega)
    rw [List.drop_drop, show i + (n + 1) = i + n + 1 from by omega, h0, Nat.mul_zero, Nat.add_zero, ← hp] at h2
    rw [h1, h2, Nat.mul_add, Nat.mul_left_comm D, Nat.mul_comm D q]
    omega
  · rw [List.append_assoc, List.drop_append_of_le_length (by omega), List.drop_of_length_le (by omega), List.nil_append, Bn.val_append, h0, Nat.mul_zero, Nat.add_zero]

/-- A limb more of the quotient. -/
theorem val_set0 (Q : List Nat) (i q : Nat) (h : i < Q.length) (h0 : Q[i] = 0) : Bn.val (Q.set i q) = Bn.val Q + 1000000000 ^ i * q := by
  rw [List.set_eq_take_append_cons_drop, if_pos h, Bn.val_append]
  have h1 := val_split Q i (by omega)
  rw [val_at Q i h, h0, Nat.zero_add] at h1
  have : (Q.take i).length = i := by simp; omega
  rw [this, h1]
  simp only [Bn.val, Nat.mul_add]
  omega

theorem took_fits {a b : List Nat} {t : Nat} (ha : ∀ d ∈ a, d < 1000000000) (hl : b.length ≤ a.length) (h : t * Bn.val b ≤ Bn.val a) :
    (took a b t a.length).2 = 0 ∧ Bn.val (took a b t a.length).1 + t * Bn.val b = Bn.val a := by
  have hv := took_val a b t a.length
  rw [List.take_length, List.take_of_length_le hl] at hv
  have hlt := val_lt _ (took_lt a b t ha a.length)
  rw [took_length] at hlt
  rcases Nat.eq_zero_or_pos (took a b t a.length).2 with e | e
  · rw [e, Nat.mul_zero] at hv
    exact ⟨e, by omega⟩
  · have := Nat.le_mul_of_pos_right (1000000000 ^ a.length) e
    omega

theorem mod_same {K a b c d : Nat} (ha : a < K) (hb : b < K) (h : a + K * c = b + K * d) : a = b := by
  have h1 := congrArg (fun x => x % K) h
  simp only [Nat.add_mul_mod_self_left] at h1
  rwa [Nat.mod_eq_of_lt ha, Nat.mod_eq_of_lt hb] at h1

theorem took_over {a b : List Nat} {s : Nat} (ha : ∀ d ∈ a, d < 1000000000) (hb : ∀ d ∈ b, d < 1000000000) (hl : b.length ≤ a.length) (h : Bn.val a < (s + 1) * Bn.val b) (h1 : s * Bn.val b ≤ Bn.val a) :
    0 < (took a b (s + 1) a.length).2 ∧ Bn.val (told (fun p => lAt (took a b (s + 1) a.length).1 p + lAt b p) a.length).1 + s * Bn.val b = Bn.val a := by
  have hv := took_val a b (s + 1) a.length
  rw [List.take_length, List.take_of_length_le hl] at hv
  have hlt := val_lt _ (took_lt a b (s + 1) ha a.length)
  rw [took_length] at hlt
  have hr := took_length a b (s + 1) a.length
  have hbl := val_lt _ hb
  have hbl2 : Bn.val b < 1000000000 ^ a.length := Nat.lt_of_lt_of_le hbl (Nat.pow_le_pow_right (by decide) hl)
  generalize (took a b (s + 1) a.length).1 = r at *
  generalize (took a b (s + 1) a.length).2 = o at *
  have ho : 0 < o := by
    rcases Nat.eq_zero_or_pos o with e | e
    · rw [e, Nat.mul_zero] at hv; omega
    · exact e
  refine ⟨ho, ?_⟩
  have ht := told_val (fun p => lAt r p + lAt b p) a.length
  rw [sumP_add, sumP_all (by omega), sumP_all hl] at ht
  have hc := val_lt _ (told_lt (fun p => lAt r p + lAt b p) a.length)
  rw [told_length] at hc
  generalize (told (fun p => lAt r p + lAt b p) a.length).1 = c at *
  generalize (told (fun p => lAt r p + lAt b p) a.length).2 = cy at *
  rw [Nat.add_mul, Nat.one_mul] at hv h
  have he : Bn.val c = Bn.val a - s * Bn.val b := by
    refine mod_same (K := 1000000000 ^ a.length) (c := cy) (d := o) hc (by omega) ?_
    omega
  omega

theorem val_replicate (k : Nat) (q : List Nat) : Bn.val (List.replicate k 0 ++ q) = 1000000000 ^ k * Bn.val q := by
  induction k with
  | zero => simp
  | succ k ih =>
    rw [List.replicate_succ, List.cons_append]
    simp only [Bn.val]
    rw [ih, Nat.pow_succ, Nat.mul_comm (1000000000 ^ k) 1000000000, Nat.mul_assoc]; omega
theorem val_pad (l : List Nat) (k : Nat) : Bn.val (l ++ List.replicate k 0) = Bn.val l := by
  rw [Bn.val_append]
  have := val_replicate k []
  rw [List.append_nil] at this
  rw [this]; simp [Bn.val]

/-- How the scaled divisor lies. -/
theorem scaled_length {y v s : Nat} {n : Nat} (hn : (limbs y).length = n + 1) (hv : (limbs y)[n] = v) (hs : s = 1000000000 / (v + 1)) : 0 < s ∧ s ≤ 1000000000 ∧ (limbs (s * y)).length = n + 1 := by
  have hvb : v < 1000000000 := by rw [← hv]; exact Bn.limbs_get_lt _
  have hv' := Bn.get_limbs (show n < (limbs y).length by omega)
  rw [hv] at hv'
  have hlt : y < 1000000000 ^ (n + 1) := (Bn.limbs_length_le y (n + 1)).1 (by omega)
  have hge : 1000000000 ^ n ≤ y := by
    rcases Nat.lt_or_ge y (1000000000 ^ n) with h | h
    · have := (Bn.limbs_length_le y n).2 h; omega
    · exact h
  have hP : 0 < 1000000000 ^ n := Nat.pow_pos (by decide)
  have hq : y / 1000000000 ^ n < 1000000000 := by
    rw [Nat.div_lt_iff_lt_mul hP, Nat.mul_comm]; rw [Nat.pow_succ] at hlt; exact hlt
  rw [Nat.mod_eq_of_lt hq] at hv'
  have hup : y < 1000000000 ^ n * (v + 1) := by
    rw [hv']; exact Nat.lt_mul_div_succ y hP
  have hs1 : 0 < s := by rw [hs]; exact Nat.div_pos (by omega) (by omega)
  have hs2 : s * (v + 1) ≤ 1000000000 := by rw [hs]; exact Nat.div_mul_le_self _ _
  refine ⟨hs1, by rw [hs]; exact Nat.div_le_self _ _, ?_⟩
  have u1 : s * y < 1000000000 ^ (n + 1) := by
    have a1 : s * y < s * (1000000000 ^ n * (v + 1)) := Nat.mul_lt_mul_of_pos_left hup hs1
    have a2 : s * (1000000000 ^ n * (v + 1)) = 1000000000 ^ n * (s * (v + 1)) := Nat.mul_left_comm _ _ _
    have a3 : 1000000000 ^ n * (s * (v + 1)) ≤ 1000000000 ^ n * 1000000000 := Nat.mul_le_mul_left _ hs2
    rw [Nat.pow_succ]; omega
  have u2 : 1000000000 ^ n ≤ s * y := Nat.le_trans hge (Nat.le_mul_of_pos_left y hs1)
  have l1 := (Bn.limbs_length_le (s * y) (n + 1)).2 u1
  rcases Nat.lt_or_ge (limbs (s * y)).length (n + 1) with h | h
  · have := (Bn.limbs_length_le (s * y) n).1 (by omega); omega
  · omega

/-- All that is left lies below the divisor at the start. -/
theorem scaled_start {x y s la n : Nat} (hx : (limbs x).length = la) (hy : (limbs y).length = n + 1) (hs : 0 < s) (hn : n + 1 ≤ la) : s * x < s * y * 1000000000 ^ (la - n) := by
  have h1 : x < 1000000000 ^ la := (Bn.limbs_length_le x la).1 (by omega)
  have hge : 1000000000 ^ n ≤ y := by
    rcases Nat.lt_or_ge y (1000000000 ^ n) with h | h
    · have := (Bn.limbs_length_le y n).2 h; omega
    · exact h
  have e : 1000000000 ^ la = 1000000000 ^ n * 1000000000 ^ (la - n) := by rw [← Nat.pow_add]; congr 1; omega
  rw [Nat.mul_assoc]
  refine Nat.mul_lt_mul_of_pos_left (Nat.lt_of_lt_of_le h1 ?_) hs
  rw [e]; exact Nat.mul_le_mul_right _ hge

/-- The parts of a row of limbs, and its top. -/
theorem parts_val {l : List Nat} {m : Nat} (hl : ∀ d ∈ l, d < 1000000000) (h : l.length = m + 2) : Bn.val l = Bn.val (l.take m) + 1000000000 ^ m * (l[m + 1] * 1000000000 + l[m]) ∧ Bn.val (l.take m) < 1000000000 ^ m := by
  constructor
  · rw [val_split l m (by omega), val_at l m (by omega), val_at l (m + 1) (by omega), List.drop_of_length_le (by omega)]
    simp only [Bn.val]
    congr 2
    omega
  · have := val_lt (l.take m) (fun d hd => hl d (List.mem_of_mem_take hd))
    rwa [List.length_take, Nat.min_eq_left (by omega)] at this
theorem parts_val3 {l : List Nat} {m : Nat} (hl : ∀ d ∈ l, d < 1000000000) (h : l.length = m + 3) : Bn.val l = Bn.val (l.take m) + 1000000000 ^ m * ((l[m + 2] * 1000000000 + l[m + 1]) * 1000000000 + l[m]) ∧ Bn.val (l.take m) < 1000000000 ^ m := by
  constructor
  · rw [val_split l m (by omega), val_at l m (by omega), val_at l (m + 1) (by omega), val_at l (m + 2) (by omega), List.drop_of_length_le (by omega)]
    simp only [Bn.val]
    congr 2
    omega
  · have := val_lt (l.take m) (fun d hd => hl d (List.mem_of_mem_take hd))
    rwa [List.length_take, Nat.min_eq_left (by omega)] at this

/-- The part's top is at most the divisor's. -/
theorem top_le {P D K u v p d : Nat} (hP : P = p + K * 1000000000 * u) (hD : D = d + K * v) (hd : d < K) (h : P < 1000000000 * D) : u ≤ v := by
  rcases Nat.lt_or_ge v u with hv | hv
  · have h1 : K * 1000000000 * (v + 1) ≤ K * 1000000000 * u := Nat.mul_le_mul_left _ hv
    rw [Nat.mul_add, Nat.mul_one, Nat.mul_assoc K 1000000000 v, Nat.mul_left_comm K 1000000000 v] at h1
    omega
  · exact hv

/-- What a step of the long division looks at. -/
theorem long_facts {L : List Nat} {j m D u2 u1 u0 v1 v0 : Nat} (hL : ∀ d ∈ L, d < 1000000000) (hdl : (limbs D).length = m + 2) (hj : j + (m + 3) ≤ L.length) (hH : Bn.val (L.drop (j + 1)) < D)
    (h2 : lAt L (j + (m + 2)) = u2) (h1 : lAt L (j + (m + 1)) = u1) (h0 : lAt L (j + m) = u0) (k1 : lAt (limbs D) (m + 1) = v1) (k0 : lAt (limbs D) m = v0) :
    1 ≤ v1 ∧ u2 ≤ v1 ∧ u1 < 1000000000 ∧ u0 < 1000000000 ∧ v1 < 1000000000 ∧ v0 < 1000000000 ∧
    ∃ P : List Nat, P = (L.drop j).take (m + 3) ∧ P.length = m + 3 ∧ (∀ d ∈ P, d < 1000000000) ∧ Bn.val (L.drop (j + (m + 2) + 1)) = 0 ∧
      ∀ U V, U = (u2 * 1000000000 + u1) * 1000000000 + u0 → V = v1 * 1000000000 + v0 →
        U / V ≤ 1000000000 ∧ (U / V * D ≤ Bn.val P ∧ Bn.val P < (U / V + 1) * D ∨ 0 < U / V ∧ Bn.val P < U / V * D ∧ (U / V - 1) * D ≤ Bn.val P) ∧ Bn.val P < 1000000000 * D := by
  have hD1 : D < 1000000000 ^ (m + 2) := (Bn.limbs_length_le D (m + 2)).1 (by omega)
  have hD0 : 1000000000 ^ (m + 1) ≤ D := by
    rcases Nat.lt_or_ge D (1000000000 ^ (m + 1)) with h | h
    · have := (Bn.limbs_length_le D (m + 1)).2 h; omega
    · exact h
  have hdd : ∀ d ∈ limbs D, d < 1000000000 := fun d h => Bn.limbs_lt' h
  obtain ⟨p1, p2, p3⟩ := part_val L j (m + 2) D hL (by omega) hD1 hH
  obtain ⟨P, hP⟩ : ∃ P, P = (L.drop j).take (m + 3) := ⟨_, rfl⟩
  have hPl : P.length = m + 3 := by rw [hP]; simp; omega
  have hPd : ∀ d ∈ P, d < 1000000000 := fun d hd => hL d (by rw [hP] at hd; exact List.mem_of_mem_drop (List.mem_of_mem_take hd))
  have g : ∀ i (h : i < m + 3), P[i]'(by omega) = lAt L (j + i) := by
    intro i h
    rw [lAt_get (by omega)]
    simp [hP]
  have g2 : P[m + 2]'(by omega) = u2 := by rw [g _ (by omega), h2]
  have g1 : P[m + 1]'(by omega) = u1 := by rw [g _ (by omega), h1]
  have g0 : P[m]'(by omega) = u0 := by rw [g _ (by omega), h0]
  have e1 : (limbs D)[m + 1]'(by omega) = v1 := by rw [← k1, lAt_get (by omega)]
  have e0 : (limbs D)[m]'(by omega) = v0 := by rw [← k0, lAt_get (by omega)]
  have b2 : u2 < 1000000000 := by rw [← h2]; exact lAt_lt hL _
  have b1 : u1 < 1000000000 := by rw [← h1]; exact lAt_lt hL _
  have b0 : u0 < 1000000000 := by rw [← h0]; exact lAt_lt hL _
  have c1 : v1 < 1000000000 := by rw [← k1]; exact lAt_lt hdd _
  have c0 : v0 < 1000000000 := by rw [← k0]; exact lAt_lt hdd _
  obtain ⟨q1, q2⟩ := parts_val3 hPd hPl
  rw [g2, g1, g0] at q1
  obtain ⟨d1, d2⟩ := parts_val hdd hdl
  rw [e1, e0, Bn.val_limbs'] at d1
  have hVB : ∀ V, V = v1 * 1000000000 + v0 → 1000000000 ≤ V := by
    intro V hV
    rw [← hV] at d1
    have hk : 1000000000 ^ m * 1000000000 < 1000000000 ^ m * (V + 1) := by
      rw [Nat.pow_succ] at hD0
      rw [Nat.mul_add]; omega
    have := Nat.lt_of_mul_lt_mul_left hk
    omega
  have hv1 : 1 ≤ v1 := by have := hVB _ rfl; omega
  rw [show m + 2 + 1 = m + 3 from rfl, ← hP] at p3
  have hu : u2 ≤ v1 := by
    have t1 := val_split P (m + 2) (by omega)
    rw [val_at P (m + 2) (by omega), g2, List.drop_of_length_le (by omega)] at t1
    have t2 := val_split (limbs D) (m + 1) (by omega)
    rw [val_at (limbs D) (m + 1) (by omega), e1, List.drop_of_length_le (by omega), Bn.val_limbs'] at t2
    simp only [Bn.val, Nat.mul_zero, Nat.add_zero] at t1 t2
    have t3 := val_lt ((limbs D).take (m + 1)) (fun d hd => hdd d (List.mem_of_mem_take hd))
    rw [List.length_take, Nat.min_eq_left (by omega)] at t3
    refine top_le (K := 1000000000 ^ (m + 1)) (p := Bn.val (P.take (m + 2))) (d := Bn.val ((limbs D).take (m + 1))) ?_ t2 t3 p3
    rw [← Nat.pow_succ]; exact t1
  refine ⟨hv1, hu, b1, b0, c1, c0, P, hP, hPl, hPd, p2, fun U V hU hV => ?_⟩
  rw [← hU] at q1
  rw [← hV] at d1
  obtain ⟨r1, r2⟩ := guess_right q1 q2 d1 d2 p3 (hVB V hV)
  exact ⟨r1, r2, p3⟩

/-- A quotient's limb is one. -/
theorem limb_of {q D P : Nat} (h : q * D ≤ P) (hP : P < 1000000000 * D) : q < 1000000000 := by
  rcases Nat.lt_or_ge q 1000000000 with h1 | h1
  · exact h1
  · have := Nat.mul_le_mul_right D h1; omega

/-- What stays true of what is left, and of the quotient. -/
theorem long_next {L P' : List Nat} {j n D q S Q : Nat} (hi : j + n + 1 ≤ L.length) (h0 : Bn.val (L.drop (j + n + 1)) = 0) (hp : Bn.val P' + q * D = Bn.val ((L.drop j).take (n + 1))) (hl : P'.length = n + 1) (hlt : Bn.val P' < D)
    (hS : Bn.val L + D * (1000000000 ^ (j + 1) * Q) = S) :
    Bn.val (L.take j ++ P' ++ L.drop (j + n + 1)) + D * (1000000000 ^ j * (q + 1000000000 * Q)) = S ∧ Bn.val ((L.take j ++ P' ++ L.drop (j + n + 1)).drop j) < D := by
  obtain ⟨h1, h2⟩ := part_step L P' j n D q hi h0 hp hl
  refine ⟨?_, by rw [h2]; exact hlt⟩
  rw [← hS, ← h1, Nat.mul_add (1000000000 ^ j), Nat.mul_add D, Nat.pow_succ, Nat.mul_assoc (1000000000 ^ j)]
  omega
end Go.Proofs.YtangepgiamhenaaDoor
