/-
  Put together: PbFormM, PbAgainM.
-/
import Derived.Test.YtjffbndiecjkjaaGreatDoorPbSaid
import Derived.Test.YtjffbndiecjkjaaGreatDoorPbSames
import Derived.Test.YtjffbndiecjkjaaGreatDoorPbAllMW
namespace Go.Proofs.YtjffbndiecjkjaaGreatDoor
open Go.Shelf Go.RowKit Go.Lib Go.Sort
open Bn (limbs)

/-- What the told variables give, those below b. -/
def gives (fb : Nat → Bool) (g : Nat → Int) : Nat → Int
  | 0 => 0
  | n + 1 => gives fb g n + (if fb n then g n else 0)
theorem gives_zero (fb : Nat → Bool) (b : Nat) : gives fb (fun _ => 0) b = 0 := by
  induction b with
  | zero => rfl
  | succ n ih => simp [gives, ih]
theorem gives_add (fb : Nat → Bool) (g h : Nat → Int) (b : Nat) : gives fb (fun v => g v + h v) b = gives fb g b + gives fb h b := by
  induction b with
  | zero => rfl
  | succ n ih => simp only [gives, ih]; split <;> omega
theorem gives_one (fb : Nat → Bool) (p : Int × Int) (b : Nat) : gives fb (Pm.netP p) b = if p.2.natAbs < b ∧ fb p.2.natAbs = true then (if p.2 < 0 then -p.1 else p.1) else 0 := by
  induction b with
  | zero => simp [gives]
  | succ n ih =>
    simp only [gives, ih, Pm.netP]
    by_cases h : p.2.natAbs = n
    · subst h
      have h1 : ¬ (p.2.natAbs < p.2.natAbs ∧ fb p.2.natAbs = true) := by omega
      rw [if_neg h1, if_pos rfl]
      cases hf : fb p.2.natAbs
      · simp
      · simp
    · have h1 : (p.2.natAbs < n + 1 ∧ fb p.2.natAbs = true) ↔ (p.2.natAbs < n ∧ fb p.2.natAbs = true) := by
        constructor
        · rintro ⟨a, c⟩; exact ⟨by omega, c⟩
        · rintro ⟨a, c⟩; exact ⟨by omega, c⟩
      simp only [h1, if_neg h]
      split <;> simp
theorem sum_gives (fb : Nat → Bool) (ps : List (Int × Int)) (b : Nat) (h : ∀ p ∈ ps, p.2 ≠ 0 ∧ p.2.natAbs < b) : Pm.sumF (Pm.litT fb) ps = Pm.neg ps + gives fb (Pm.net ps) b := by
  induction ps with
  | nil => simp [Pm.sumF, Pm.neg, Pm.net, gives_zero]
  | cons p t ih =>
    have hp := h p (List.mem_cons_self ..)
    have e1 : Pm.net (p :: t) = fun v => Pm.netP p v + Pm.net t v := by funext v; rfl
    rw [e1, gives_add, gives_one]
    have ih := ih (fun q hq => h q (List.mem_cons_of_mem _ hq))
    simp only [Pm.sumF, Pm.neg, ih, Pm.negP, Pm.litT]
    by_cases h0 : p.2 < 0
    · have hd : ¬ 0 < p.2 := by omega
      rcases Bool.eq_false_or_eq_true (fb p.2.natAbs) with hf | hf <;> simp only [hf, hp.2, h0, hd] <;> simp <;> omega
    · have hd : 0 < p.2 := by have := hp.1; omega
      rcases Bool.eq_false_or_eq_true (fb p.2.natAbs) with hf | hf <;> simp only [hf, hp.2, h0, hd] <;> simp <;> omega
theorem lits_below (ps : List (Int × Int)) : ∃ b, ∀ p ∈ ps, p.2.natAbs < b := by
  induction ps with
  | nil => exact ⟨0, fun _ h => by cases h⟩
  | cons p t ih =>
    obtain ⟨b, hb⟩ := ih
    refine ⟨max b (p.2.natAbs + 1), fun q hq => ?_⟩
    rcases List.mem_cons.1 hq with rfl | hq
    · omega
    · have := hb q hq; omega
theorem form_holds (fb : Nat → Bool) {ps K : List (Int × Int)} {d D : Int} (h : Pm.IsForm ps d K D) (hps : ∀ p ∈ ps, p.2 ≠ 0) : Pm.holds fb K D = decide (d ≤ Pm.sumF (Pm.litT fb) ps) := by
  obtain ⟨b1, h1⟩ := lits_below ps
  obtain ⟨b2, h2⟩ := lits_below K
  have e1 := sum_gives fb ps (max b1 b2) (fun p hp => ⟨hps p hp, by have := h1 p hp; omega⟩)
  have e2 := sum_gives fb K (max b1 b2) (fun p hp => ⟨(h.sound p hp).2, by have := h2 p hp; omega⟩)
  have e3 : Pm.net K = Pm.net ps := funext h.net
  rw [e3] at e2
  have hs := (sum_le (Pm.litT fb) K h.sound).1
  have hD := h.deg
  unfold Pm.holds
  apply decide_eq_decide.2
  omega
theorem form_self {K : List (Int × Int)} {D : Int} (hr : Pm.Rises K) (hs : Pm.Sound K) (hD : 0 ≤ D) : Pm.IsForm K D K D := ⟨hr, hs, fun _ => rfl, by omega⟩
theorem parse_txt (z : Int) : parseZ (txt z).data.toList = some z := by
  unfold txt
  simpa using parse_of_text z
theorem ps_tells (K : List (Int × Int)) : ofPs (tells K) = K := by
  unfold ofPs tells
  rw [List.map_map]
  conv => rhs; rw [← List.map_id K]
  apply List.map_congr_left
  intro p _
  simp [parse_txt]
theorem err_tells (K : List (Int × Int)) (D : Int) (h : ∀ p ∈ K, IsLit p.2) : ofErr (tells K) (txt D) = 0 := by
  have hE : ofE (tells K) = 0 := by
    induction K with
    | nil => rfl
    | cons p t ih =>
      have := ih (fun q hq => h q (List.mem_cons_of_mem _ hq))
      unfold tells at this ⊢
      simp only [List.map_cons, ofE, parse_txt, Option.isSome_some, if_true, if_pos (h p (List.mem_cons_self ..)), this]
  unfold ofErr
  rw [if_pos hE, parse_txt]
  rfl
theorem digits_le : ∀ (k u : Nat), 0 < k → u < 10 ^ k → Lib.nDigits u ≤ k
  | 0, _, h, _ => absurd h (by decide)
  | k + 1, u, _, h => by
    by_cases hu : u < 10
    · rw [Lib.nDigits_small hu]; omega
    · rw [Lib.nDigits_big hu]
      have hk : 0 < k := by
        rcases Nat.eq_zero_or_pos k with rfl | h0
        · simp at h; omega
        · exact h0
      have := digits_le k (u / 10) hk (by rw [Nat.pow_succ] at h; omega)
      omega
/-- A number's text is no longer than nine signs a limb and a sign. -/
theorem txt_size {z : Int} {k : Nat} (hk : 0 < k) (h : (limbs z.natAbs).length ≤ k) : (txt z).size ≤ 9 * k + 1 := by
  rw [Bn.limbs_length_le] at h
  have h10 : z.natAbs < 10 ^ (9 * k) := by
    rw [Nat.pow_mul]
    simpa using h
  have hl := digits_le (9 * k) z.natAbs (by omega) h10
  unfold txt
  rw [size_mk]
  unfold Lib.itoa
  split
  · rw [List.length_cons, Lib.decDigits_length]; omega
  · rw [Lib.decDigits_length, show z.toNat = z.natAbs by omega]; omega
end Go.Proofs.YtjffbndiecjkjaaGreatDoor

namespace Go.Proofs.YtjffbndiecjkjaaGreatDoor
open Go.Shelf Go.RowKit Go.Lib Go.Sort
open Bn (limbs)

/-- A row in the one form, with bounds: at most n pieces, numbers of at most k limbs. -/
structure Gd (n k : Nat) (K : List (Int × Int)) (D : Int) : Prop where
  rises : Pm.Rises K
  sound : Pm.Sound K
  lit : ∀ p ∈ K, IsLit p.2
  len : K.length ≤ n
  ab : (limbs (Pm.absS K)).length ≤ k
  dg : (limbs D.natAbs).length ≤ k
  nn : 0 ≤ D
theorem Gd.mono {n k n' k' : Nat} {K : List (Int × Int)} {D : Int} (h : Gd n k K D) (hn : n ≤ n') (hk : k ≤ k') : Gd n' k' K D :=
  ⟨h.rises, h.sound, h.lit, Nat.le_trans h.len hn, Nat.le_trans h.ab hk, Nat.le_trans h.dg hk, h.nn⟩
theorem Gd.mem {n k : Nat} {K : List (Int × Int)} {D : Int} (h : Gd n k K D) (hk : k ≤ 1000000) : ∀ p ∈ K, (limbs p.1.natAbs).length ≤ 1000000 := fun _ hp => Nat.le_trans (limbs_abs (Pm.absS_mem hp) h.ab) hk
theorem Gd.self {n k : Nat} {K : List (Int × Int)} {D : Int} (h : Gd n k K D) : Pm.IsForm K D K D := form_self h.rises h.sound h.nn
theorem Gd.zero (n k : Nat) : Gd n k [] 0 := ⟨trivial, (fun _ h => by cases h), (fun _ h => by cases h), Nat.zero_le _, by simp [Pm.absS, Bn.limbs_zero], by simp [Bn.limbs_zero], Int.le_refl _⟩

theorem sums_len {a b k k' : Nat} (ha : (limbs a).length ≤ k) (hb : (limbs b).length ≤ k') : (limbs (a + b)).length ≤ max k k' + 1 := by
  have h := limbs_three (c := 0) (Nat.le_trans ha (Nat.le_max_left k k')) (Nat.le_trans hb (Nat.le_max_right k k')) (by simp [Bn.limbs_zero])
  simpa using h
theorem Gd.sum {n k n' k' : Nat} {K K' : List (Int × Int)} {D D' : Int} (h : Gd n k K D) (h' : Gd n' k' K' D') : (limbs (Pm.absS (K ++ K'))).length ≤ max k k' + 1 ∧ (limbs (D + D').natAbs).length ≤ max k k' + 1 := by
  refine ⟨by rw [Pm.absS_append]; exact sums_len h.ab h'.ab, ?_⟩
  rw [Int.natAbs_add_of_nonneg h.nn h'.nn]
  exact sums_len h.dg h'.dg
theorem Gd.form {n k n' k' : Nat} {K K' : List (Int × Int)} {D D' : Int} (h : Gd n k K D) (h' : Gd n' k' K' D') {K2 : List (Int × Int)} {D2 : Int} (hf : Pm.IsForm (K ++ K') (D + D') K2 D2) (hl : ∀ p ∈ K2, IsLit p.2) (hlen : K2.length ≤ (K ++ K').length) : Gd (n + n') (max k k' + 2) K2 D2 := by
  obtain ⟨s1, s2⟩ := h.sum h'
  obtain ⟨t1, t2, t3⟩ := form_sizes hf s1 s2
  have l1 := h.len
  have l2 := h'.len
  rw [List.length_append] at hlen
  exact ⟨hf.rises, hf.sound, hl, by omega, by omega, by omega, t3⟩

theorem sum_swap {K K' : List (Int × Int)} {D D' : Int} {A B : List (Int × Int)} {a b : Int} (h : Pm.IsForm (K ++ K') (D + D') A a) (h' : Pm.IsForm (K' ++ K) (D' + D) B b) : A = B ∧ a = b := by
  rw [Int.add_comm] at h'
  exact (h.perm List.perm_append_comm).one h'
theorem sum_zero {n k : Nat} {K : List (Int × Int)} {D : Int} {A : List (Int × Int)} {a : Int} (hg : Gd n k K D) (h : Pm.IsForm (K ++ []) (D + 0) A a) : A = K ∧ a = D := by
  rw [List.append_nil, Int.add_zero] at h
  exact h.one hg.self

theorem neg_nonneg {K : List (Int × Int)} (h : Pm.Sound K) : 0 ≤ Pm.neg K ∧ Pm.neg K ≤ Pm.total K := by
  induction K with
  | nil => simp [Pm.neg, Pm.total, Pm.sumF]
  | cons p t ih =>
    have hp := h p (List.mem_cons_self ..)
    have ih := ih (fun q hq => h q (List.mem_cons_of_mem _ hq))
    unfold Pm.total at ih ⊢
    simp only [Pm.neg, Pm.negP, Pm.sumF, if_true]
    split <;> omega
theorem total_nonneg {K : List (Int × Int)} (h : Pm.Sound K) : 0 ≤ Pm.total K := by have := neg_nonneg h; omega
/-- A sum whose degree does not fall below 0. -/
theorem sum_deg {K K' A : List (Int × Int)} {d a : Int} (h : Pm.IsForm (K ++ K') d A a) (hge : Pm.neg K + Pm.neg K' ≤ d) : a = d - Pm.neg K - Pm.neg K' + Pm.neg A := by
  have h1 := h.deg
  have h2 := (neg_nonneg h.sound).1
  rw [Pm.neg_append] at h1
  omega
theorem sum_assoc {X Y Z : List (Int × Int)} {x y z : Int} {nx kx ny ky nz kz : Nat} (gx : Gd nx kx X x) (gy : Gd ny ky Y y) (gz : Gd nz kz Z z) {P Q A B : List (Int × Int)} {p q a b : Int}
    (hx : Pm.total X + Pm.total Y + Pm.total Z ≤ x) (hz : Pm.total X + Pm.total Y + Pm.total Z ≤ z)
    (h1 : Pm.IsForm (X ++ Y) (x + y) P p) (h2 : Pm.IsForm (P ++ Z) (p + z) A a) (h3 : Pm.IsForm (Y ++ Z) (y + z) Q q) (h4 : Pm.IsForm (X ++ Q) (x + q) B b) : A = B ∧ a = b := by
  have ex := neg_nonneg gx.sound
  have ey := neg_nonneg gy.sound
  have ez := neg_nonneg gz.sound
  have ep := neg_nonneg h1.sound
  have eq := neg_nonneg h3.sound
  have nx := gx.nn
  have ny := gy.nn
  have nz := gz.nn
  have hp := sum_deg h1 (by omega)
  have hq := sum_deg h3 (by omega)
  have ha := sum_deg h2 (by omega)
  have hb := sum_deg h4 (by omega)
  have hAB : A = B := Pm.uniq h2.rises h4.rises h2.sound h4.sound (fun v => by
    rw [h2.net, h4.net, Pm.net_append, Pm.net_append, h1.net, h3.net, Pm.net_append, Pm.net_append]
    omega)
  subst hAB
  exact ⟨rfl, by omega⟩

theorem chg_chg (f g : Int → Int) (K : List (Int × Int)) : Pm.chg f (Pm.chg g K) = Pm.chg (fun z => f (g z)) K := by
  unfold Pm.chg; rw [List.map_map]; rfl
theorem chg_id {f : Int → Int} {K : List (Int × Int)} (h : ∀ p ∈ K, f p.1 = p.1) : Pm.chg f K = K := by
  unfold Pm.chg
  conv => rhs; rw [← List.map_id K]
  exact List.map_congr_left fun p hp => by rw [h p hp]; rfl
theorem sat_sat (K : List (Int × Int)) (D : Int) : satK (satK K D) D = satK K D := by
  unfold satK
  split
  · rfl
  · rw [chg_chg]
    unfold Pm.chg
    exact List.map_congr_left fun p _ => by simp only [capD]; split <;> simp <;> omega
theorem divUp_mul {d : Int} (hd : 0 < d) (z : Int) : divUpI (d * z) d = z := by
  refine divUpI_of hd ?_ (Int.le_refl _)
  rw [Int.mul_sub]; omega
theorem times_div {d : Int} (hd : 0 < d) (K : List (Int × Int)) : Pm.chg (fun z => divUpI z d) (Pm.chg (fun z => d * z) K) = K := by
  rw [chg_chg]
  exact chg_id fun p _ => divUp_mul hd p.1
theorem chg_abs_cap {D : Int} (hD : 0 ≤ D) {K : List (Int × Int)} (hs : Pm.Sound K) : Pm.absS (Pm.chg (capD D) K) ≤ Pm.absS K := by
  induction K with
  | nil => exact Nat.le_refl _
  | cons p t ih =>
    have hp := hs p (List.mem_cons_self ..)
    have ih := ih (fun q hq => hs q (List.mem_cons_of_mem _ hq))
    have e : Pm.chg (capD D) (p :: t) = (capD D p.1, p.2) :: Pm.chg (capD D) t := rfl
    rw [e]
    simp only [Pm.absS, capD]
    split <;> omega
theorem sat_abs {n k : Nat} {K : List (Int × Int)} {D : Int} (h : Gd n k K D) : Pm.absS (satK K D) ≤ Pm.absS K ∧ (satK K D).length ≤ n := by
  have hl := h.len
  unfold satK
  split
  · exact ⟨Nat.zero_le _, Nat.zero_le _⟩
  · exact ⟨chg_abs_cap h.nn h.sound, by unfold Pm.chg; rw [List.length_map]; exact hl⟩
theorem sat_mem {n k : Nat} {K : List (Int × Int)} {D : Int} (h : Gd n k K D) (hk : k ≤ 1000000) : ∀ p ∈ satK K D, (limbs p.1.natAbs).length ≤ 1000000 := fun _ hp =>
  Nat.le_trans (limbs_abs (Nat.le_trans (Pm.absS_mem hp) (sat_abs h).1) h.ab) hk
theorem mul_len {a b k k' : Nat} (ha : (limbs a).length ≤ k) (hb : (limbs b).length ≤ k') : (limbs (a * b)).length ≤ k + k' := by
  rw [Bn.limbs_length_le] at *
  rw [Nat.pow_add]
  rcases Nat.eq_zero_or_pos b with rfl | h0
  · simp only [Nat.mul_zero]; exact Nat.mul_pos (by omega) (by omega)
  · exact Nat.lt_of_lt_of_le (Nat.mul_lt_mul_of_pos_right ha h0) (Nat.mul_le_mul_left _ (Nat.le_of_lt hb))
theorem times_mem {n k k' : Nat} {K : List (Int × Int)} {D d : Int} (h : Gd n k K D) (hd : (limbs d.natAbs).length ≤ k') : (∀ p ∈ Pm.chg (fun z => d * z) K, (limbs p.1.natAbs).length ≤ k' + k) ∧ (limbs (d * D).natAbs).length ≤ k' + k ∧ (Pm.chg (fun z => d * z) K).length = K.length := by
  refine ⟨fun p hp => ?_, by rw [Int.natAbs_mul]; exact mul_len hd h.dg, by unfold Pm.chg; rw [List.length_map]⟩
  obtain ⟨q, hq, rfl⟩ := List.mem_map.1 hp
  rw [Int.natAbs_mul]
  exact mul_len hd (limbs_abs (Pm.absS_mem hq) h.ab)

/-! The contracts, for rows within bounds. -/
/-- What Add answers. -/
def AddO (w : World) (K : List (Int × Int)) (D : Int) (K' : List (Int × Int)) (D' : Int) (n k : Nat) (e : Ending) (w' : World) : Prop := ∃ r K2 D2, e = .returned r ∧ Pm.IsForm (K ++ K') (D + D') K2 D2 ∧ PbAt w' r K2 D2 ∧ Gd n k K2 D2 ∧ RowKit.Below w.heap.size w w'
theorem add_gd {n k n' k' : Nat} (u v : Value) (K K' : List (Int × Int)) (D D' : Int) (w : World) (h : PbAt w u K D) (h' : PbAt w v K' D') (g : Gd n k K D) (g' : Gd n' k' K' D') (hn : n ≤ 400000) (hn' : n' ≤ 400000) (hk : k ≤ 800000) (hk' : k' ≤ 800000) : Calls Tryz.prog 21 #[u, v] w (AddO w K D K' D' (n + n') (max k k' + 2)) := by
  obtain ⟨s1, s2⟩ := g.sum g'
  have hm : max k k' ≤ 800000 := by omega
  refine (add_any u v K K' D D' w h h' g.rises g'.rises g.lit g'.lit (Nat.le_trans g.len (by omega)) (Nat.le_trans g'.len (by omega)) (by omega) (Nat.le_trans g.dg (by omega)) (Nat.le_trans g'.dg (by omega)) (by omega)).mono ?_
  rintro e w' ⟨r, K2, D2, rfl, hf, hp, hl, hlen, hb⟩
  exact ⟨r, K2, D2, rfl, hf, hp, g.form g' hf hl hlen, hb⟩
theorem sat_gd {n k : Nat} (v : Value) (K : List (Int × Int)) (D : Int) (w : World) (h : PbAt w v K D) (g : Gd n k K D) (hn : n ≤ 1000000) (hk : k ≤ 1000000) : Calls Tryz.prog 25 #[v] w fun e w' => ∃ r, e = .returned r ∧ PbAt w' r (satK K D) D ∧ RowKit.Below w.heap.size w w' :=
  saturate_any v K D w h (Nat.le_trans g.len hn) (g.mem hk) (Nat.le_trans g.dg hk)
theorem sat2_gd {n k : Nat} (v : Value) (K : List (Int × Int)) (D : Int) (w : World) (h : PbAt w v (satK K D) D) (g : Gd n k K D) (hn : n ≤ 1000000) (hk : k ≤ 1000000) : Calls Tryz.prog 25 #[v] w fun e w' => ∃ r, e = .returned r ∧ PbAt w' r (satK K D) D ∧ RowKit.Below w.heap.size w w' := by
  have h1 := saturate_any v (satK K D) D w h (Nat.le_trans (sat_abs g).2 hn) (sat_mem g hk) (Nat.le_trans g.dg hk)
  rw [sat_sat] at h1
  exact h1
theorem same_gd (u v : Value) (K K' : List (Int × Int)) (D D' : Int) (w : World) (hu : PbAt w u K D) (hv : PbAt w v K' D') (he : K = K' ∧ D = D') (hn : K.length ≤ 1000000) (hkl : ∀ p ∈ K, (limbs p.1.natAbs).length ≤ 1000000) (hDl : (limbs D.natAbs).length ≤ 1000000) (ht : Tab w) :
    Calls Tryz.prog 12 #[u, v] w fun e w' => e = .returned (.bool true) ∧ RowKit.Below w.heap.size w w' := by
  have h1 := same_any u v K K' D D' w hu hv hn hkl (by rw [← he.1]; exact hkl) hDl ht
  rw [decide_eq_true he] at h1
  exact h1
theorem total_gd {n k : Nat} (v : Value) (K : List (Int × Int)) (D : Int) (w : World) (h : PbAt w v K D) (g : Gd n k K D) (hn : n ≤ 1000000) (hk : k ≤ 900000) : Calls Tryz.prog 28 #[v] w fun e w' => ∃ r, e = .returned r ∧ BigAt w' r (Pm.total K) ∧ RowKit.Below w.heap.size w w' :=
  total_any v K D w h (Nat.le_trans g.len hn) (Nat.le_trans g.ab hk)
theorem Gd.total {n k : Nat} {K : List (Int × Int)} {D : Int} (g : Gd n k K D) : (limbs (Pm.total K).natAbs).length ≤ k := Nat.le_trans (limbs_len_monoP (Pm.sumF_abs _ K)) g.ab
theorem sumI_len {a b : Int} {k k' : Nat} (ha : (limbs a.natAbs).length ≤ k) (hb : (limbs b.natAbs).length ≤ k') : (limbs (a + b).natAbs).length ≤ max k k' + 1 :=
  Nat.le_trans (limbs_len_monoP (Int.natAbs_add_le a b)) (sums_len ha hb)
end Go.Proofs.YtjffbndiecjkjaaGreatDoor
