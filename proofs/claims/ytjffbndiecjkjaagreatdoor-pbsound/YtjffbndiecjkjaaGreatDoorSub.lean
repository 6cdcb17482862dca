/-
  Package big: takeTimes, subLimbs.
-/
import Derived.Test.YtjffbndiecjkjaaGreatDoorAdd
namespace Go.Proofs.YtjffbndiecjkjaaGreatDoor
open Go.RowKit
open Bn (limbs)

/-- A row of limbs in a block of the call's own, at the places off .. -/
def RowAt (w : World) (b off : Nat) (l : List Nat) : Prop :=
  ∀ j (h : j < l.length), w.cell? ⟨b, off + j, none⟩ = some (.int .u32 ((l[j] : Nat) : Int)) ∧ w.frozen? ⟨b, off + j, none⟩ = false

theorem U32At.below_lt {w w' : World} {v : Value} {l : List Nat} {n : Nat} (h : U32At w v l) (hn : ∀ k, v.ownBlock = some k → k < n) (hb : Below n w w') : U32At w' v l := by
  rcases h with h | ⟨b, off, cap, hv, hlt, hl, hm, hc⟩
  · exact .inl h
  · have hbn : b < n := hn b (by rw [hv]; rfl)
    exact .inr ⟨b, off, cap, hv, Nat.lt_of_lt_of_le hlt hb.size, hl, hm, fun j hj => (hb.cell (p := ⟨b, off + j, none⟩) hbn).trans (hc j hj)⟩

theorem took_bound (a b : List Nat) (t : Nat) (hdb : ∀ d ∈ b, d < 1000000000) (ht : t ≤ 1000000000) (k : Nat) : (took a b t k).2 ≤ 2000000000 := by
  induction k with
  | zero => simp [took]
  | succ k ih =>
    have h1 : lAt b k * t ≤ 1000000000 * 1000000000 := Nat.mul_le_mul (Nat.le_of_lt (lAt_lt hdb k)) ht
    simp only [took]
    split <;> simp only <;> omega

/-- One limb of a row is written over. -/
theorem RowAt.set {w : World} {b off k : Nat} {L R : List Nat} {d n : Nat} {u : Int} (h : RowAt w b off (L ++ d :: R)) (hL : L.length = k) (hu : u = (n : Int)) : RowAt (w.setCell ⟨b, off + k, none⟩ (.int .u32 u)) b off (L ++ [n] ++ R) := by
  rw [List.append_assoc]
  show RowAt _ b off (L ++ n :: R)
  intro j hj
  have hj' : j < (L ++ d :: R).length := by simp at hj ⊢; omega
  obtain ⟨h1, h2⟩ := h j hj'
  refine ⟨?_, by rw [World.frozen?_setCell]; exact h2⟩
  by_cases e : j = k
  · subst e
    rw [World.cell?_setCell_same' _ _ _ (by rw [h1]; rfl), hu]
    congr 3
    simp [← hL]
  · rw [World.cell?_setCell_other (h := show (⟨b, off + k, none⟩ : Addr) ≠ ⟨b, off + j, none⟩ from fun h => by injection h with _ h1 _; omega), h1]
    congr 3
    rcases Nat.lt_or_ge j k with h | h
    · rw [List.getElem_append_left (by omega), List.getElem_append_left (by omega)]
    · rw [List.getElem_append_right (by omega), List.getElem_append_right (by omega)]
      obtain ⟨i, hi⟩ : ∃ i, j - L.length = i + 1 := ⟨j - L.length - 1, by omega⟩
      simp [hi]

set_option maxHeartbeats 2000000 in
set_option maxRecDepth 100000 in
/-- takeTimes. -/
theorem takeTimes_any (a b : List Nat) (t bk off cap : Nat) (vb : Value) (w : World) (ha : RowAt w bk off a) (hb : U32At w vb b) (hvb : ∀ k, vb.ownBlock = some k → k < bk) (hda : ∀ d ∈ a, d < 1000000000) (hdb : ∀ d ∈ b, d < 1000000000)
    (ht : t ≤ 1000000000) (hl : a.length ≤ 10000000) :
    Calls Tryz.prog 94 #[.slice (some ⟨bk, off, none⟩) a.length cap, vb, .int .u64 (t : Int)] w fun e w' => e = .returned (.bool (decide (0 < (took a b t a.length).2))) ∧ RowAt w' bk off (took a b t a.length).1 ∧ Below bk w w' := by
  go_enter Tryz.func94, Tryz.ntmps94
  go_wp2
  go_loopw [7, 13] (fun ov iv wr => ∃ k : Nat, iv = .int .i64 (k : Int) ∧ k ≤ a.length ∧ ov = .int .u64 (((took a b t k).2 : Nat) : Int) ∧ RowAt wr bk off ((took a b t k).1 ++ a.drop k) ∧ Below bk w wr) (fun _ iv _ => a.length - (intOf iv).toNat)
  case atStart => exact ⟨0, rfl, Nat.zero_le _, rfl, ha, Below.refl _ _⟩
  case round =>
    clear ha
    obtain ⟨k, rfl, hk, rfl, hR, hbel⟩ := hrel
    by_cases hlt : k < a.length
    · have hltI : (k : Int) < (a.length : Int) := by omega
      have HC : Hid (Calls Tryz.prog 91 #[vb, .int .i64 (k : Int)] wr fun e w' => e = .returned (.int .u64 ((lAt b k : Nat) : Int)) ∧ w' = wr) := limbAt_any b k vb wr (hb.below_lt hvb hbel) hdb (by omega)
      have ho := took_bound a b t hdb ht k
      have hx := lAt_lt hdb k
      have hd := lAt_lt hda k
      obtain ⟨hc1, hc2⟩ := hR k (by simp [took_length]; omega)
      rw [show (((took a b t k).1 ++ a.drop k)[k]'(by simp [took_length]; omega)) = lAt a k from by simp [took_length, lAt_get hlt]] at hc1
      obtain ⟨o, eo⟩ : ∃ o, o = (took a b t k).2 := ⟨_, rfl⟩
      obtain ⟨x, ex⟩ : ∃ x, x = lAt b k := ⟨_, rfl⟩
      obtain ⟨d, ed⟩ : ∃ d, d = lAt a k := ⟨_, rfl⟩
      obtain ⟨m, em⟩ : ∃ m, m = x * t := ⟨_, rfl⟩
      have hmul : (x : Int) * (t : Int) = (m : Int) := by rw [em]; simp
      have hm : m ≤ 1000000000000000000 := by
        rw [em]; exact Nat.le_trans (Nat.mul_le_mul (Nat.le_of_lt (ex ▸ hx)) ht) (by decide)
      have HS : Hid (took a b t (k + 1) = if d < (o + m) % 1000000000 then ((took a b t k).1 ++ [d + 1000000000 - (o + m) % 1000000000], (o + m) / 1000000000 + 1) else ((took a b t k).1 ++ [d - (o + m) % 1000000000], (o + m) / 1000000000)) := by
        show _ = _; rw [eo, em, ex, ed]; rfl
      rw [← eo] at ho
      rw [← ex] at hx HC
      rw [← ed] at hd hc1
      rw [← eo]
      have HR : Hid (RowAt wr bk off ((took a b t k).1 ++ a.drop k)) := hR
      clear eo ex ed em hR
      have HD : Hid (a.drop k = a[k] :: a.drop (k + 1)) := List.drop_eq_getElem_cons hlt
      by_cases hlo : d < (o + m) % 1000000000
      · have HS' : Hid (took a b t (k + 1) = ((took a b t k).1 ++ [d + 1000000000 - (o + m) % 1000000000], (o + m) / 1000000000 + 1)) := by
          show _ = _; rw [HS.out, if_pos hlo]
        clear HS
        go_wp2_with (go_at_call 91; refine HC.out.mono ?_; rintro e w' ⟨rfl, rfl⟩)
        go_roundw
        case rel =>
          refine ⟨k + 1, by go_num, by omega, ?_, ?_, hbel.setCell (p := ⟨bk, off + k, none⟩) (Nat.le_refl _) _⟩
          · rw [HS'.out]; congr 1
          · rw [HS'.out]
            have h := HR.out
            rw [HD.out] at h
            exact h.set (took_length _ _ _ _) (by omega)
        case measure => simp [intOf]; omega
      · have HS' : Hid (took a b t (k + 1) = ((took a b t k).1 ++ [d - (o + m) % 1000000000], (o + m) / 1000000000)) := by
          show _ = _; rw [HS.out, if_neg hlo]
        clear HS
        go_wp2_with (go_at_call 91; refine HC.out.mono ?_; rintro e w' ⟨rfl, rfl⟩)
        go_roundw
        case rel =>
          refine ⟨k + 1, by go_num, by omega, ?_, ?_, hbel.setCell (p := ⟨bk, off + k, none⟩) (Nat.le_refl _) _⟩
          · rw [HS'.out]; congr 1
          · rw [HS'.out]
            have h := HR.out
            rw [HD.out] at h
            exact h.set (took_length _ _ _ _) (by omega)
        case measure => simp [intOf]; omega
    · obtain rfl : k = a.length := by omega
      have hR' : RowAt wr bk off (took a b t a.length).1 := by rw [List.drop_length, List.append_nil] at hR; exact hR
      obtain ⟨o, ho⟩ : ∃ o, o = (took a b t a.length).2 := ⟨_, rfl⟩
      rw [← ho]
      have HO : Hid (o = (took a b t a.length).2) := ho
      clear hR ho
      go_wp2
      go_ret
      exact ⟨by rw [← HO.out]; simp, hR', hbel⟩

theorem RowAt.of_owns {w : World} {base cap g : Nat} {l : List Nat} (h : w.ownsRow base 104 1 (.slice (some ⟨g, 0, none⟩) l.length cap) l.length (cells32 l)) : RowAt w g 0 l := by
  intro j hj
  refine ⟨?_, h.frozenAt _⟩
  have := h.cells (g := g) rfl j (.int .u32 ((l[j] : Nat) : Int)) (by simp [cells32, hj])
  cases j with
  | zero => simpa [Addr.add] using this
  | succ j => simpa [Addr.add] using this

theorem val_lt : ∀ l : List Nat, (∀ d ∈ l, d < 1000000000) → Bn.val l < 1000000000 ^ l.length
  | [], _ => by simp [Bn.val]
  | d :: l, h => by
    have h1 := val_lt l (fun e he => h e (List.mem_cons_of_mem _ he))
    have h2 := h d (List.mem_cons_self ..)
    simp only [Bn.val, List.length_cons, Nat.pow_succ]
    omega

/-- The numbers of a difference. -/
theorem took_sub (x y : Nat) (h : y ≤ x) : Bn.val (took (limbs x) (limbs y) 1 (limbs x).length).1 = x - y := by
  have hl : (limbs y).length ≤ (limbs x).length := by
    rw [Bn.limbs_length_le]
    exact Nat.lt_of_le_of_lt h ((Bn.limbs_length_le x _).1 (Nat.le_refl _))
  have hv := took_val (limbs x) (limbs y) 1 (limbs x).length
  rw [List.take_length, List.take_of_length_le hl, Bn.val_limbs', Bn.val_limbs', Nat.one_mul] at hv
  have hlt := val_lt _ (took_lt (limbs x) (limbs y) 1 (fun d h => Bn.limbs_lt' h) (limbs x).length)
  rw [took_length] at hlt
  rcases Nat.eq_zero_or_pos (took (limbs x) (limbs y) 1 (limbs x).length).2 with e | e
  · rw [e, Nat.mul_zero] at hv; omega
  · have := Nat.le_mul_of_pos_right (1000000000 ^ (limbs x).length) e
    omega

set_option maxHeartbeats 1000000 in
set_option maxRecDepth 100000 in
/-- takeTimes of no limbs. -/
theorem takeTimes_nil (b : List Nat) (vb : Value) (w : World) (hb : U32At w vb b) :
    Calls Tryz.prog 94 #[.slice none 0 0, vb, .int .u64 1] w fun e w' => e = .returned (.bool false) ∧ w' = w := by
  obtain ⟨p, c, rfl, _⟩ := hb.form
  clear hb
  go_enter Tryz.func94, Tryz.ntmps94
  go_wp2
  go_loop [7, 13] (fun ov iv => ov = .int .u64 0 ∧ iv = .int .i64 0) (fun _ _ => 0)
  case atStart => exact ⟨rfl, rfl⟩
  case round =>
    obtain ⟨rfl, rfl⟩ := hrel
    go_wp2
    go_ret
    exact ⟨rfl, rfl⟩

theorem z75 : ∀ w, (Go.sizeOf 104).run Tryz.prog w = .ok 1 w := Tryz.sizeOf104

set_option maxHeartbeats 1000000 in
set_option maxRecDepth 100000 in
/-- subLimbs. -/
theorem subLimbs_any (x y : Nat) (va vb : Value) (w : World) (ha : U32At w va (limbs x)) (hb : U32At w vb (limbs y)) (hxy : y ≤ x) (hx : (limbs x).length ≤ 5000000) :
    Calls Tryz.prog 66 #[va, vb] w fun e w' => ∃ v, e = .returned v ∧ U32At w' v (limbs (x - y)) ∧ Below w.heap.size w w' := by
  obtain ⟨i0, hi0, hz0, hz1, hz2⟩ := info_parts Tryz.info104
  have hvb : ∀ k, vb.ownBlock = some k → k < w.heap.size := by
    intro k hk
    rcases Nat.lt_or_ge k w.heap.size with h | h
    · exact h
    · exact absurd hk (hb.old h)
  rcases ha with ⟨rfl, hnil⟩ | ⟨b, off, cap, rfl, hlt, hl, hm, hc⟩
  · have hx0 : x = 0 := Bn.limbs_eq_nil.1 hnil
    have hy0 : x - y = 0 := by omega
    have HZ : Hid (limbs (x - y) = []) := by show _ = _; rw [hy0]; rfl
    have HT' : Hid (Calls Tryz.prog 94 #[.slice none 0 0, vb, .int .u64 1] w fun e w' => e = .returned (.bool false) ∧ w' = w) := takeTimes_nil (limbs y) vb w hb
    clear hnil hx0 hy0 hvb hx hxy
    obtain ⟨p, c, rfl, _⟩ := hb.form
    clear hb
    go_enter Tryz.func66, Tryz.ntmps66
    go_wp2_with fail
    refine (Tryz.slices_Clone_nil 0 0 w).mono ?_
    rintro e w1 ⟨rfl, rfl⟩
    go_wp2_with fail
    refine HT'.out.mono ?_
    rintro e w2 ⟨rfl, rfl⟩
    go_wp2_with fail
    refine (trimmed_any [] (.slice none 0 0) _ (.inl ⟨rfl, rfl⟩) (by simp)).mono ?_
    rintro e w3 ⟨v, rfl, hU, rfl, _⟩
    go_wp2
    go_ret
    exact ⟨_, rfl, by rw [HZ.out]; exact hU, Below.refl _ _⟩
  · have HC' : Hid (Calls Tryz.prog 93 #[.slice (some ⟨b, off, none⟩) (limbs x).length cap] w fun e w' => ∃ v', e = .returned v' ∧ w'.ownsRow w.heap.size 104 1 v' (limbs x).length (cells32 (limbs x)) ∧ v' ≠ .slice none 0 0 ∧ Below w.heap.size w w') :=
      Tryz.slices_Clone i0 (.int .u32 0) 1 4 hi0 hz0 hz1 hz2 rfl (by decide) z75 b off (limbs x).length cap (cells32 (limbs x)) w (by simp [cells32]) (by omega) (by omega)
      (fun j u hj => by
        simp only [cells32, List.getElem?_map, Option.map_eq_some_iff] at hj
        obtain ⟨d, hd, rfl⟩ := hj
        obtain ⟨hj, rfl⟩ := List.getElem?_eq_some_iff.1 hd
        exact hc j hj)
      (fun u hu => by simp only [cells32, List.mem_map] at hu; obtain ⟨d, _, rfl⟩ := hu; rfl)
    have HB : Hid (U32At w vb (limbs y)) := hb
    clear hc hlt hl hm
    obtain ⟨p, c, hvf, _⟩ := hb.form
    subst hvf
    clear hb hi0 hz0 hz1 hz2
    go_enter Tryz.func66, Tryz.ntmps66
    go_wp2_with fail
    refine HC'.out.mono ?_
    rintro e w1 ⟨v1, rfl, hown, hnn, hb1⟩
    have hown' := hown
    obtain ⟨_, h | ⟨g, cap1, cur, rfl, hg, _, hn1, hm1, _, _⟩⟩ := hown'
    · exact absurd h.1 hnn
    have hg1 : g < w1.heap.size := (hown.lt g rfl).2
    have HT : Hid (Calls Tryz.prog 94 #[.slice (some ⟨g, 0, none⟩) (limbs x).length cap1, .slice p (limbs y).length c, .int .u64 1] w1 fun e w' => e = .returned (.bool (decide (0 < (took (limbs x) (limbs y) 1 (limbs x).length).2))) ∧ RowAt w' g 0 (took (limbs x) (limbs y) 1 (limbs x).length).1 ∧ Below g w1 w') :=
      takeTimes_any (limbs x) (limbs y) 1 g 0 cap1 _ w1 (RowAt.of_owns hown) (HB.out.below hb1) (fun k hk => Nat.lt_of_lt_of_le (hvb k hk) hg) (fun d h => Bn.limbs_lt' h) (fun d h => Bn.limbs_lt' h) (by omega) (by omega)
    clear hown hnn HC'
    generalize decide (0 < (took (limbs x) (limbs y) 1 (limbs x).length).2) = dd at *
    go_wp2_with fail
    refine HT.out.mono ?_
    rintro e w2 ⟨rfl, hrow, hb2⟩
    have hl : (took (limbs x) (limbs y) 1 (limbs x).length).1.length = (limbs x).length := took_length _ _ _ _
    have HU : Hid (Calls Tryz.prog 79 #[.slice (some ⟨g, 0, none⟩) (limbs x).length cap1] w2 fun e w' => ∃ v', e = .returned v' ∧ U32At w2 v' (limbs (x - y)) ∧ w' = w2) := by
      have h := trimmed_any (took (limbs x) (limbs y) 1 (limbs x).length).1 (.slice (some ⟨g, 0, none⟩) (limbs x).length cap1) w2
        (.inr ⟨g, 0, cap1, by rw [hl], Nat.lt_of_lt_of_le hg1 hb2.size, by rw [hl]; exact hn1, hm1, fun j hj => (hrow j hj).1⟩) (fun d hd => by have := took_lt (limbs x) (limbs y) 1 (fun d h => Bn.limbs_lt' h) _ d hd; omega)
      rw [trim_eq _ (took_lt (limbs x) (limbs y) 1 (fun d h => Bn.limbs_lt' h) _), took_sub x y hxy] at h
      refine h.mono ?_
      rintro e w' ⟨v', h1, h2, h3, _⟩
      exact ⟨v', h1, h2, h3⟩
    have hfin : Below w.heap.size w w2 := hb1.trans (hb2.mono hg)
    clear hrow hl HT hb1 hb2
    go_wp2_with fail
    refine HU.out.mono ?_
    rintro e w3 ⟨v, rfl, hU, rfl⟩
    go_wp2
    go_ret
    exact ⟨_, rfl, hU, hfin⟩

end Go.Proofs.YtjffbndiecjkjaaGreatDoor
