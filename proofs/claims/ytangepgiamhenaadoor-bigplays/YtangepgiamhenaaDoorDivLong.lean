/-
  Package big: divLong.
-/
import Derived.Test.YtangepgiamhenaaDoorDivShort
import Derived.Test.YtangepgiamhenaaDoorGuess
import Derived.Test.YtangepgiamhenaaDoorScale
import Derived.Test.YtangepgiamhenaaDoorPlus
namespace Go.Proofs.YtangepgiamhenaaDoor
open Go.RowKit
open Bn (limbs)

theorem RowAt.below {w w' : World} {b o : Nat} {l : List Nat} (h : RowAt w b o l) (hb : Below w.heap.size w w') (hlt : b < w.heap.size) : RowAt w' b o l := fun j hj =>
  ⟨(hb.cell (p := ⟨b, o + j, none⟩) hlt).trans (h j hj).1, (hb.frozen (p := ⟨b, o + j, none⟩) hlt).trans (h j hj).2⟩
theorem RowAt.of_heap {w w' : World} {b o : Nat} {l : List Nat} (h : RowAt w b o l) (e : w'.heap[b]? = w.heap[b]?) : RowAt w' b o l := fun j hj =>
  ⟨(World.cell?_of_block (a := ⟨b, o + j, none⟩) e).trans (h j hj).1, (World.frozen?_of_block (a := ⟨b, o + j, none⟩) e).trans (h j hj).2⟩
theorem U32At.of_heap {w w' : World} {v : Value} {l : List Nat} {n : Nat} (h : U32At w v l) (hs : w'.heap.size = w.heap.size) (e : ∀ k, k ≠ n → w'.heap[k]? = w.heap[k]?) (hv : v.ownBlock ≠ some n) : U32At w' v l := by
  rcases h with h | ⟨b, o, cap, hv', hlt, hl, hm, hc⟩
  · exact .inl h
  · have hb : b ≠ n := fun e => hv (by rw [hv', ← e]; rfl)
    exact .inr ⟨b, o, cap, hv', by rw [hs]; exact hlt, hl, hm, fun j hj => (World.cell?_of_block (a := ⟨b, o + j, none⟩) (e b hb)).trans (hc j hj)⟩

/-- The long division under way: what is left, the quotient's limbs from k on. -/
def LongAt (w : World) (lb qb : Nat) (vd : Value) (D S la c k : Nat) (wr : World) (L q : List Nat) : Prop :=
  (L.length = la + 1 ∧ (∀ d ∈ L, d < 1000000000) ∧ q.length + k = c ∧ (∀ d ∈ q, d < 1000000000) ∧ Bn.val L + D * (1000000000 ^ k * Bn.val q) = S ∧ Bn.val (L.drop k) < D) ∧
  RowAt wr lb 0 L ∧ RowAt wr qb 0 (List.replicate k 0 ++ q) ∧ U32At wr vd (limbs D) ∧ vd.ownBlock ≠ some lb ∧ vd.ownBlock ≠ some qb ∧ lb ≠ qb ∧ lb < wr.heap.size ∧ qb < wr.heap.size ∧ w.heap.size ≤ lb ∧ w.heap.size ≤ qb ∧ Below w.heap.size w wr

theorem long_put {w w2 : World} {lb qb : Nat} {vd : Value} {D S la c j t : Nat} {L q : List Nat} {u : Int} (hm : L.length = la + 1 ∧ (∀ d ∈ L, d < 1000000000) ∧ q.length + (j + 1) = c ∧ (∀ d ∈ q, d < 1000000000) ∧ Bn.val L + D * (1000000000 ^ j * (t + 1000000000 * Bn.val q)) = S ∧ Bn.val (L.drop j) < D) (ht : t < 1000000000)
    (hRL : RowAt w2 lb 0 L) (hRQ : RowAt w2 qb 0 (List.replicate j 0 ++ 0 :: q)) (hU : U32At w2 vd (limbs D)) (h1 : vd.ownBlock ≠ some lb) (h2 : vd.ownBlock ≠ some qb) (h3 : lb ≠ qb) (h4 : lb < w2.heap.size) (h5 : qb < w2.heap.size) (h6 : w.heap.size ≤ lb) (h7 : w.heap.size ≤ qb) (hb : Below w.heap.size w w2) (hu : u = (t : Int)) :
    LongAt w lb qb vd D S la c j (w2.setCell ⟨qb, j, none⟩ (.int .u32 u)) L (t :: q) := by
  obtain ⟨m1, m2, m3, m4, m5, m6⟩ := hm
  have hset := hRQ.set (k := j) (n := t) (u := u) (by simp) hu
  rw [Nat.zero_add, List.append_assoc] at hset
  refine ⟨⟨m1, m2, by simp; omega, fun d hd => ?_, m5, m6⟩, hRL.of_heap (Below.heap_setCell w2 ⟨qb, j, none⟩ _ lb h3), hset, hU.setCell (p := ⟨qb, j, none⟩) h2 _, h1, h2, h3, by simpa [World.setCell] using h4, by simpa [World.setCell] using h5, h6, h7, hb.setCell (p := ⟨qb, j, none⟩) h7 _⟩
  rcases List.mem_cons.1 hd with rfl | hd
  · exact ht
  · exact m4 d hd

/-- Behind a step's subtractions: the quotient's limb may be written. -/
def Puts (w : World) (lb qb : Nat) (vd : Value) (D S la c j : Nat) (q : List Nat) (t : Nat) (w' : World) : Prop :=
  w'.cell? ⟨qb, j, none⟩ = some (.int .u32 0) ∧ w'.frozen? ⟨qb, j, none⟩ = false ∧ ∀ u : Int, u = (t : Int) → ∃ L', LongAt w lb qb vd D S la c j (w'.setCell ⟨qb, j, none⟩ (.int .u32 u)) L' (t :: q)

theorem puts_of {w wr w2 : World} {lb qb : Nat} {vd : Value} {D S la c j m t : Nat} {L q T : List Nat} (hI : LongAt w lb qb vd D S la c (j + 1) wr L q) (hjc : j + (m + 3) ≤ la + 1) (hz : Bn.val (L.drop (j + (m + 2) + 1)) = 0)
    (hw : Wrote lb j (m + 3) wr w2) (hbw : Below lb wr w2) (hT : RowAt w2 lb j T) (hTl : T.length = m + 3) (hTd : ∀ d ∈ T, d < 1000000000) (ht : t < 1000000000) (hv : Bn.val T + t * D = Bn.val ((L.drop j).take (m + 3))) (hlt : Bn.val T < D) :
    Puts w lb qb vd D S la c j q t w2 := by
  obtain ⟨⟨hLl, hLd, hql, hqd, hS, hH⟩, hRL, hRQ, hUD, hn1, hn2, hn3, hlbs, hqbs, hw1, hw2, hbel⟩ := hI
  have hRQ' : RowAt wr qb 0 (List.replicate j 0 ++ 0 :: q) := by
    rw [List.replicate_succ', List.append_assoc] at hRQ; exact hRQ
  have hRQ2 : RowAt w2 qb 0 (List.replicate j 0 ++ 0 :: q) := hRQ'.wrote hw hn3.symm
  obtain ⟨c1, c2⟩ := hRQ2 j (by simp)
  rw [Nat.zero_add] at c1 c2
  rw [show ((List.replicate j 0 ++ 0 :: q)[j]'(by simp)) = 0 from by simp] at c1
  refine ⟨c1, c2, fun u hu => ⟨L.take j ++ T ++ L.drop (j + (m + 3)), ?_⟩⟩
  obtain ⟨N1, N2⟩ := long_next (L := L) (P' := T) (j := j) (n := m + 2) (D := D) (q := t) (S := S) (Q := Bn.val q) (by omega) hz hv hTl hlt hS
  have hRL2 : RowAt w2 lb 0 (L.take j ++ T ++ L.drop (j + T.length)) := hRL.middle (by omega) (by rw [hTl]; exact hw) hT
  rw [hTl] at hRL2
  refine long_put ⟨by simp [hTl]; omega, fun d hd => ?_, hql, hqd, N1, N2⟩ ht hRL2 hRQ2 (hUD.wrote hw hn1) hn1 hn2 hn3 (by rw [hw.1]; exact hlbs) (by rw [hw.1]; exact hqbs) hw1 hw2 (hbel.trans (hbw.mono hw1)) hu
  rcases List.mem_append.1 hd with h | h
  · rcases List.mem_append.1 h with h | h
    · exact hLd d (List.mem_of_mem_take h)
    · exact hTd d h
  · exact hLd d (List.mem_of_mem_drop h)

theorem Wrote.of_heap {bk off n : Nat} {w w' : World} (hh : w'.heap = w.heap) (hb : Below w.heap.size w w') (hlt : bk ≤ w.heap.size) : Wrote bk off n w w' :=
  ⟨by rw [hh], fun k _ => by rw [hh], fun p _ => ⟨World.cell?_of_block (a := ⟨bk, p, none⟩) (by rw [hh]), World.frozen?_of_block (a := ⟨bk, p, none⟩) (by rw [hh])⟩, hb.mono hlt⟩

set_option maxHeartbeats 1000000 in
/-- One round of the long division. -/
theorem long_round {w wr : World} {lb qb : Nat} {pd : Option Addr} {cd D S la c j m : Nat} {L q : List Nat} (hI : LongAt w lb qb (.slice pd (m + 1 + 1) cd) D S la c (j + 1) wr L q) (hsl : (limbs D).length = m + 2) (hjc : j + (m + 3) ≤ la + 1) (hlen : la ≤ 5000000) :
    ∃ t : Nat, t ≤ 1000000000 ∧ Calls Tryd.prog 95 #[.slice (some ⟨lb, j, none⟩) (m + 3) (la + 1 - j), .slice pd (m + 1 + 1) cd] wr (fun e w' => e = .returned (.int .u64 (t : Int)) ∧ w'.heap = wr.heap ∧ Below wr.heap.size wr w') ∧
      ((t < 1000000000 ∧ ∀ w1 : World, w1.heap = wr.heap → Below wr.heap.size wr w1 → Calls Tryd.prog 78 #[.slice (some ⟨lb, j, none⟩) (m + 3) (la + 1 - j), .slice pd (m + 1 + 1) cd, .int .u64 (t : Int)] w1 fun e w' => e = .returned (.bool false) ∧ Puts w lb qb (.slice pd (m + 1 + 1) cd) D S la c j q t w') ∨
       (1 ≤ t ∧ ∀ w1 : World, w1.heap = wr.heap → Below wr.heap.size wr w1 → Calls Tryd.prog 78 #[.slice (some ⟨lb, j, none⟩) (m + 3) (la + 1 - j), .slice pd (m + 1 + 1) cd, .int .u64 (t : Int)] w1 fun e w' => e = .returned (.bool true) ∧
          Calls Tryd.prog 96 #[.slice (some ⟨lb, j, none⟩) (m + 3) (la + 1 - j), .slice pd (m + 1 + 1) cd] w' fun e w'' => e = .returned (.tuple #[]) ∧ Puts w lb qb (.slice pd (m + 1 + 1) cd) D S la c j q (t - 1) w'')) := by
  have hI' := hI
  obtain ⟨⟨hLl, hLd, hql, hqd, hS, hH⟩, hRL, hRQ, hUD, hn1, hn2, hn3, hlbs, hqbs, hw1, hw2, hbel⟩ := hI'
  obtain ⟨db, dof, dcap, hpd, hdlt, _, _, hdc⟩ := hUD.pos (by omega)
  injection hpd with e1 e2 e3
  subst e1
  subst e3
  obtain ⟨hv1, hu2, b1, b0, c1, c0, P, hP, hPl, hPd, hz, hUV⟩ := long_facts hLd hsl (by omega) hH rfl rfl rfl rfl rfl
  have cu : ∀ i (h : i < L.length), wr.cell? ⟨lb, i, none⟩ = some (.int .u32 ((lAt L i : Nat) : Int)) := fun i h => by
    have := (hRL i h).1
    rw [Nat.zero_add] at this
    rw [lAt_get h]; exact this
  have cd1 : ∀ i (h : i < (limbs D).length), wr.cell? ⟨db, dof + i, none⟩ = some (.int .u32 ((lAt (limbs D) i : Nat) : Int)) := fun i h => by
    rw [lAt_get h]; exact hdc i h
  obtain ⟨U, hU⟩ : ∃ U, U = (lAt L (j + (m + 2)) * 1000000000 + lAt L (j + (m + 1))) * 1000000000 + lAt L (j + m) := ⟨_, rfl⟩
  obtain ⟨V, hV⟩ : ∃ V, V = lAt (limbs D) (m + 1) * 1000000000 + lAt (limbs D) m := ⟨_, rfl⟩
  obtain ⟨ht, hcases, hPD⟩ := hUV U V hU hV
  refine ⟨U / V, ht, guess_row m _ _ _ _ _ _ U V lb j db dof (la + 1 - j) cd wr hU hV rfl hv1 hu2 b1 b0 c1 c0 (cu _ (by omega)) (cu _ (by omega)) (cu _ (by omega)) (cd1 _ (by omega)) (cd1 _ (by omega)) (by omega), ?_⟩
  generalize U / V = t at *
  clear hU hV hUV cu cd1 hdc hv1 hu2 b1 b0 c1 c0
  have hRP : RowAt wr lb j P := by rw [hP]; exact hRL.part
  have hTk : ∀ w1 : World, w1.heap = wr.heap → Calls Tryd.prog 78 #[.slice (some ⟨lb, j, none⟩) (m + 3) (la + 1 - j), .slice (some ⟨db, dof, none⟩) (m + 1 + 1) cd, .int .u64 (t : Int)] w1 fun e w' => e = .returned (.bool (decide (0 < (took P (limbs D) t (m + 3)).2))) ∧ RowAt w' lb j (took P (limbs D) t (m + 3)).1 ∧ Wrote lb j (m + 3) w1 w' := by
    intro w1 hh
    have h := takeTimes_row P (limbs D) t lb j (la + 1 - j) (.slice (some ⟨db, dof, none⟩) (m + 1 + 1) cd) w1 (hRP.of_heap (by rw [hh])) (hUD.of_heap (n := lb) (by rw [hh]) (fun k _ => by rw [hh]) hn1) hn1 hPd (fun d h => Bn.limbs_lt' h) ht (by omega)
    rw [hPl] at h; exact h
  have hTl := took_length P (limbs D) t (m + 3)
  have hTd := took_lt P (limbs D) t hPd (m + 3)
  rcases hcases with ⟨hA1, hA2⟩ | ⟨hB0, hB1, hB2⟩
  · left
    obtain ⟨o1, o2⟩ := took_fits (a := P) (b := limbs D) (t := t) hPd (by omega) (by rw [Bn.val_limbs']; exact hA1)
    rw [hPl] at o1 o2
    rw [Bn.val_limbs'] at o2
    refine ⟨limb_of hA1 hPD, fun w1 hh hb => (hTk w1 hh).mono ?_⟩
    rintro e w' ⟨rfl, r1, r2⟩
    rw [o1]
    have hw := (Wrote.of_heap (off := j) (n := m + 3) hh hb (Nat.le_of_lt hlbs)).trans r2
    exact ⟨rfl, puts_of hI hjc hz hw hw.below r1 hTl hTd (limb_of hA1 hPD) (by rw [← hP]; exact o2) (by rw [Nat.add_mul] at hA2; omega)⟩
  · right
    obtain ⟨t', rfl⟩ : ∃ t', t = t' + 1 := ⟨t - 1, by omega⟩
    obtain ⟨o1, o2⟩ := took_over (a := P) (b := limbs D) (s := t') hPd (fun d h => Bn.limbs_lt' h) (by omega) (by rw [Bn.val_limbs']; exact hB1) (by rw [Bn.val_limbs']; exact hB2)
    rw [hPl] at o1 o2
    rw [Bn.val_limbs'] at o2
    refine ⟨by omega, fun w1 hh hb => (hTk w1 hh).mono ?_⟩
    rintro e w' ⟨rfl, r1, r2⟩
    have hw := (Wrote.of_heap (off := j) (n := m + 3) hh hb (Nat.le_of_lt hlbs)).trans r2
    refine ⟨by rw [decide_eq_true o1], ?_⟩
    have h := giveBack_row (took P (limbs D) (t' + 1) (m + 3)).1 (limbs D) lb j (la + 1 - j) (.slice (some ⟨db, dof, none⟩) (m + 1 + 1) cd) w' r1 (hUD.wrote hw hn1) hn1 hTd (fun d h => Bn.limbs_lt' h) (by omega)
    rw [hTl] at h
    refine h.mono ?_
    rintro e w'' ⟨rfl, s1, s2⟩
    have hw2' := hw.trans s2
    refine ⟨rfl, puts_of hI hjc hz hw2' hw2'.below s1 (told_length _ _) (told_lt _ _) (limb_of hB2 hPD) (by rw [← hP]; exact o2) ?_⟩
    rw [Nat.add_mul] at hB1
    have : t' + 1 - 1 = t' := rfl
    omega

set_option maxHeartbeats 2000000 in
set_option maxRecDepth 100000 in
/-- divLong. -/
theorem divLong_any (x y la m v s : Nat) (va vb : Value) (w : World) (ha : U32At w va (limbs x)) (hb : U32At w vb (limbs y)) (hla : (limbs x).length = la) (hlb : (limbs y).length = m + 2) (hlm : m + 2 ≤ la) (hlen : la ≤ 5000000)
    (hv : (limbs y)[m + 1] = v) (hs : s = 1000000000 / (v + 1)) :
    Calls Tryd.prog 82 #[va, vb] w fun e w' => ∃ r, e = .returned (.tuple #[r, .bool (decide (x % y = 0))]) ∧ U32At w' r (limbs (x / y)) ∧ Below w.heap.size w w' := by
  obtain ⟨i0, hi0, hz0, hz1, hz2⟩ := info_parts Tryd.info75
  obtain ⟨hs0, hs1, hsl⟩ := scaled_length hlb hv hs
  have hvb : v < 1000000000 := by rw [← hv]; exact Bn.limbs_get_lt _
  obtain ⟨bb, ob, cb, hvv, hbs, hl1, hm1, hc⟩ := hb.pos (by omega)
  have hcv := hc (m + 1) (by omega)
  rw [hv] at hcv
  rw [hlb] at hvv
  subst hvv
  obtain ⟨pa, ca, hva, hma⟩ := ha.form
  rw [hla] at hva
  subst hva
  have eS : (1000000000 : Int) / ((v : Int) + 1) = (s : Int) := by
    rw [hs]; rfl
  have hvI : (0 : Int) < (v : Int) + 1 := by omega
  have HA : Hid (U32At w (.slice pa la ca) (limbs x)) := ha
  have HB : Hid (U32At w (.slice (some ⟨bb, ob, none⟩) (m + 2) cb) (limbs y)) := hb
  have hmk : ∀ w, (Instr.makeSlice 66 (.int .i64 ((la : Int) + 1)) (.int .i64 ((la : Int) + 1))).run Tryd.prog w = .ok (.slice (some ⟨w.heap.size, 0, none⟩) (la + 1) (la + 1)) (w.alloc (.cells (madeCells #[.int .u32 0] (la + 1)) 75)) :=
    run_make_row (P := Tryd.prog) 66 75 i0 (.int .u32 0) Tryd.underlying66 hi0 hz0 hz1 rfl .i64 .i64 (la + 1) (by rw [hz2]; omega) (by omega)
  have hwl : IntKind.i64.wrap ((la : Int) + 1) = (la : Int) + 1 := by rw [IntKind.wrap_i64]; omega
  obtain ⟨c, hc0⟩ : ∃ c, c + (m + 2) = la + 1 := ⟨la + 1 - (m + 2), by omega⟩
  have ec : (la : Int) + 1 - ((m : Int) + 1 + 1) = (c : Int) := by omega
  have hmk2 : ∀ w, (Instr.makeSlice 66 (.int .i64 (c : Int)) (.int .i64 (c : Int))).run Tryd.prog w = .ok (.slice (some ⟨w.heap.size, 0, none⟩) c c) (w.alloc (.cells (madeCells #[.int .u32 0] c) 75)) :=
    run_make_row (P := Tryd.prog) 66 75 i0 (.int .u32 0) Tryd.underlying66 hi0 hz0 hz1 rfl .i64 .i64 c (by rw [hz2]; omega) (by omega)
  have HSb : Hid (∀ w', Below w.heap.size w w' → Calls Tryd.prog 94 #[.slice (some ⟨bb, ob, none⟩) (m + 2) cb, .int .u64 (s : Int)] w' fun e w'' => ∃ v, e = .returned v ∧ U32At w'' v (limbs (s * y)) ∧ Below w'.heap.size w' w'' ∧ (∀ k, v.ownBlock = some k → w'.heap.size ≤ k)) :=
    fun w' h => scaleLimbs_any y s _ w' (HB.out.below h) (by omega) hs1
  have HSa : Hid (∀ w', Below w.heap.size w w' → Calls Tryd.prog 94 #[.slice pa la ca, .int .u64 (s : Int)] w' fun e w'' => ∃ v, e = .returned v ∧ U32At w'' v (limbs (s * x)) ∧ Below w'.heap.size w' w'' ∧ (∀ k, v.ownBlock = some k → w'.heap.size ≤ k)) :=
    fun w' h => scaleLimbs_any x s _ w' (HA.out.below h) (by omega) hs1
  have hstart := scaled_start hla (show (limbs y).length = m + 1 + 1 from hlb) hs0 hlm
  have hx0 : 0 < x := by
    rcases Nat.eq_zero_or_pos x with e | e
    · rw [e] at hla; simp [Bn.limbs_zero] at hla; omega
    · exact e
  have hSl : (limbs (s * x)).length ≤ la + 1 := by
    rw [Bn.limbs_length_le]
    have h1 : x < 1000000000 ^ la := (Bn.limbs_length_le x la).1 (by omega)
    have h2 : s * x < 1000000000 * 1000000000 ^ la := Nat.lt_of_le_of_lt (Nat.mul_le_mul_right x hs1) (Nat.mul_lt_mul_of_pos_left h1 (by decide))
    rw [Nat.pow_succ, Nat.mul_comm (1000000000 ^ la)]; exact h2
  have hS0 : 0 < (limbs (s * x)).length := by
    rcases Nat.eq_zero_or_pos (limbs (s * x)).length with e | e
    · have := Bn.limbs_eq_nil.1 (List.eq_nil_of_length_eq_zero e)
      have := Nat.mul_pos hs0 hx0
      omega
    · exact e
  clear ha hb hma hc hs hv
  go_enter Tryd.func82, Tryd.ntmps82
  go_wp2_with fail
  rw [eS]
  clear eS hcv
  go_region_with (go_at_call 94; refine calls_at (HSb.out _ ?_) (by with_reducible rfl) (by with_reducible rfl) ?_; (first | exact (Below.refl _ _).drew | exact (Below.refl _ _).drew.alloc (by simp) _); rintro e w1 ⟨vd, rfl, hUd, hb1, hfr⟩; obtain ⟨pd, cd, hvd, _⟩ := hUd.form; rw [hsl] at hvd; subst hvd)
  have hwd : Below w.heap.size w w1 := (Below.refl _ _).drew.trans hb1
  generalize hW : w1.alloc (.cells (madeCells #[.int .u32 0] (la + 1)) 75) = W
  have hbA : Below w1.heap.size w1 W := by rw [← hW]; exact (Below.refl _ _).alloc (Nat.le_refl _) _
  have hLB : W.heap[w1.heap.size]? = some (.cells (madeCells #[.int .u32 0] (la + 1)) 75 (0, 0)) := by rw [← hW]; exact World.alloc_heap_new w1 _
  have hUD : U32At W (.slice pd (m + 1 + 1) cd) (limbs (s * y)) := hUd.below hbA
  have hwW : Below w.heap.size w W := hwd.trans (hbA.mono hwd.size)
  have hlbW : w1.heap.size < W.heap.size := by rw [← hW]; simp
  have hne : (Value.slice pd (m + 1 + 1) cd).ownBlock ≠ some w1.heap.size := hUd.old (Nat.le_refl _)
  have hwlb : w.heap.size ≤ w1.heap.size := hwd.size
  clear hW hbA hwd hfr hUd hb1
  generalize w1.heap.size = lb at *
  rotate_left 1
  generalize hW0 : (w.alloc (.cells (madeCells #[.int .u32 0] (la + 1)) 75)).drew = W0 at *
  have hwd : Below w.heap.size w W0 := by rw [← hW0]; exact ((Below.refl _ _).alloc (Nat.le_refl _) _).drew
  have hs0' : W0.heap.size = w.heap.size + 1 := by rw [← hW0]; simp
  have hLB : w1.heap[w.heap.size]? = some (.cells (madeCells #[.int .u32 0] (la + 1)) 75 (0, 0)) := (hb1.block w.heap.size (by omega)).trans (by rw [← hW0]; exact World.alloc_heap_new w _)
  have hUD : U32At w1 (.slice pd (m + 1 + 1) cd) (limbs (s * y)) := hUd
  have hwW : Below w.heap.size w w1 := hwd.trans (hb1.mono hwd.size)
  have hlbW : w.heap.size < w1.heap.size := by have := hb1.size; omega
  have hne : (Value.slice pd (m + 1 + 1) cd).ownBlock ≠ some w.heap.size := fun e => by have := hfr _ e; omega
  obtain ⟨lb, hlbe⟩ : ∃ lb, lb = w.heap.size := ⟨_, rfl⟩
  rw [← hlbe] at hLB hlbW hne
  rw [← hlbe]
  have hwlb : w.heap.size ≤ lb := by omega
  clear hW0 hwd hfr hUd hb1 hs0' hlbe
  generalize w1 = W at *
  rotate_left 1
  all_goals
    go_wp2_with fail
    refine (HSa.out _ hwW).mono ?_
    rintro e W1 ⟨vs, rfl, hUs, hbs1, hfs⟩
    obtain ⟨sb, so, sc, hvs, _, _, _, hcs⟩ := hUs.pos hS0
    subst hvs
    have hLB1 := (hbs1.block lb hlbW).trans hLB
    have HCS : Hid (∀ j (h : j < (limbs (s * x)).length), W1.cell? ⟨sb, so + j, none⟩ = some (.int .u32 (((limbs (s * x))[j] : Nat) : Int))) := hcs
    have HD1 : Hid (U32At W1 (.slice pd (m + 1 + 1) cd) (limbs (s * y))) := hUD.below hbs1
    have HW1 : Hid (Below w.heap.size w W1) := hwW.trans (hbs1.mono hwW.size)
    have hlb1 : lb < W1.heap.size := Nat.lt_of_lt_of_le hlbW hbs1.size
    clear hcs hUs hbs1 hwW hUD hlbW hLB hfs
    have hrun := run_copy_row (P := Tryd.prog) W1 66 66 3 75 lb 0 (la + 1) (la + 1) ⟨sb, so, none⟩ (limbs (s * x)).length sc _ 75 (cells32 (limbs (s * x))) Tryd.underlying66 (by kernel_rfl) hLB1 (by simp [cells32]; exact (Nat.min_eq_left hSl).symm) (fun j u hj => by
        simp only [cells32, List.getElem?_map, Option.map_eq_some_iff] at hj
        obtain ⟨d, hd, rfl⟩ := hj
        obtain ⟨hj, rfl⟩ := List.getElem?_eq_some_iff.1 hd
        rw [add_none]; exact HCS.out j hj) (by rw [size_madeCells]; simp [cells32]; exact hSl) (fun u hu => by simp only [cells32, List.mem_map] at hu; obtain ⟨d, _, rfl⟩ := hu; rfl)
    obtain ⟨W2, hW2⟩ : ∃ W2, W2 = W1.setRow lb ((madeCells #[.int .u32 0] (la + 1)).toList.take 0 ++ cells32 (limbs (s * x)) ++ (madeCells #[.int .u32 0] (la + 1)).toList.drop (0 + (cells32 (limbs (s * x))).length)).toArray := ⟨_, rfl⟩
    obtain ⟨hL2, hsz2, hot2, hbl2⟩ := copied (S := limbs (s * x)) hLB1 hW2
    rw [← hW2] at hrun
    clear hW2
    go_wp2_with fail
    obtain ⟨V0, hV0⟩ : ∃ V0, V0 = W2.alloc (.cells (madeCells #[.int .u32 0] c) 75) := ⟨_, rfl⟩
    obtain ⟨qb, hqb⟩ : ∃ qb, qb = W1.heap.size := ⟨_, rfl⟩
    have hVs : V0.heap.size = qb + 1 := by rw [hV0, hqb, ← hsz2]; simp
    have hVB : Below W2.heap.size W2 V0 := by rw [hV0]; exact (Below.refl _ _).alloc (Nat.le_refl _) _
    have HI : Hid (LongAt w lb qb (.slice pd (m + 1 + 1) cd) (s * y) (s * x) la c c V0 (limbs (s * x) ++ List.replicate (la + 1 - (limbs (s * x)).length) 0) []) := by
      refine ⟨⟨by simp; omega, fun d hd => ?_, by simp, by simp, ?_, ?_⟩, hL2.below hVB (by rw [hsz2]; exact hlb1), ?_, ?_, hne, ?_, by omega, by omega, by omega, hwlb, by omega, ?_⟩
      · rcases List.mem_append.1 hd with h | h
        · exact Bn.limbs_lt' h
        · rw [(List.mem_replicate.1 h).2]; decide
      · rw [val_pad, Bn.val_limbs']; simp [Bn.val]
      · have h1 := val_split (limbs (s * x) ++ List.replicate (la + 1 - (limbs (s * x)).length) 0) c (by simp; omega)
        rw [val_pad, Bn.val_limbs'] at h1
        rw [show la - (m + 1) = c from by omega] at hstart
        refine Nat.lt_of_mul_lt_mul_left (a := 1000000000 ^ c) ?_
        rw [Nat.mul_comm (s * y)] at hstart
        omega
      · rw [List.append_nil, hqb, ← hsz2, hV0]; exact RowAt.made W2 c
      · exact (HD1.out.of_heap hsz2 hot2 hne).below hVB
      · rw [hqb]; exact HD1.out.old (Nat.le_refl _)
      · have h2 : Below w.heap.size w W2 := HW1.out.trans (hbl2.mono hwlb)
        exact h2.trans (hVB.mono h2.size)
    rw [← hV0, ← hqb]
    clear hV0 hqb hVs hVB hL2 hsz2 hot2 hbl2 HD1 HW1 HCS hLB1 hrun hlb1
    generalize (limbs (s * x) ++ List.replicate (la + 1 - (limbs (s * x)).length) 0) = L0 at *
    go_loopw [9] (fun iv wr => ∃ (k : Nat) (L q : List Nat), iv = .int .i64 ((k : Int) - 1) ∧ k ≤ c ∧ LongAt w lb qb (.slice pd (m + 1 + 1) cd) (s * y) (s * x) la c k wr L q) (fun iv _ => (intOf iv + 1).toNat)
    case atStart => exact ⟨c, L0, [], rfl, Nat.le_refl _, HI.out⟩
    case round =>
      obtain ⟨k, L, q, rfl, hk, hI⟩ := hrel
      cases k with
      | zero =>
        obtain ⟨⟨hLl, hLd, hql, hqd, hS, hH⟩, hRL, hRQ, hUD, hn1, hn2, hn3, hlbs, hqbs, hw1, hw2, hbel⟩ := hI
        rw [List.drop_zero] at hH
        rw [Nat.pow_zero, Nat.one_mul] at hS
        have hy0 : 0 < s * y := by omega
        have hq1 : Bn.val q = x / y := by
          rw [← Nat.mul_div_mul_left x y hs0, ← hS, Nat.add_mul_div_left _ _ hy0, Nat.div_eq_of_lt hH, Nat.zero_add]
        have hq2 : Bn.val L = s * (x % y) := by
          rw [← Nat.mul_mod_mul_left, ← hS, Nat.add_mul_mod_self_left, Nat.mod_eq_of_lt hH]
        have hqc : q.length = c := hql
        have HU1 : Hid (Calls Tryd.prog 67 #[.slice (some ⟨qb, 0, none⟩) c c] wr fun e w' => ∃ v', e = .returned v' ∧ U32At wr v' (limbs (x / y)) ∧ w' = wr) := by
          have h := trimmed_any q (.slice (some ⟨qb, 0, none⟩) c c) wr (.inr ⟨qb, 0, c, by rw [hqc], hqbs, by omega, by unfold maxLen; omega, fun j hj => by have := hRQ j (by simpa using hj); simpa using this.1⟩) (fun d hd => by have := hqd d hd; omega)
          rw [trim_eq _ hqd, hq1] at h
          refine h.mono ?_
          rintro e w' ⟨v', h1, h2, h3, _⟩
          exact ⟨v', h1, h2, h3⟩
        have HU2 : Hid (Calls Tryd.prog 67 #[.slice (some ⟨lb, 0, none⟩) (la + 1) (la + 1)] wr fun e w' => ∃ v', e = .returned v' ∧ U32At wr v' (limbs (s * (x % y))) ∧ w' = wr) := by
          have h := trimmed_any L (.slice (some ⟨lb, 0, none⟩) (la + 1) (la + 1)) wr (.inr ⟨lb, 0, la + 1, by rw [hLl], hlbs, by omega, by unfold maxLen; omega, fun j hj => (hRL j hj).1⟩) (fun d hd => by have := hLd d hd; omega)
          rw [trim_eq _ hLd, hq2] at h
          refine h.mono ?_
          rintro e w' ⟨v', h1, h2, h3, _⟩
          exact ⟨v', h1, h2, h3⟩
        have HE : Hid ((((limbs (s * (x % y))).length : Int) == 0) = decide (x % y = 0)) := by
          show _ = _
          rw [Bool.eq_iff_iff, beq_iff_eq, decide_eq_true_iff]
          constructor
          · intro h
            have h1 := Bn.limbs_eq_nil.1 (List.eq_nil_of_length_eq_zero (show (limbs (s * (x % y))).length = 0 by omega))
            rcases Nat.mul_eq_zero.1 h1 with h2 | h2
            · omega
            · exact h2
          · intro h; rw [h, Nat.mul_zero]; rfl
        have HBL : Hid (Below w.heap.size w wr) := hbel
        clear hLl hLd hql hqd hS hH hRL hRQ hUD hn1 hn2 hn3 hlbs hqbs hw1 hw2 hbel hy0 hq1 hq2 hqc
        go_wp2_with fail
        refine HU1.out.mono ?_
        rintro e w4 ⟨vq, rfl, hUq, rfl⟩
        obtain ⟨pq, cq, hvq, _⟩ := hUq.form
        subst hvq
        go_wp2_with fail
        refine HU2.out.mono ?_
        rintro e w5 ⟨vl, rfl, hUl, rfl⟩
        obtain ⟨pl, cl, hvl, _⟩ := hUl.form
        subst hvl
        go_wp2
        go_ret2
        refine ⟨.slice pq _ cq, ?_, hUq, HBL.out⟩
        show Ending.returned (.tuple #[.slice pq (limbs (x / y)).length cq, .bool (((limbs (s * (x % y))).length : Int) == 0)]) = _
        rw [HE.out]
      | succ j =>
        have hjc : j + (m + 3) ≤ la + 1 := by omega
        have hjI : (j : Int) + ((m : Int) + 1 + 1) + 1 ≤ (la : Int) + 1 := by omega
        obtain ⟨t, ht, hG, hcases⟩ := long_round hI hsl hjc hlen
        have HG : Hid (Calls Tryd.prog 95 #[.slice (some ⟨lb, j, none⟩) (m + 3) (la + 1 - j), .slice pd (m + 1 + 1) cd] wr (fun e w' => e = .returned (.int .u64 (t : Int)) ∧ w'.heap = wr.heap ∧ Below wr.heap.size wr w')) := hG
        clear hI hG
        rcases hcases with ⟨htb, hT⟩ | ⟨htb, hT⟩
        · have HT : Hid (∀ w1 : World, w1.heap = wr.heap → Below wr.heap.size wr w1 → Calls Tryd.prog 78 #[.slice (some ⟨lb, j, none⟩) (m + 3) (la + 1 - j), .slice pd (m + 1 + 1) cd, .int .u64 (t : Int)] w1 fun e w' => e = .returned (.bool false) ∧ Puts w lb qb (.slice pd (m + 1 + 1) cd) (s * y) (s * x) la c j q t w') := hT
          clear hT
          go_wp2_with fail
          rw [show j + (m + 1 + 1) + 1 - j = m + 3 from by omega]
          refine HG.out.mono ?_
          rintro e w1 ⟨rfl, hh1, hbl1⟩
          have HH : Hid (w1.heap = wr.heap) := hh1
          clear hh1
          go_wp2_with fail
          refine (HT.out w1 HH.out hbl1).mono ?_
          rintro e w2 ⟨rfl, hc1, hc2, hput⟩
          have HP : Hid (∀ u : Int, u = (t : Int) → ∃ L', LongAt w lb qb (.slice pd (m + 1 + 1) cd) (s * y) (s * x) la c j (w2.setCell ⟨qb, j, none⟩ (.int .u32 u)) L' (t :: q)) := hput
          clear hput
          go_wp2_with fail
          obtain ⟨L', h⟩ := HP.out _ rfl
          exact ⟨⟨j, L', t :: q, rfl, by omega, h⟩, by simp [intOf]⟩
        · have HT : Hid (∀ w1 : World, w1.heap = wr.heap → Below wr.heap.size wr w1 → Calls Tryd.prog 78 #[.slice (some ⟨lb, j, none⟩) (m + 3) (la + 1 - j), .slice pd (m + 1 + 1) cd, .int .u64 (t : Int)] w1 fun e w' => e = .returned (.bool true) ∧
              Calls Tryd.prog 96 #[.slice (some ⟨lb, j, none⟩) (m + 3) (la + 1 - j), .slice pd (m + 1 + 1) cd] w' fun e w'' => e = .returned (.tuple #[]) ∧ Puts w lb qb (.slice pd (m + 1 + 1) cd) (s * y) (s * x) la c j q (t - 1) w'') := hT
          clear hT
          go_wp2_with fail
          rw [show j + (m + 1 + 1) + 1 - j = m + 3 from by omega]
          refine HG.out.mono ?_
          rintro e w1 ⟨rfl, hh1, hbl1⟩
          have HH : Hid (w1.heap = wr.heap) := hh1
          clear hh1
          go_wp2_with fail
          refine (HT.out w1 HH.out hbl1).mono ?_
          rintro e w2 ⟨rfl, hback⟩
          have HB2 : Hid (Calls Tryd.prog 96 #[.slice (some ⟨lb, j, none⟩) (m + 3) (la + 1 - j), .slice pd (m + 1 + 1) cd] w2 fun e w'' => e = .returned (.tuple #[]) ∧ Puts w lb qb (.slice pd (m + 1 + 1) cd) (s * y) (s * x) la c j q (t - 1) w'') := hback
          clear hback
          go_wp2_with fail
          refine HB2.out.mono ?_
          rintro e w3 ⟨rfl, hc1, hc2, hput⟩
          have HP : Hid (∀ u : Int, u = ((t - 1 : Nat) : Int) → ∃ L', LongAt w lb qb (.slice pd (m + 1 + 1) cd) (s * y) (s * x) la c j (w3.setCell ⟨qb, j, none⟩ (.int .u32 u)) L' ((t - 1) :: q)) := hput
          clear hput
          go_wp2_with fail
          obtain ⟨L', h⟩ := HP.out ((t : Int) - 1) (by omega)
          exact ⟨⟨j, L', (t - 1) :: q, rfl, by omega, h⟩, by simp [intOf]⟩
end Go.Proofs.YtangepgiamhenaaDoor
