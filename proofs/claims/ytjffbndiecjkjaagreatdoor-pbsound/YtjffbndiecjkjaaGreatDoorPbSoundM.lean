/-
  PbSound as lists: what is made of rows that hold holds.
-/
import Derived.Test.YtjffbndiecjkjaaGreatDoorPbForms
import Derived.Test.YtjffbndiecjkjaaGreatDoorPbWeaks
import Derived.Test.YtjffbndiecjkjaaGreatDoorPbSaid
namespace Go.Proofs.YtjffbndiecjkjaaGreatDoor
open Go.Shelf Go.RowKit Go.Lib Go.Sort
open Bn (limbs)

theorem sumF_chg (f : Int → Bool) (d : Int) (K : List (Int × Int)) : Pm.sumF f (Pm.chg (fun z => d * z) K) = d * Pm.sumF f K := by
  induction K with
  | nil => simp [Pm.chg, Pm.sumF]
  | cons p t ih =>
    have e : Pm.chg (fun z => d * z) (p :: t) = (d * p.1, p.2) :: Pm.chg (fun z => d * z) t := rfl
    rw [e]
    simp only [Pm.sumF, ih]
    rw [Int.mul_add]
    split <;> simp
theorem add_holds (fb : Nat → Bool) {n k n' k' : Nat} {X Y P : List (Int × Int)} {x y p : Int} (gx : Gd n k X x) (gy : Gd n' k' Y y) (h : Pm.IsForm (X ++ Y) (x + y) P p) (hx : Pm.holds fb X x = true) (hy : Pm.holds fb Y y = true) : Pm.holds fb P p = true := by
  rw [form_holds fb h (fun q hq => by
    rcases List.mem_append.1 hq with hq | hq
    · exact (gx.sound q hq).2
    · exact (gy.sound q hq).2), Pm.sumF_append]
  unfold Pm.holds at hx hy
  simp only [decide_eq_true_eq] at hx hy ⊢
  omega
theorem weak_holds (fb : Nat → Bool) {n k : Nat} {K K' : List (Int × Int)} {D D' : Int} (g : Gd n k K D) (h : Weak K D K' D') (hx : Pm.holds fb K D = true) : Pm.holds fb K' D' = true := by
  rcases h with ⟨rfl, rfl⟩ | ⟨i, hi, rfl, rfl⟩
  · exact hx
  · have e : K = K.take i ++ ([K[i]] ++ K.drop (i + 1)) := by
      conv => lhs; rw [← List.take_append_drop i K, ← List.getElem_cons_drop hi]
      rfl
    unfold Pm.holds at hx ⊢
    simp only [decide_eq_true_eq] at hx ⊢
    have h1 : Pm.sumF (Pm.litT fb) K = Pm.sumF (Pm.litT fb) (K.take i) + (Pm.sumF (Pm.litT fb) [K[i]] + Pm.sumF (Pm.litT fb) (K.drop (i + 1))) := by
      conv => lhs; rw [e]
      rw [Pm.sumF_append, Pm.sumF_append]
    have h2 : Pm.sumF (Pm.litT fb) [K[i]] ≤ K[i].1 := by
      have := (g.sound K[i] (List.getElem_mem hi)).1
      simp only [Pm.sumF]
      split <;> omega
    have h3 := (sum_le (Pm.litT fb) (K.take i) (fun p hp => g.sound p (List.mem_of_mem_take hp))).1
    have h4 := (sum_le (Pm.litT fb) (K.drop (i + 1)) (fun p hp => g.sound p (List.mem_of_mem_drop hp))).1
    rw [Pm.sumF_append]
    omega
theorem times_holds (fb : Nat → Bool) {d : Int} (hd : 0 < d) (K : List (Int × Int)) (D : Int) : Pm.holds fb (Pm.chg (fun z => d * z) K) (d * D) = Pm.holds fb K D := by
  unfold Pm.holds
  rw [sumF_chg]
  exact decide_eq_decide.2 ⟨fun h => Int.le_of_mul_le_mul_left h hd, fun h => Int.mul_le_mul_of_nonneg_left h (by omega)⟩
theorem sumF_div (f : Int → Bool) {d : Int} (hd : 0 < d) (K : List (Int × Int)) : Pm.sumF f K ≤ d * Pm.sumF f (Pm.chg (fun z => divUpI z d) K) := by
  induction K with
  | nil => simp [Pm.chg, Pm.sumF]
  | cons p t ih =>
    have e : Pm.chg (fun z => divUpI z d) (p :: t) = (divUpI p.1 d, p.2) :: Pm.chg (fun z => divUpI z d) t := rfl
    rw [e]
    simp only [Pm.sumF]
    rw [Int.mul_add]
    have := divUpI_hi p.1 hd
    split
    · omega
    · simp; omega
theorem div_holds (fb : Nat → Bool) {d : Int} (hd : 0 < d) (K : List (Int × Int)) (D : Int) (h : Pm.holds fb K D = true) : Pm.holds fb (Pm.chg (fun z => divUpI z d) K) (divUpI D d) = true := by
  unfold Pm.holds at h ⊢
  simp only [decide_eq_true_eq] at h ⊢
  have h1 := sumF_div (Pm.litT fb) hd K
  have h2 := divUpI_lo D hd
  have h3 : d * (divUpI D d - 1) < d * Pm.sumF (Pm.litT fb) (Pm.chg (fun z => divUpI z d) K) := by omega
  have := Int.lt_of_mul_lt_mul_left h3 (by omega)
  omega
theorem cap_sum (f : Int → Bool) {D : Int} (hD : 0 < D) {K : List (Int × Int)} (hs : Pm.Sound K) : 0 ≤ Pm.sumF f (Pm.chg (capD D) K) ∧ Pm.sumF f (Pm.chg (capD D) K) ≤ Pm.sumF f K ∧ (D ≤ Pm.sumF f K → D ≤ Pm.sumF f (Pm.chg (capD D) K)) ∧ (Pm.sumF f (Pm.chg (capD D) K) < D → Pm.sumF f (Pm.chg (capD D) K) = Pm.sumF f K) := by
  induction K with
  | nil => simp [Pm.chg, Pm.sumF]
  | cons p t ih =>
    have hp := (hs p (List.mem_cons_self ..)).1
    have ih := ih (fun q hq => hs q (List.mem_cons_of_mem _ hq))
    have e : Pm.chg (capD D) (p :: t) = (capD D p.1, p.2) :: Pm.chg (capD D) t := rfl
    rw [e]
    simp only [Pm.sumF, capD]
    by_cases hf : f p.2 = true
    · simp only [hf, if_true]
      split <;> omega
    · simp only [hf]
      simp
      omega
theorem sat_holds (fb : Nat → Bool) {n k : Nat} {K : List (Int × Int)} {D : Int} (g : Gd n k K D) : Pm.holds fb (satK K D) D = Pm.holds fb K D := by
  have hnn := g.nn
  have hs := (sum_le (Pm.litT fb) K g.sound).1
  unfold satK
  split
  · rename_i h0
    subst h0
    unfold Pm.holds
    rw [decide_eq_true (by simp [Pm.sumF]), decide_eq_true hs]
  · have := cap_sum (Pm.litT fb) (show 0 < D by omega) g.sound
    unfold Pm.holds
    exact decide_eq_decide.2 (by omega)
theorem contra_holds (fb : Nat → Bool) {n k : Nat} {K : List (Int × Int)} {D : Int} (g : Gd n k K D) (h : Pm.holds fb K D = true) : decide (Pm.total K < D) = false := by
  have := (sum_le (Pm.litT fb) K g.sound).2
  unfold Pm.holds at h
  simp only [decide_eq_true_eq] at h
  exact decide_eq_false (by omega)

/-! Bounds of what is made. -/
theorem chg_len (f : Int → Int) (K : List (Int × Int)) : (Pm.chg f K).length = K.length := by unfold Pm.chg; rw [List.length_map]
theorem chg_lit {f : Int → Int} {K : List (Int × Int)} (h : ∀ p ∈ K, IsLit p.2) : ∀ p ∈ Pm.chg f K, IsLit p.2 := fun p hp => by
  obtain ⟨q, hq, rfl⟩ := List.mem_map.1 hp
  exact h q hq
theorem times_abs (d : Int) (K : List (Int × Int)) : Pm.absS (Pm.chg (fun z => d * z) K) = d.natAbs * Pm.absS K := by
  induction K with
  | nil => rfl
  | cons p t ih =>
    have e : Pm.chg (fun z => d * z) (p :: t) = (d * p.1, p.2) :: Pm.chg (fun z => d * z) t := rfl
    rw [e]
    simp only [Pm.absS, ih, Int.natAbs_mul, Nat.mul_add]
theorem div_abs {d : Int} (hd : 0 < d) {K : List (Int × Int)} (hs : Pm.Sound K) : Pm.absS (Pm.chg (fun z => divUpI z d) K) ≤ Pm.absS K := by
  induction K with
  | nil => exact Nat.le_refl _
  | cons p t ih =>
    have hp := (hs p (List.mem_cons_self ..)).1
    have ih := ih (fun q hq => hs q (List.mem_cons_of_mem _ hq))
    have e : Pm.chg (fun z => divUpI z d) (p :: t) = (divUpI p.1 d, p.2) :: Pm.chg (fun z => divUpI z d) t := rfl
    rw [e]
    have h1 : 0 ≤ divUpI p.1 d ∧ divUpI p.1 d ≤ p.1 := by
      unfold divUpI
      have a1 : (-p.1) / d ≤ 0 := Int.ediv_nonpos_of_nonpos_of_neg (by omega) hd
      have a2 : -p.1 ≤ (-p.1) / d := (Int.le_ediv_iff_mul_le hd).2 (by
        have : -p.1 * d ≤ -p.1 * 1 := Int.mul_le_mul_of_nonpos_left (by omega) (by omega)
        omega)
      omega
    simp only [Pm.absS]
    omega
theorem sat_lit {K : List (Int × Int)} {D : Int} (h : ∀ p ∈ K, IsLit p.2) : ∀ p ∈ satK K D, IsLit p.2 := by
  unfold satK
  split
  · intro p hp; cases hp
  · exact chg_lit h
theorem weak_size {n k : Nat} {K K' : List (Int × Int)} {D D' : Int} (g : Gd n k K D) (h : Weak K D K' D') : K'.length ≤ n ∧ Pm.absS K' ≤ Pm.absS K ∧ ∀ p ∈ K', IsLit p.2 := by
  have hl := g.len
  rcases h with ⟨rfl, rfl⟩ | ⟨i, hi, rfl, rfl⟩
  · exact ⟨hl, Nat.le_refl _, g.lit⟩
  · refine ⟨by rw [List.length_append, List.length_take, List.length_drop]; omega, ?_, fun p hp => ?_⟩
    · have h1 := congrArg Pm.absS (List.take_append_drop i K)
      have h2 := Pm.absS_drop (K.drop i) 1
      rw [List.drop_drop] at h2
      rw [Pm.absS_append] at h1 ⊢
      omega
    · rcases List.mem_append.1 hp with hp | hp
      · exact g.lit p (List.mem_of_mem_take hp)
      · exact g.lit p (List.mem_of_mem_drop hp)

/-- A row that Of made, in its box. -/
structure MadeS (ls : List (ByteArray × Int)) (deg : ByteArray) (er : Int) (B : Nat) (a : Option Addr) (N c : Nat) (n : Int) (q : Option Addr) (K : List (Int × Int)) (D : Int) (wr : World) : Prop where
  box : wr.heap[B]? = some (.cells #[.slice a N c, .int .i64 n, .pointer q] 35)
  pb : PbAt wr (.agg #[.slice a N c, .int .i64 n, .pointer q]) K D
  len : K.length = N
  good : er = 0 → Gd 3000 3002 K D
theorem MadeS.below {ls : List (ByteArray × Int)} {deg : ByteArray} {er : Int} {B : Nat} {a : Option Addr} {N c : Nat} {n : Int} {q : Option Addr} {K : List (Int × Int)} {D : Int} {wr w' : World} (h : MadeS ls deg er B a N c n q K D wr) (hb : RowKit.Below wr.heap.size wr w') : MadeS ls deg er B a N c n q K D w' :=
  ⟨(hb.block _ (Array.getElem?_eq_some_iff.1 h.box).1).trans h.box, h.pb.below hb, h.len, h.good⟩
theorem MadeS.cells {ls : List (ByteArray × Int)} {deg : ByteArray} {er : Int} {B : Nat} {a : Option Addr} {N c : Nat} {n : Int} {q : Option Addr} {K : List (Int × Int)} {D : Int} {wr : World} (h : MadeS ls deg er B a N c n q K D wr) : wr.cell? ⟨B, 0, none⟩ = some (.slice a N c) ∧ wr.cell? ⟨B, 1, none⟩ = some (.int .i64 n) ∧ wr.cell? ⟨B, 2, none⟩ = some (.pointer q) := by
  obtain ⟨x0, x1, x2, _, _, _⟩ := box3_facts h.box
  exact ⟨x0, x1, x2⟩
/-- Of, for a row of few parts. -/
theorem of_fewS (ls : List (ByteArray × Int)) (pv : Value) (deg : ByteArray) (w : World) (hA : ApAt w pv ls) (hf : 1 + deg.size + partsN ls ≤ 3000) :
    Calls Tryz.prog 10 #[.agg #[pv, .string deg]] w fun e w' => ∃ a N c n q K D er, e = .returned (.tuple #[.agg #[.slice a N c, .int .i64 n, .pointer q], .int .i64 er]) ∧ RowKit.Below w.heap.size w w' ∧ ∀ V, w'.alloc (.cells #[.slice a N c, .int .i64 n, .pointer q] 35) = V → MadeS ls deg er w'.heap.size a N c n q K D V ∧ RowKit.Below w'.heap.size w' V := by
  have hlab : (limbs (Pm.absS (ofPs ls))).length ≤ 3001 := parts_len (by omega)
  have hlde : (limbs ((parseZ deg.data.toList).getD 0).natAbs).length ≤ 3000 := Nat.le_trans (parse_len _) (by simp; omega)
  have hpc := parts_count ls
  refine (of_row ls pv deg w hA (by omega) (fun p hp => by have := parts_size hp; omega) (by omega) (Nat.le_trans hlab (by decide)) (Nat.le_trans hlde (by decide))).mono ?_
  rintro e w' ⟨r, K, D, rfl, hpb, hlit, hlen, hb, hform, _⟩
  obtain ⟨a, c, n, q, rfl, h1, h2⟩ := hpb
  refine ⟨a, K.length, c, n, q, K, D, _, rfl, hb, fun V hV => ?_⟩
  obtain ⟨hO, hbV⟩ := new_obj w' _ hV
  refine ⟨⟨hO, PbAt.below ⟨a, c, n, q, rfl, h1, h2⟩ hbV, rfl, fun h0 => ?_⟩, hbV⟩
  have hF := hform h0
  have hs := form_sizes hF hlab (Nat.le_trans hlde (by decide))
  exact ⟨hF.rises, hF.sound, hlit, by omega, Nat.le_trans hs.1 (by decide), hs.2.1, hs.2.2⟩


set_option maxRecDepth 100000 in
set_option maxHeartbeats 1000000 in
/-- PbSound's function: is a variable among those that are true? -/
theorem is_any (P : Nat) (oa : Option Addr) (M oc : Nat) (of : List Int) (x : Int) (w : World) (hO : w.heap[P]? = some (.cells #[.slice oa M oc] 25)) (hI : InAt w (.slice oa M oc) of) (hn : of.length ≤ 1000000) :
    Calls Tryz.prog 20 #[.int .i64 x, .pointer (some ⟨P, 0, none⟩)] w fun e w' => e = .returned (.bool (of.contains x)) ∧ w' = w := by
  have HA : Hid (Calls Tryz.prog 18 #[.slice oa M oc, .int .i64 x] w fun e w' => e = .returned (.bool (of.contains x)) ∧ w' = w) := among_any of _ x w hI hn
  have k0 : w.cell? ⟨P, 0, none⟩ = some (.slice oa M oc) := by simp [World.cell?, hO]
  generalize of.contains x = t at *
  clear hO hI hn
  go_enter Tryz.func20, Tryz.ntmps20
  go_wp2_with fail
  refine HA.out.mono ?_
  rintro e w1 ⟨rfl, rfl⟩
  go_wp2_with fail
  go_ret
  exact ⟨rfl, rfl⟩

/-- A row of which it is known whether it holds. -/
def Knows (fb : Nat → Bool) (w : World) (r : Value) (t : Bool) : Prop := ∃ K D, PbAt w r K D ∧ (∀ p ∈ K, IsLit p.2) ∧ K.length ≤ 1000000 ∧ (limbs (Pm.absS K)).length ≤ 900000 ∧ Pm.holds fb K D = t
theorem Knows.below {fb : Nat → Bool} {w w' : World} {r : Value} {t : Bool} (h : Knows fb w r t) (hb : RowKit.Below w.heap.size w w') : Knows fb w' r t := by
  obtain ⟨K, D, h1, h2⟩ := h
  exact ⟨K, D, h1.below hb, h2⟩
theorem Knows.shape {fb : Nat → Bool} {w : World} {r : Value} {t : Bool} (h : Knows fb w r t) : ∃ a N c n q, r = .agg #[.slice a N c, .int .i64 n, .pointer q] := by
  obtain ⟨K, D, ⟨a, c, n, q, h1, _⟩, _⟩ := h
  exact ⟨a, _, c, n, q, h1⟩
theorem Gd.knows {n k : Nat} {K : List (Int × Int)} {D : Int} (g : Gd n k K D) (hn : n ≤ 1000000) (hk : k ≤ 900000) (fb : Nat → Bool) {w : World} {r : Value} (h : PbAt w r K D) : Knows fb w r (Pm.holds fb K D) :=
  ⟨K, D, h, g.lit, Nat.le_trans g.len hn, Nat.le_trans g.ab hk, rfl⟩
/-- Holds, asked with that function. -/
theorem holds_kn (P : Nat) (oa : Option Addr) (M oc : Nat) (of : List Int) (w : World) (hO : w.heap[P]? = some (.cells #[.slice oa M oc] 25)) (hI : InAt w (.slice oa M oc) of) (hn : of.length ≤ 1000000) (r : Value) (t : Bool) (h : Knows (ofT of) w r t) :
    Calls Tryz.prog 16 #[r, .func (.func 20) #[] #[.pointer (some ⟨P, 0, none⟩)]] w fun e w' => e = .returned (.bool t) ∧ RowKit.Below w.heap.size w w' := by
  obtain ⟨K, D, h1, h2, h3, h4, h5⟩ := h
  have h6 := holds_any r K D 20 #[.pointer (some ⟨P, 0, none⟩)] (ofT of) none (fun w' => RowKit.Below w.heap.size w w') w h1 h2 h3 h4 (calm_below w) (Below.refl _ _) (enters_of Tryz.func20 (by kernel_rfl) rfl) (fun p _ w' hj => by
    refine (is_any P oa M oc of ((p.2.natAbs : Nat) : Int) w' ((hj.block _ (Array.getElem?_eq_some_iff.1 hO).1).trans hO) (hI.below hj) hn).mono ?_
    rintro e w2 ⟨rfl, rfl⟩
    exact ⟨rfl, hj, grown_of_below (Below.refl _ _) _⟩)
  rw [h5] at h6
  refine h6.mono ?_
  rintro e w' ⟨rfl, _, hg⟩
  exact ⟨rfl, below_of_none hg⟩
end Go.Proofs.YtjffbndiecjkjaaGreatDoor
