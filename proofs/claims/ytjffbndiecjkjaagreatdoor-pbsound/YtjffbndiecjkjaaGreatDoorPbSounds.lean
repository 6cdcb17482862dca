/-
  Put together: PbSoundM, PbSoundW.
-/
import Derived.Test.YtjffbndiecjkjaaGreatDoorPbForms
import Derived.Test.YtjffbndiecjkjaaGreatDoorPbWeaks
import Derived.Test.YtjffbndiecjkjaaGreatDoorPbSaid
namespace Go.Proofs.YtjffbndiecjkjaaGreatDoor
open Go.Shelf Go.RowKit Go.Lib Go.Sort
open Bn (limbs)

theorem sumF_chg (f : Int → Bool) (d : Int) (K : List (Int × Int)) : Pm.sumF f (Pm.chg (fun z => d * z) K) = d * Pm.sumF f K := by
  induction K with
  | nil => simp [Pm.chg, Pm.sumF]
  | cons p t ih =>
    have e : Pm.chg (fun z => d * z) (p :: t) = (d * p.1, p.2) :: Pm.chg (fun z => d * z) t := rfl
    rw [e]
    simp only [Pm.sumF, ih]
    rw [Int.mul_add]
    split <;> simp
theorem add_holds (fb : Nat → Bool) {n k n' k' : Nat} {X Y P : List (Int × Int)} {x y p : Int} (gx : Gd n k X x) (gy : Gd n' k' Y y) (h : Pm.IsForm (X ++ Y) (x + y) P p) (hx : Pm.holds fb X x = true) (hy : Pm.holds fb Y y = true) : Pm.holds fb P p = true := by
  rw [form_holds fb h (fun q hq => by
    rcases List.mem_append.1 hq with hq | hq
    · exact (gx.sound q hq).2
    · exact (gy.sound q hq).2), Pm.sumF_append]
  unfold Pm.holds at hx hy
  simp only [decide_eq_true_eq] at hx hy ⊢
  omega
theorem weak_holds (fb : Nat → Bool) {n k : Nat} {K K' : List (Int × Int)} {D D' : Int} (g : Gd n k K D) (h : Weak K D K' D') (hx : Pm.holds fb K D = true) : Pm.holds fb K' D' = true := by
  rcases h with ⟨rfl, rfl⟩ | ⟨i, hi, rfl, rfl⟩
  · exact hx
  · have e : K = K.take i ++ ([K[i]] ++ K.drop (i + 1)) := by
      conv => lhs; rw [← List.take_append_drop i K, ← List.getElem_cons_drop hi]
      rfl
    unfold Pm.holds at hx ⊢
    simp only [decide_eq_true_eq] at hx ⊢
    have h1 : Pm.sumF (Pm.litT fb) K = Pm.sumF (Pm.litT fb) (K.take i) + (Pm.sumF (Pm.litT fb) [K[i]] + Pm.sumF (Pm.litT fb) (K.drop (i + 1))) := by
      conv => lhs; rw [e]
      rw [Pm.sumF_append, Pm.sumF_append]
    have h2 : Pm.sumF (Pm.litT fb) [K[i]] ≤ K[i].1 := by
      have := (g.sound K[i] (List.getElem_mem hi)).1
      simp only [Pm.sumF]
      split <;> omega
    have h3 := (sum_le (Pm.litT fb) (K.take i) (fun p hp => g.sound p (List.mem_of_mem_take hp))).1
    have h4 := (sum_le (Pm.litT fb) (K.drop (i + 1)) (fun p hp => g.sound p (List.mem_of_mem_drop hp))).1
    rw [Pm.sumF_append]
    omega
theorem times_holds (fb : Nat → Bool) {d : Int} (hd : 0 < d) (K : List (Int × Int)) (D : Int) : Pm.holds fb (Pm.chg (fun z => d * z) K) (d * D) = Pm.holds fb K D := by
  unfold Pm.holds
  rw [sumF_chg]
  exact decide_eq_decide.2 ⟨fun h => Int.le_of_mul_le_mul_left h hd, fun h => Int.mul_le_mul_of_nonneg_left h (by omega)⟩
theorem sumF_div (f : Int → Bool) {d : Int} (hd : 0 < d) (K : List (Int × Int)) : Pm.sumF f K ≤ d * Pm.sumF f (Pm.chg (fun z => divUpI z d) K) := by
  induction K with
  | nil => simp [Pm.chg, Pm.sumF]
  | cons p t ih =>
    have e : Pm.chg (fun z => divUpI z d) (p :: t) = (divUpI p.1 d, p.2) :: Pm.chg (fun z => divUpI z d) t := rfl
    rw [e]
    simp only [Pm.sumF]
    rw [Int.mul_add]
    have := divUpI_hi p.1 hd
    split
    · omega
    · simp; omega
theorem div_holds (fb : Nat → Bool) {d : Int} (hd : 0 < d) (K : List (Int × Int)) (D : Int) (h : Pm.holds fb K D = true) : Pm.holds fb (Pm.chg (fun z => divUpI z d) K) (divUpI D d) = true := by
  unfold Pm.holds at h ⊢
  simp only [decide_eq_true_eq] at h ⊢
  have h1 := sumF_div (Pm.litT fb) hd K
  have h2 := divUpI_lo D hd
  have h3 : d * (divUpI D d - 1) < d * Pm.sumF (Pm.litT fb) (Pm.chg (fun z => divUpI z d) K) := by omega
  have := Int.lt_of_mul_lt_mul_left h3 (by omega)
  omega
theorem cap_sum (f : Int → Bool) {D : Int} (hD : 0 < D) {K : List (Int × Int)} (hs : Pm.Sound K) : 0 ≤ Pm.sumF f (Pm.chg (capD D) K) ∧ Pm.sumF f (Pm.chg (capD D) K) ≤ Pm.sumF f K ∧ (D ≤ Pm.sumF f K → D ≤ Pm.sumF f (Pm.chg (capD D) K)) ∧ (Pm.sumF f (Pm.chg (capD D) K) < D → Pm.sumF f (Pm.chg (capD D) K) = Pm.sumF f K) := by
  induction K with
  | nil => simp [Pm.chg, Pm.sumF]
  | cons p t ih =>
    have hp := (hs p (List.mem_cons_self ..)).1
    have ih := ih (fun q hq => hs q (List.mem_cons_of_mem _ hq))
    have e : Pm.chg (capD D) (p :: t) = (capD D p.1, p.2) :: Pm.chg (capD D) t := rfl
    rw [e]
    simp only [Pm.sumF, capD]
    by_cases hf : f p.2 = true
    · simp only [hf, if_true]
      split <;> omega
    · simp only [hf]
      simp
      omega
theorem sat_holds (fb : Nat → Bool) {n k : Nat} {K : List (Int × Int)} {D : Int} (g : Gd n k K D) : Pm.holds fb (satK K D) D = Pm.holds fb K D := by
  have hnn := g.nn
  have hs := (sum_le (Pm.litT fb) K g.sound).1
  unfold satK
  split
  · rename_i h0
    subst h0
    unfold Pm.holds
    rw [decide_eq_true (by simp [Pm.sumF]), decide_eq_true hs]
  · have := cap_sum (Pm.litT fb) (show 0 < D by omega) g.sound
    unfold Pm.holds
    exact decide_eq_decide.2 (by omega)
theorem contra_holds (fb : Nat → Bool) {n k : Nat} {K : List (Int × Int)} {D : Int} (g : Gd n k K D) (h : Pm.holds fb K D = true) : decide (Pm.total K < D) = false := by
  have := (sum_le (Pm.litT fb) K g.sound).2
  unfold Pm.holds at h
  simp only [decide_eq_true_eq] at h
  exact decide_eq_false (by omega)

/-! Bounds of what is made. -/
theorem chg_len (f : Int → Int) (K : List (Int × Int)) : (Pm.chg f K).length = K.length := by unfold Pm.chg; rw [List.length_map]
theorem chg_lit {f : Int → Int} {K : List (Int × Int)} (h : ∀ p ∈ K, IsLit p.2) : ∀ p ∈ Pm.chg f K, IsLit p.2 := fun p hp => by
  obtain ⟨q, hq, rfl⟩ := List.mem_map.1 hp
  exact h q hq
theorem times_abs (d : Int) (K : List (Int × Int)) : Pm.absS (Pm.chg (fun z => d * z) K) = d.natAbs * Pm.absS K := by
  induction K with
  | nil => rfl
  | cons p t ih =>
    have e : Pm.chg (fun z => d * z) (p :: t) = (d * p.1, p.2) :: Pm.chg (fun z => d * z) t := rfl
    rw [e]
    simp only [Pm.absS, ih, Int.natAbs_mul, Nat.mul_add]
theorem div_abs {d : Int} (hd : 0 < d) {K : List (Int × Int)} (hs : Pm.Sound K) : Pm.absS (Pm.chg (fun z => divUpI z d) K) ≤ Pm.absS K := by
  induction K with
  | nil => exact Nat.le_refl _
  | cons p t ih =>
    have hp := (hs p (List.mem_cons_self ..)).1
    have ih := ih (fun q hq => hs q (List.mem_cons_of_mem _ hq))
    have e : Pm.chg (fun z => divUpI z d) (p :: t) = (divUpI p.1 d, p.2) :: Pm.chg (fun z => divUpI z d) t := rfl
    rw [e]
    have h1 : 0 ≤ divUpI p.1 d ∧ divUpI p.1 d ≤ p.1 := by
      unfold divUpI
      have a1 : (-p.1) / d ≤ 0 := Int.ediv_nonpos_of_nonpos_of_neg (by omega) hd
      have a2 : -p.1 ≤ (-p.1) / d := (Int.le_ediv_iff_mul_le hd).2 (by
        have : -p.1 * d ≤ -p.1 * 1 := Int.mul_le_mul_of_nonpos_left (by omega) (by omega)
        omega)
      omega
    simp only [Pm.absS]
    omega
theorem sat_lit {K : List (Int × Int)} {D : Int} (h : ∀ p ∈ K, IsLit p.2) : ∀ p ∈ satK K D, IsLit p.2 := by
  unfold satK
  split
  · intro p hp; cases hp
  · exact chg_lit h
theorem weak_size {n k : Nat} {K K' : List (Int × Int)} {D D' : Int} (g : Gd n k K D) (h : Weak K D K' D') : K'.length ≤ n ∧ Pm.absS K' ≤ Pm.absS K ∧ ∀ p ∈ K', IsLit p.2 := by
  have hl := g.len
  rcases h with ⟨rfl, rfl⟩ | ⟨i, hi, rfl, rfl⟩
  · exact ⟨hl, Nat.le_refl _, g.lit⟩
  · refine ⟨by rw [List.length_append, List.length_take, List.length_drop]; omega, ?_, fun p hp => ?_⟩
    · have h1 := congrArg Pm.absS (List.take_append_drop i K)
      have h2 := Pm.absS_drop (K.drop i) 1
      rw [List.drop_drop] at h2
      rw [Pm.absS_append] at h1 ⊢
      omega
    · rcases List.mem_append.1 hp with hp | hp
      · exact g.lit p (List.mem_of_mem_take hp)
      · exact g.lit p (List.mem_of_mem_drop hp)

/-- A row that Of made, in its box. -/
structure MadeS (ls : List (ByteArray × Int)) (deg : ByteArray) (er : Int) (B : Nat) (a : Option Addr) (N c : Nat) (n : Int) (q : Option Addr) (K : List (Int × Int)) (D : Int) (wr : World) : Prop where
  box : wr.heap[B]? = some (.cells #[.slice a N c, .int .i64 n, .pointer q] 35)
  pb : PbAt wr (.agg #[.slice a N c, .int .i64 n, .pointer q]) K D
  len : K.length = N
  good : er = 0 → Gd 3000 3002 K D
theorem MadeS.below {ls : List (ByteArray × Int)} {deg : ByteArray} {er : Int} {B : Nat} {a : Option Addr} {N c : Nat} {n : Int} {q : Option Addr} {K : List (Int × Int)} {D : Int} {wr w' : World} (h : MadeS ls deg er B a N c n q K D wr) (hb : RowKit.Below wr.heap.size wr w') : MadeS ls deg er B a N c n q K D w' :=
  ⟨(hb.block _ (Array.getElem?_eq_some_iff.1 h.box).1).trans h.box, h.pb.below hb, h.len, h.good⟩
theorem MadeS.cells {ls : List (ByteArray × Int)} {deg : ByteArray} {er : Int} {B : Nat} {a : Option Addr} {N c : Nat} {n : Int} {q : Option Addr} {K : List (Int × Int)} {D : Int} {wr : World} (h : MadeS ls deg er B a N c n q K D wr) : wr.cell? ⟨B, 0, none⟩ = some (.slice a N c) ∧ wr.cell? ⟨B, 1, none⟩ = some (.int .i64 n) ∧ wr.cell? ⟨B, 2, none⟩ = some (.pointer q) := by
  obtain ⟨x0, x1, x2, _, _, _⟩ := box3_facts h.box
  exact ⟨x0, x1, x2⟩
/-- Of, for a row of few parts. -/
theorem of_fewS (ls : List (ByteArray × Int)) (pv : Value) (deg : ByteArray) (w : World) (hA : ApAt w pv ls) (hf : 1 + deg.size + partsN ls ≤ 3000) :
    Calls Tryz.prog 10 #[.agg #[pv, .string deg]] w fun e w' => ∃ a N c n q K D er, e = .returned (.tuple #[.agg #[.slice a N c, .int .i64 n, .pointer q], .int .i64 er]) ∧ RowKit.Below w.heap.size w w' ∧ ∀ V, w'.alloc (.cells #[.slice a N c, .int .i64 n, .pointer q] 35) = V → MadeS ls deg er w'.heap.size a N c n q K D V ∧ RowKit.Below w'.heap.size w' V := by
  have hlab : (limbs (Pm.absS (ofPs ls))).length ≤ 3001 := parts_len (by omega)
  have hlde : (limbs ((parseZ deg.data.toList).getD 0).natAbs).length ≤ 3000 := Nat.le_trans (parse_len _) (by simp; omega)
  have hpc := parts_count ls
  refine (of_row ls pv deg w hA (by omega) (fun p hp => by have := parts_size hp; omega) (by omega) (Nat.le_trans hlab (by decide)) (Nat.le_trans hlde (by decide))).mono ?_
  rintro e w' ⟨r, K, D, rfl, hpb, hlit, hlen, hb, hform, _⟩
  obtain ⟨a, c, n, q, rfl, h1, h2⟩ := hpb
  refine ⟨a, K.length, c, n, q, K, D, _, rfl, hb, fun V hV => ?_⟩
  obtain ⟨hO, hbV⟩ := new_obj w' _ hV
  refine ⟨⟨hO, PbAt.below ⟨a, c, n, q, rfl, h1, h2⟩ hbV, rfl, fun h0 => ?_⟩, hbV⟩
  have hF := hform h0
  have hs := form_sizes hF hlab (Nat.le_trans hlde (by decide))
  exact ⟨hF.rises, hF.sound, hlit, by omega, Nat.le_trans hs.1 (by decide), hs.2.1, hs.2.2⟩


set_option maxRecDepth 100000 in
set_option maxHeartbeats 1000000 in
/-- PbSound's function: is a variable among those that are true? -/
theorem is_any (P : Nat) (oa : Option Addr) (M oc : Nat) (of : List Int) (x : Int) (w : World) (hO : w.heap[P]? = some (.cells #[.slice oa M oc] 25)) (hI : InAt w (.slice oa M oc) of) (hn : of.length ≤ 1000000) :
    Calls Tryz.prog 20 #[.int .i64 x, .pointer (some ⟨P, 0, none⟩)] w fun e w' => e = .returned (.bool (of.contains x)) ∧ w' = w := by
  have HA : Hid (Calls Tryz.prog 18 #[.slice oa M oc, .int .i64 x] w fun e w' => e = .returned (.bool (of.contains x)) ∧ w' = w) := among_any of _ x w hI hn
  have k0 : w.cell? ⟨P, 0, none⟩ = some (.slice oa M oc) := by simp [World.cell?, hO]
  generalize of.contains x = t at *
  clear hO hI hn
  go_enter Tryz.func20, Tryz.ntmps20
  go_wp2_with fail
  refine HA.out.mono ?_
  rintro e w1 ⟨rfl, rfl⟩
  go_wp2_with fail
  go_ret
  exact ⟨rfl, rfl⟩

/-- A row of which it is known whether it holds. -/
def Knows (fb : Nat → Bool) (w : World) (r : Value) (t : Bool) : Prop := ∃ K D, PbAt w r K D ∧ (∀ p ∈ K, IsLit p.2) ∧ K.length ≤ 1000000 ∧ (limbs (Pm.absS K)).length ≤ 900000 ∧ Pm.holds fb K D = t
theorem Knows.below {fb : Nat → Bool} {w w' : World} {r : Value} {t : Bool} (h : Knows fb w r t) (hb : RowKit.Below w.heap.size w w') : Knows fb w' r t := by
  obtain ⟨K, D, h1, h2⟩ := h
  exact ⟨K, D, h1.below hb, h2⟩
theorem Knows.shape {fb : Nat → Bool} {w : World} {r : Value} {t : Bool} (h : Knows fb w r t) : ∃ a N c n q, r = .agg #[.slice a N c, .int .i64 n, .pointer q] := by
  obtain ⟨K, D, ⟨a, c, n, q, h1, _⟩, _⟩ := h
  exact ⟨a, _, c, n, q, h1⟩
theorem Gd.knows {n k : Nat} {K : List (Int × Int)} {D : Int} (g : Gd n k K D) (hn : n ≤ 1000000) (hk : k ≤ 900000) (fb : Nat → Bool) {w : World} {r : Value} (h : PbAt w r K D) : Knows fb w r (Pm.holds fb K D) :=
  ⟨K, D, h, g.lit, Nat.le_trans g.len hn, Nat.le_trans g.ab hk, rfl⟩
/-- Holds, asked with that function. -/
theorem holds_kn (P : Nat) (oa : Option Addr) (M oc : Nat) (of : List Int) (w : World) (hO : w.heap[P]? = some (.cells #[.slice oa M oc] 25)) (hI : InAt w (.slice oa M oc) of) (hn : of.length ≤ 1000000) (r : Value) (t : Bool) (h : Knows (ofT of) w r t) :
    Calls Tryz.prog 16 #[r, .func (.func 20) #[] #[.pointer (some ⟨P, 0, none⟩)]] w fun e w' => e = .returned (.bool t) ∧ RowKit.Below w.heap.size w w' := by
  obtain ⟨K, D, h1, h2, h3, h4, h5⟩ := h
  have h6 := holds_any r K D 20 #[.pointer (some ⟨P, 0, none⟩)] (ofT of) none (fun w' => RowKit.Below w.heap.size w w') w h1 h2 h3 h4 (calm_below w) (Below.refl _ _) (enters_of Tryz.func20 (by kernel_rfl) rfl) (fun p _ w' hj => by
    refine (is_any P oa M oc of ((p.2.natAbs : Nat) : Int) w' ((hj.block _ (Array.getElem?_eq_some_iff.1 hO).1).trans hO) (hI.below hj) hn).mono ?_
    rintro e w2 ⟨rfl, rfl⟩
    exact ⟨rfl, hj, grown_of_below (Below.refl _ _) _⟩)
  rw [h5] at h6
  refine h6.mono ?_
  rintro e w' ⟨rfl, _, hg⟩
  exact ⟨rfl, below_of_none hg⟩
end Go.Proofs.YtjffbndiecjkjaaGreatDoor

namespace Go.Proofs.YtjffbndiecjkjaaGreatDoor
open Go.Shelf Go.RowKit Go.Lib Go.Sort
open Bn (limbs)

/-- What came in, in its boxes. -/
structure CameS (w : World) (u1 u2 : Value) (d1 d2 : ByteArray) (ov : Value) (wr : World) : Prop where
  o1 : wr.heap[w.heap.size]? = some (.cells #[u1, .string d1] 24)
  o2 : wr.heap[w.heap.size + 1]? = some (.cells #[u2, .string d2] 24)
  o3 : wr.heap[w.heap.size + 1 + 1]? = some (.cells #[ov] 25)
  rest : RowKit.Below w.heap.size w wr
theorem CameS.below {w : World} {u1 u2 : Value} {d1 d2 : ByteArray} {ov : Value} {wr w' : World} (h : CameS w u1 u2 d1 d2 ov wr) (hb : RowKit.Below wr.heap.size wr w') : CameS w u1 u2 d1 d2 ov w' :=
  ⟨(hb.block _ (Array.getElem?_eq_some_iff.1 h.o1).1).trans h.o1, (hb.block _ (Array.getElem?_eq_some_iff.1 h.o2).1).trans h.o2, (hb.block _ (Array.getElem?_eq_some_iff.1 h.o3).1).trans h.o3, h.rest.trans (hb.mono h.rest.size)⟩
theorem CameS.cells {w : World} {u1 u2 : Value} {d1 d2 : ByteArray} {ov : Value} {wr : World} (h : CameS w u1 u2 d1 d2 ov wr) : wr.cell? ⟨w.heap.size, 0, none⟩ = some u1 ∧ wr.cell? ⟨w.heap.size, 1, none⟩ = some (.string d1) ∧ wr.cell? ⟨w.heap.size + 1, 0, none⟩ = some u2 ∧ wr.cell? ⟨w.heap.size + 1, 1, none⟩ = some (.string d2) ∧ wr.cell? ⟨w.heap.size + 1 + 1, 0, none⟩ = some ov := by
  refine ⟨?_, ?_, ?_, ?_, ?_⟩
  · simp [World.cell?, h.o1]
  · simp [World.cell?, h.o1]
  · simp [World.cell?, h.o2]
  · simp [World.cell?, h.o2]
  · simp [World.cell?, h.o3]

set_option maxRecDepth 100000 in
set_option maxHeartbeats 8000000 in
theorem pbSound_walk (l1 l2 : List (ByteArray × Int)) (u1 u2 : Value) (d1 d2 s : ByteArray) (v : Int) (of : List Int) (ov : Value) (w : World) (hA1 : ApAt w u1 l1) (hA2 : ApAt w u2 l2) (hI : InAt w ov of)
    (hs1 : ∀ p ∈ l1, p.1.size ≤ maxLen) (hs2 : ∀ p ∈ l2, p.1.size ≤ maxLen) (hd1 : d1.size ≤ maxLen) (hd2 : d2.size ≤ maxLen) (ht : Tab w) :
    Calls Tryz.prog 4 #[.agg #[u1, .string d1], .agg #[u2, .string d2], .string s, .int .i64 v, ov] w fun e w' => e = .returned (.bool true) ∧ RowKit.Below w.heap.size w w' := by
  have HA1 : Hid (ApAt w u1 l1) := hA1
  have HA2 : Hid (ApAt w u2 l2) := hA2
  have HI : Hid (InAt w ov of) := hI
  have HF1 : Hid (∀ w', RowKit.Below w.heap.size w w' → Calls Tryz.prog 8 #[.agg #[u1, .string d1]] w' fun e w'' => ∃ b, e = .returned (.bool b) ∧ (b = true → 1 + d1.size + partsN l1 ≤ 3000) ∧ RowKit.Below w'.heap.size w' w'') := fun w' hb => few_any l1 _ d1 w' (HA1.out.below hb) hs1 hd1
  have HF2 : Hid (∀ w', RowKit.Below w.heap.size w w' → Calls Tryz.prog 8 #[.agg #[u2, .string d2]] w' fun e w'' => ∃ b, e = .returned (.bool b) ∧ (b = true → 1 + d2.size + partsN l2 ≤ 3000) ∧ RowKit.Below w'.heap.size w' w'') := fun w' hb => few_any l2 _ d2 w' (HA2.out.below hb) hs2 hd2
  have HT : Hid (Tab w) := ht
  obtain ⟨W, hW⟩ : ∃ W, ((w.alloc (.cells #[u1, .string d1] 24)).alloc (.cells #[u2, .string d2] 24)).alloc (.cells #[ov] 25) = W := ⟨_, rfl⟩
  obtain ⟨hO1, hO2, hO3, hbW, _⟩ := three_objs w _ _ _ hW
  have HC : Hid (CameS w u1 u2 d1 d2 ov W) := ⟨hO1, hO2, hO3, hbW⟩
  obtain ⟨a1, c1, rfl, hx1, hx2, hx3⟩ := hA1
  clear hx1 hx2 hx3
  obtain ⟨a2, c2, rfl, hx1, hx2, hx3⟩ := hA2
  clear hx1 hx2 hx3
  obtain ⟨oa, oc, rfl, hx1, hx2, hx3⟩ := hI
  clear hx1 hx2 hx3
  generalize l1.length = N1 at *
  generalize l2.length = N2 at *
  obtain ⟨M, hM⟩ : ∃ M, of.length = M := ⟨_, rfl⟩
  rw [hM] at hW HC HI ⊢
  have HM : Hid (of.length = M) := hM
  clear hs1 hs2 hd1 hd2 ht hO1 hO2 hO3 hbW hM
  go_enter Tryz.func4, Tryz.ntmps4
  go_wp2_with fail
  refine (known_any W (HT.out.under HC.out.rest)).mono ?_
  rintro e w1 ⟨rfl, hb⟩
  have HC : Hid (CameS w _ _ d1 d2 _ w1) := HC.out.below hb
  obtain ⟨k0, k1, k2, k3, k4⟩ := HC.out.cells
  clear hb hW
  go_wp2_with fail
  refine (HF1.out w1 HC.out.rest).mono ?_
  rintro e w2 ⟨b, rfl, hf, hb⟩
  have HC : Hid (CameS w _ _ d1 d2 _ w2) := HC.out.below hb
  clear hb k0 k1 k2 k3 k4
  cases b with
  | false =>
    go_wp2_with fail
    go_ret
    exact ⟨rfl, HC.out.rest⟩
  | true =>
  have Hp1 : Hid (1 + d1.size + partsN l1 ≤ 3000) := hf rfl
  obtain ⟨k0, k1, k2, k3, k4⟩ := HC.out.cells
  clear hf
  go_wp2_with fail
  refine (HF2.out w2 HC.out.rest).mono ?_
  rintro e w3 ⟨b, rfl, hf, hb⟩
  have HC : Hid (CameS w _ _ d1 d2 _ w3) := HC.out.below hb
  clear hb k0 k1 k2 k3 k4
  cases b with
  | false =>
    go_wp2_with fail
    go_ret
    exact ⟨rfl, HC.out.rest⟩
  | true =>
  have Hp2 : Hid (1 + d2.size + partsN l2 ≤ 3000) := hf rfl
  obtain ⟨k0, k1, k2, k3, k4⟩ := HC.out.cells
  clear hf
  by_cases hs : s.size ≤ 300
  case neg =>
    have hsI : (300 : Int) < (s.size : Int) := by omega
    go_wp2_with fail
    go_ret
    exact ⟨rfl, HC.out.rest⟩
  have hsI : ¬ (300 : Int) < (s.size : Int) := by omega
  by_cases hm : M ≤ 200
  case neg =>
    have hmI : (200 : Int) < (M : Int) := by omega
    go_wp2_with fail
    go_ret
    exact ⟨rfl, HC.out.rest⟩
  have hmI : ¬ (200 : Int) < (M : Int) := by omega
  have HMl : Hid (of.length ≤ 1000000) := by have := HM.out; show _ ≤ _; omega
  go_wp2_with fail
  refine (of_fewS l1 _ d1 w3 (HA1.out.below HC.out.rest) Hp1.out).mono ?_
  rintro e w5 ⟨ax, Nx, cx, nx, qx, X, x, e1, rfl, hb, hV⟩
  have HC : Hid (CameS w _ _ d1 d2 _ w5) := HC.out.below hb
  obtain ⟨V5, hV5⟩ : ∃ V, w5.alloc (.cells #[.slice ax Nx cx, .int .i64 nx, .pointer qx] 35) = V := ⟨_, rfl⟩
  obtain ⟨hMd, hb5⟩ := hV V5 hV5
  have HX : Hid (MadeS l1 d1 e1 w5.heap.size ax Nx cx nx qx X x V5) := hMd
  have HC : Hid (CameS w _ _ d1 d2 _ V5) := HC.out.below hb5
  clear hb hMd hb5 hV k0 k1 k2 k3 k4 hsI hmI
  obtain ⟨k0, k1, k2, k3, k4⟩ := HC.out.cells
  go_wp2_with fail
  refine (of_fewS l2 _ d2 V5 (HA2.out.below HC.out.rest) Hp2.out).mono ?_
  rintro e w6 ⟨ay, Ny, cy, ny, qy, Y, y, e2, rfl, hb, hV⟩
  obtain ⟨V6, hV6⟩ : ∃ V, w6.alloc (.cells #[.slice ay Ny cy, .int .i64 ny, .pointer qy] 35) = V := ⟨_, rfl⟩
  obtain ⟨hMd, hb6⟩ := hV V6 hV6
  have HY : Hid (MadeS l2 d2 e2 w6.heap.size ay Ny cy ny qy Y y V6) := hMd
  have HX : Hid (MadeS l1 d1 e1 w5.heap.size ax Nx cx nx qx X x V6) := (HX.out.below hb).below hb6
  have HC : Hid (CameS w _ _ d1 d2 _ V6) := (HC.out.below hb).below hb6
  clear hb hMd hb6 hV k0 k1 k2 k3 k4 hV5
  go_wp2_with fail
  refine (parse_any s V6 (by omega)).mono ?_
  have Hkl : Hid ((limbs ((parseZ s.data.toList).getD 0).natAbs).length ≤ 300) := Nat.le_trans (parse_len _) (by simp; omega)
  generalize errOf (parseZ s.data.toList) = ek at *
  generalize (parseZ s.data.toList).getD 0 = k at *
  rintro e w8 ⟨r, rfl, hB, hb⟩
  obtain ⟨nk, qk, rfl⟩ := hB.shape
  obtain ⟨V8, hV8⟩ : ∃ V, w8.alloc (.cells #[.int .i64 nk, .pointer qk] 33) = V := ⟨_, rfl⟩
  obtain ⟨hO8, hb8⟩ := new_obj w8 _ hV8
  have HY : Hid (MadeS l2 d2 e2 w6.heap.size ay Ny cy ny qy Y y V8) := (HY.out.below hb).below hb8
  have HX : Hid (MadeS l1 d1 e1 w5.heap.size ax Nx cx nx qx X x V8) := (HX.out.below hb).below hb8
  have HC : Hid (CameS w _ _ d1 d2 _ V8) := (HC.out.below hb).below hb8
  have HB : Hid (BigAt V8 (.agg #[.int .i64 nk, .pointer qk]) k) := hB.below hb8
  have HO8 : Hid (V8.heap[w8.heap.size]? = some (.cells #[.int .i64 nk, .pointer qk] 33)) := hO8
  have HNu : Hid (∀ e w', Calls Tryz.prog 11 #[.int .i64 e] w' fun e' w'' => e' = .returned (.int .i64 e) ∧ w'' = w') := fun e w' => num_any e w'
  clear hb hB hb8 hO8 hV6 hs hm
  by_cases h1 : e1 = 0
  case neg =>
    have hb1 : (e1 == 0) = false := beq_eq_false_iff_ne.2 h1
    go_wp2_with (first | (go_at_call 11; refine calls_at (HNu.out e1 _) (by with_reducible rfl) (by with_reducible rfl) ?_; rintro e w9 ⟨rfl, hww⟩; rw [hww]))
    go_ret
    exact ⟨rfl, HC.out.rest⟩
  subst h1
  by_cases h2 : e2 = 0
  case neg =>
    have hb1 : (e2 == 0) = false := beq_eq_false_iff_ne.2 h2
    go_wp2_with (first | (go_at_call 11; first | refine calls_at (HNu.out 0 _) (by with_reducible rfl) (by with_reducible rfl) ?_ | refine calls_at (HNu.out e2 _) (by with_reducible rfl) (by with_reducible rfl) ?_); (rintro e w9 ⟨rfl, hww⟩; rw [hww]))
    go_ret
    exact ⟨rfl, HC.out.rest⟩
  subst h2
  have Gx : Hid (Gd 3000 3002 X x) := HX.out.good rfl
  have Gy : Hid (Gd 3000 3002 Y y) := HY.out.good rfl
  go_wp2_with (first | (go_at_call 11; refine calls_at (HNu.out 0 _) (by with_reducible rfl) (by with_reducible rfl) ?_; rintro e w9 ⟨rfl, hww⟩; rw [hww]))
  have HH : Hid (∀ w' r t, RowKit.Below V8.heap.size V8 w' → Knows (ofT of) w' r t → Calls Tryz.prog 16 #[r, .func (.func 20) #[] #[.pointer (some ⟨w.heap.size + 1 + 1, 0, none⟩)]] w' fun e w'' => e = .returned (.bool t) ∧ RowKit.Below w'.heap.size w' w'') := fun w' r t hb h => holds_kn (w.heap.size + 1 + 1) oa M oc of w' (HC.out.below hb).o3 (HI.out.below (HC.out.below hb).rest) HMl.out r t h
  obtain ⟨a, ha⟩ : ∃ a, Pm.holds (ofT of) X x = a := ⟨_, rfl⟩
  obtain ⟨b, hb⟩ : ∃ b, Pm.holds (ofT of) Y y = b := ⟨_, rfl⟩
  have HKx : Hid (∀ w', RowKit.Below V8.heap.size V8 w' → Knows (ofT of) w' (.agg #[.slice ax Nx cx, .int .i64 nx, .pointer qx]) a) := fun w' hb => by rw [← ha]; exact Gx.out.knows (by decide) (by decide) _ (HX.out.pb.below hb)
  have HKy : Hid (∀ w', RowKit.Below V8.heap.size V8 w' → Knows (ofT of) w' (.agg #[.slice ay Ny cy, .int .i64 ny, .pointer qy]) b) := fun w' hb' => by rw [← hb]; exact Gy.out.knows (by decide) (by decide) _ (HY.out.pb.below hb')
  have HXY : Hid (a = true → b = true → ∀ w', RowKit.Below V8.heap.size V8 w' → Calls Tryz.prog 21 #[.agg #[.slice ax Nx cx, .int .i64 nx, .pointer qx], .agg #[.slice ay Ny cy, .int .i64 ny, .pointer qy]] w' fun e w'' => ∃ r, e = .returned r ∧ Knows (ofT of) w'' r true ∧ RowKit.Below w'.heap.size w' w'') := fun h1 h2 w' hb' => by
    refine (add_gd _ _ X Y x y w' (HX.out.pb.below hb') (HY.out.pb.below hb') Gx.out Gy.out (by decide) (by decide) (by decide) (by decide)).mono ?_
    rintro e w'' ⟨r, K2, D2, rfl, hf, hp, hg, hbb⟩
    have := hg.knows (by decide) (by decide) (ofT of) hp
    rw [add_holds (ofT of) Gx.out Gy.out hf (ha.trans h1) (hb.trans h2)] at this
    exact ⟨r, rfl, this, hbb⟩
  have HXX : Hid (a = true → ∀ w', RowKit.Below V8.heap.size V8 w' → Calls Tryz.prog 21 #[.agg #[.slice ax Nx cx, .int .i64 nx, .pointer qx], .agg #[.slice ax Nx cx, .int .i64 nx, .pointer qx]] w' fun e w'' => ∃ r, e = .returned r ∧ Knows (ofT of) w'' r true ∧ RowKit.Below w'.heap.size w' w'') := fun h1 w' hb' => by
    refine (add_gd _ _ X X x x w' (HX.out.pb.below hb') (HX.out.pb.below hb') Gx.out Gx.out (by decide) (by decide) (by decide) (by decide)).mono ?_
    rintro e w'' ⟨r, K2, D2, rfl, hf, hp, hg, hbb⟩
    have := hg.knows (by decide) (by decide) (ofT of) hp
    rw [add_holds (ofT of) Gx.out Gx.out hf (ha.trans h1) (ha.trans h1)] at this
    exact ⟨r, rfl, this, hbb⟩
  have HWk : Hid (a = true → ∀ w', RowKit.Below V8.heap.size V8 w' → Calls Tryz.prog 22 #[.agg #[.slice ax Nx cx, .int .i64 nx, .pointer qx], .int .i64 v] w' fun e w'' => ∃ r, e = .returned r ∧ Knows (ofT of) w'' r true ∧ RowKit.Below w'.heap.size w' w'') := fun h1 w' hb' => by
    refine (weaken_any _ X x v w' (HX.out.pb.below hb') (Nat.le_trans Gx.out.len (by decide)) (Gx.out.mem (by decide)) (Nat.le_trans Gx.out.dg (by decide))).mono ?_
    rintro e w'' ⟨r, K2, D2, rfl, hp, hwk, hbb⟩
    obtain ⟨z1, z2, z3⟩ := weak_size Gx.out hwk
    exact ⟨r, rfl, ⟨K2, D2, hp, z3, Nat.le_trans z1 (by decide), Nat.le_trans (Nat.le_trans (limbs_len_monoP z2) Gx.out.ab) (by decide), weak_holds (ofT of) Gx.out hwk (ha.trans h1)⟩, hbb⟩
  have HSa : Hid (∀ w', RowKit.Below V8.heap.size V8 w' → Calls Tryz.prog 25 #[.agg #[.slice ax Nx cx, .int .i64 nx, .pointer qx]] w' fun e w'' => ∃ r, e = .returned r ∧ Knows (ofT of) w'' r a ∧ RowKit.Below w'.heap.size w' w'') := fun w' hb' => by
    refine (sat_gd _ X x w' (HX.out.pb.below hb') Gx.out (by decide) (by decide)).mono ?_
    rintro e w'' ⟨r, rfl, hp, hbb⟩
    exact ⟨r, rfl, ⟨_, _, hp, sat_lit Gx.out.lit, Nat.le_trans (sat_abs Gx.out).2 (by decide), Nat.le_trans (Nat.le_trans (limbs_len_monoP (sat_abs Gx.out).1) Gx.out.ab) (by decide), (sat_holds (ofT of) Gx.out).trans ha⟩, hbb⟩
  have HNe : Hid (∀ w', RowKit.Below V8.heap.size V8 w' → Calls Tryz.prog 26 #[.agg #[.slice ax Nx cx, .int .i64 nx, .pointer qx]] w' fun e w'' => ∃ r, e = .returned r ∧ Knows (ofT of) w'' r (!a) ∧ RowKit.Below w'.heap.size w' w'') := fun w' hb' => by
    refine (negate_any _ X x w' (HX.out.pb.below hb') Gx.out.lit (Nat.le_trans Gx.out.len (by decide)) (Nat.le_trans Gx.out.ab (by decide)) (Nat.le_trans Gx.out.dg (by decide)) (Nat.le_trans (by rw [Int.sub_eq_add_neg]; exact sumI_len Gx.out.total (by rw [Int.natAbs_neg]; exact Gx.out.dg)) (by decide))).mono ?_
    rintro e w'' ⟨r, rfl, hp, hbb⟩
    refine ⟨r, rfl, ⟨_, _, hp, fun p hp => ?_, ?_, by rw [turned_abs]; exact Nat.le_trans Gx.out.ab (by decide), by rw [neg_holds (ofT of) X x Gx.out.sound, ha]⟩, hbb⟩
    · obtain ⟨q', hq', e'⟩ := turned_mem hp
      rw [e']
      obtain ⟨z1, z2, z3⟩ := Gx.out.lit q' hq'
      exact ⟨by omega, by omega, by omega⟩
    · unfold Pm.turned
      rw [List.length_map]
      exact Nat.le_trans Gx.out.len (by decide)
  have HCn : Hid (∀ w', RowKit.Below V8.heap.size V8 w' → Calls Tryz.prog 27 #[.agg #[.slice ax Nx cx, .int .i64 nx, .pointer qx]] w' fun e w'' => e = .returned (.bool (decide (Pm.total X < x))) ∧ RowKit.Below w'.heap.size w' w'') := fun w' hb' => contra_any _ X x w' (HX.out.pb.below hb') (Nat.le_trans Gx.out.len (by decide)) (Nat.le_trans Gx.out.ab (by decide))
  have HCa : Hid (a = true → decide (Pm.total X < x) = false) := fun h1 => contra_holds (ofT of) Gx.out (ha.trans h1)
  generalize decide (Pm.total X < x) = cn at *
  have Ha : Hid (Pm.holds (ofT of) X x = a) := ha
  clear ha hb
  have HW : Hid (RowKit.Below V8.heap.size V8 V8.drew) := (Below.refl _ _).drew
  have HAl : Hid (∀ w', RowKit.Below V8.heap.size V8 w' → w'.cell? ⟨w5.heap.size, 0, none⟩ = some (.slice ax Nx cx) ∧ w'.cell? ⟨w5.heap.size, 1, none⟩ = some (.int .i64 nx) ∧ w'.cell? ⟨w5.heap.size, 2, none⟩ = some (.pointer qx) ∧ w'.cell? ⟨w6.heap.size, 0, none⟩ = some (.slice ay Ny cy) ∧ w'.cell? ⟨w6.heap.size, 1, none⟩ = some (.int .i64 ny) ∧ w'.cell? ⟨w6.heap.size, 2, none⟩ = some (.pointer qy) ∧ w'.cell? ⟨w8.heap.size, 0, none⟩ = some (.int .i64 nk) ∧ w'.cell? ⟨w8.heap.size, 1, none⟩ = some (.pointer qk)) := fun w' hb => by
    obtain ⟨x0, x1, x2⟩ := (HX.out.below hb).cells
    obtain ⟨y0, y1, y2⟩ := (HY.out.below hb).cells
    obtain ⟨p0, p1, _, _⟩ := box_facts ((hb.block _ (Array.getElem?_eq_some_iff.1 HO8.out).1).trans HO8.out)
    exact ⟨x0, x1, x2, y0, y1, y2, p0, p1⟩
  refine wp_region_T (fun w' => w'.cell? ⟨w5.heap.size, 0, none⟩ = some (.slice ax Nx cx) ∧ w'.cell? ⟨w5.heap.size, 1, none⟩ = some (.int .i64 nx) ∧ w'.cell? ⟨w5.heap.size, 2, none⟩ = some (.pointer qx) ∧ w'.cell? ⟨w6.heap.size, 0, none⟩ = some (.slice ay Ny cy) ∧ w'.cell? ⟨w6.heap.size, 1, none⟩ = some (.int .i64 ny) ∧ w'.cell? ⟨w6.heap.size, 2, none⟩ = some (.pointer qy) ∧ w'.cell? ⟨w8.heap.size, 0, none⟩ = some (.int .i64 nk) ∧ w'.cell? ⟨w8.heap.size, 1, none⟩ = some (.pointer qk)) (fun _ => True) [6, 7] (by kernel_rfl) ⟨HAl.out _ HW.out, trivial⟩ (fun hHeld => ?_)
  generalize V8.drew = U at HW hHeld ⊢
  refine wpAnyT_takeB (i := 0) (oi := ⟨some 68, .load 35 (.tmp 11), _, _, _, _⟩) (v := ?vR11c1x0) rfl (by kernel_rfl) (by kernel_rfl) (by kernel_rfl) (by kernel_rfl) (fun _ _ _ h => h) (Or.inl ⟨by rfl, ?hyR11c1x0⟩) (by assumption) ?restR11c1x0
  case hyR11c1x0 => (intro w hSw; (try dsimp only at hSw); go_simp; try (with_reducible rfl))
  try simp only [Act.put, List.setIfInBounds_toArray, List.set_cons_zero, List.set_cons_succ]
  refine wpAnyT_takeB (i := 1) (oi := ⟨some 69, .move (.tmp 17), _, _, _, _⟩) (v := ?vR11c1x1) rfl (by kernel_rfl) (by kernel_rfl) (by kernel_rfl) (by kernel_rfl) (fun _ _ _ h => h) (Or.inl ⟨by rfl, ?hyR11c1x1⟩) (by assumption) ?restR11c1x1
  case hyR11c1x1 => (intro w hSw; (try dsimp only at hSw); go_simp; try (with_reducible rfl))
  try simp only [Act.put, List.setIfInBounds_toArray, List.set_cons_zero, List.set_cons_succ]
  refine wpAnyT_takeB (i := 3) (oi := ⟨some 71, .load 35 (.tmp 13), _, _, _, _⟩) (v := ?vR11c1x3) rfl (by kernel_rfl) (by kernel_rfl) (by kernel_rfl) (by kernel_rfl) (fun _ _ _ h => h) (Or.inl ⟨by rfl, ?hyR11c1x3⟩) (by assumption) ?restR11c1x3
  case hyR11c1x3 => (intro w hSw; (try dsimp only at hSw); go_simp; try (with_reducible rfl))
  try simp only [Act.put, List.setIfInBounds_toArray, List.set_cons_zero, List.set_cons_succ]
  refine wpAnyT_takeB (i := 4) (oi := ⟨some 72, .move (.tmp 17), _, _, _, _⟩) (v := ?vR11c1x4) rfl (by kernel_rfl) (by kernel_rfl) (by kernel_rfl) (by kernel_rfl) (fun _ _ _ h => h) (Or.inl ⟨by rfl, ?hyR11c1x4⟩) (by assumption) ?restR11c1x4
  case hyR11c1x4 => (intro w hSw; (try dsimp only at hSw); go_simp; try (with_reducible rfl))
  try simp only [Act.put, List.setIfInBounds_toArray, List.set_cons_zero, List.set_cons_succ]
  refine wpAnyT_one (i := 2) (o := ⟨some 70, .call { callee := .value (.func 16), args := #[(.tmp 68), (.tmp 69)], argTypes := #[35, 49] }, _, _, _, _⟩) (by kernel_rfl) rfl (fun K hK => ?_)
  go_simp
  refine calls_at (HH.out U _ _ HW.out (HKx.out U HW.out)) (by with_reducible rfl) (by with_reducible rfl) ?_
  rintro e g1 ⟨rfl, hb⟩
  have HW : Hid (RowKit.Below V8.heap.size V8 g1) := HW.out.trans (hb.mono HW.out.size)
  clear hb
  go_wp2_with fail
  refine hK.out _ _ ⟨HAl.out _ HW.out, fun _ => trivial⟩ ?_
  have hHeld := (⟨HAl.out _ HW.out, trivial⟩ : _ ∧ True)
  clear hK K
  try simp only [Act.put, List.setIfInBounds_toArray, List.set_cons_zero, List.set_cons_succ]
  refine wpAnyT_one (i := 5) (o := ⟨some 73, .call { callee := .value (.func 16), args := #[(.tmp 71), (.tmp 72)], argTypes := #[35, 49] }, _, _, _, _⟩) (by kernel_rfl) rfl (fun K hK => ?_)
  go_simp
  refine calls_at (HH.out g1 _ _ HW.out (HKy.out g1 HW.out)) (by with_reducible rfl) (by with_reducible rfl) ?_
  rintro e g2 ⟨rfl, hb⟩
  have HW : Hid (RowKit.Below V8.heap.size V8 g2) := HW.out.trans (hb.mono HW.out.size)
  clear hb
  go_wp2_with fail
  refine hK.out _ _ ⟨HAl.out _ HW.out, fun _ => trivial⟩ ?_
  have hHeld := (⟨HAl.out _ HW.out, trivial⟩ : _ ∧ True)
  clear hK K
  try simp only [Act.put, List.setIfInBounds_toArray, List.set_cons_zero, List.set_cons_succ]
  refine wpAnyT_late (i := 6) (o := ⟨some 18, .assign (.tmp 70), _, _, _, _⟩) (by kernel_rfl) rfl (by kernel_rfl) (fun K hK => ?_)
  go_simp
  refine hK.out _ _ ?shR11c1x6 ?restR11c1x6
  case shR11c1x6 => ((try dsimp only); exact HAl.out _ HW.out)
  clear hK K
  try simp only [Act.put, List.setIfInBounds_toArray, List.set_cons_zero, List.set_cons_succ]
  refine wpAnyT_late (i := 7) (o := ⟨some 19, .assign (.tmp 73), _, _, _, _⟩) (by kernel_rfl) rfl (by kernel_rfl) (fun K hK => ?_)
  go_simp
  refine hK.out _ _ ?shR11c1x7 ?restR11c1x7
  case shR11c1x7 => ((try dsimp only); exact HAl.out _ HW.out)
  clear hK K
  try simp only [Act.put, List.setIfInBounds_toArray, List.set_cons_zero, List.set_cons_succ]
  refine wpAnyT_done (by kernel_rfl) ?_ _
  clear hHeld
  go_upto_region 12 with fail
  go_cut [107] from 24 to 181 (fun s107 wx => s107 = .bool false ∧ Hid (RowKit.Below V8.heap.size V8 wx))
  case first =>
    obtain ⟨x0, x1, x2, y0, y1, y2, _, _⟩ := HAl.out _ HW.out
    cases a with
    | false =>
      cases b with
      | false =>
        go_wp2_with fail
        go_meet
        case rel => exact ⟨rfl, HW⟩
      | true =>
        go_wp2_with fail
        go_meet
        case rel => exact ⟨rfl, HW⟩
    | true =>
      have HQX : Hid (∀ w', RowKit.Below V8.heap.size V8 w' → Calls Tryz.prog 21 #[.agg #[.slice ax Nx cx, .int .i64 nx, .pointer qx], .agg #[.slice ax Nx cx, .int .i64 nx, .pointer qx]] w' fun e w'' => ∃ r, e = .returned r ∧ Knows (ofT of) w'' r true ∧ RowKit.Below w'.heap.size w' w'') := HXX.out rfl
      have HQW : Hid (∀ w', RowKit.Below V8.heap.size V8 w' → Calls Tryz.prog 22 #[.agg #[.slice ax Nx cx, .int .i64 nx, .pointer qx], .int .i64 v] w' fun e w'' => ∃ r, e = .returned r ∧ Knows (ofT of) w'' r true ∧ RowKit.Below w'.heap.size w' w'') := HWk.out rfl
      cases b with
      | false =>
        go_wp2_with (first | (go_at_call 21; first | refine calls_at (HQX.out _ HW.out) (by with_reducible rfl) (by with_reducible rfl) ?_); (rintro e wn ⟨rr, rfl, hg, hb⟩; have HR : Hid (Knows (ofT of) wn rr true) := hg; clear hg; have HW : Hid (RowKit.Below V8.heap.size V8 wn) := HW.out.trans (hb.mono HW.out.size); obtain ⟨x0, x1, x2, y0, y1, y2, _, _⟩ := HAl.out _ HW.out; clear hb) | (go_at_call 22; refine calls_at (HQW.out _ HW.out) (by with_reducible rfl) (by with_reducible rfl) ?_; rintro e wn ⟨rr, rfl, hg, hb⟩; have HR : Hid (Knows (ofT of) wn rr true) := hg; clear hg; have HW : Hid (RowKit.Below V8.heap.size V8 wn) := HW.out.trans (hb.mono HW.out.size); obtain ⟨x0, x1, x2, y0, y1, y2, _, _⟩ := HAl.out _ HW.out; clear hb) | (go_at_call 16; refine calls_at (HH.out _ _ _ HW.out HR.out) (by with_reducible rfl) (by with_reducible rfl) ?_; rintro e wn ⟨rfl, hb⟩; have HW : Hid (RowKit.Below V8.heap.size V8 wn) := HW.out.trans (hb.mono HW.out.size); obtain ⟨x0, x1, x2, y0, y1, y2, _, _⟩ := HAl.out _ HW.out; clear hb))
        go_meet
        case rel => exact ⟨rfl, HW⟩
      | true =>
        have HQY : Hid (∀ w', RowKit.Below V8.heap.size V8 w' → Calls Tryz.prog 21 #[.agg #[.slice ax Nx cx, .int .i64 nx, .pointer qx], .agg #[.slice ay Ny cy, .int .i64 ny, .pointer qy]] w' fun e w'' => ∃ r, e = .returned r ∧ Knows (ofT of) w'' r true ∧ RowKit.Below w'.heap.size w' w'') := HXY.out rfl rfl
        go_wp2_with (first | (go_at_call 21; first | refine calls_at (HQY.out _ HW.out) (by with_reducible rfl) (by with_reducible rfl) ?_ | refine calls_at (HQX.out _ HW.out) (by with_reducible rfl) (by with_reducible rfl) ?_); (rintro e wn ⟨rr, rfl, hg, hb⟩; have HR : Hid (Knows (ofT of) wn rr true) := hg; clear hg; have HW : Hid (RowKit.Below V8.heap.size V8 wn) := HW.out.trans (hb.mono HW.out.size); obtain ⟨x0, x1, x2, y0, y1, y2, _, _⟩ := HAl.out _ HW.out; clear hb) | (go_at_call 22; refine calls_at (HQW.out _ HW.out) (by with_reducible rfl) (by with_reducible rfl) ?_; rintro e wn ⟨rr, rfl, hg, hb⟩; have HR : Hid (Knows (ofT of) wn rr true) := hg; clear hg; have HW : Hid (RowKit.Below V8.heap.size V8 wn) := HW.out.trans (hb.mono HW.out.size); obtain ⟨x0, x1, x2, y0, y1, y2, _, _⟩ := HAl.out _ HW.out; clear hb) | (go_at_call 16; refine calls_at (HH.out _ _ _ HW.out HR.out) (by with_reducible rfl) (by with_reducible rfl) ?_; rintro e wn ⟨rfl, hb⟩; have HW : Hid (RowKit.Below V8.heap.size V8 wn) := HW.out.trans (hb.mono HW.out.size); obtain ⟨x0, x1, x2, y0, y1, y2, _, _⟩ := HAl.out _ HW.out; clear hb))
        go_meet
        case rel => exact ⟨rfl, HW⟩
  case rest =>
  obtain ⟨rfl, hW⟩ := hcut
  have HW : Hid (RowKit.Below V8.heap.size V8 wc) := hW
  clear hW HXY HXX HWk HKy
  obtain ⟨x0, x1, x2, _, _, _, p0, p1⟩ := HAl.out wc HW.out
  go_wp2_with fail
  refine (times_any _ X x _ k wc (HX.out.pb.below HW.out) (HB.out.below HW.out) (Nat.le_trans Gx.out.len (by decide)) (Gx.out.mem (by decide)) (Nat.le_trans Gx.out.dg (by decide)) (Nat.le_trans Hkl.out (by decide))).mono ?_
  rintro e we ⟨r, K', D', cm0, rfl, hp, hb, hpos, hneg⟩
  have HT1 : Hid (0 < k → cm0 = 0 ∧ Knows (ofT of) we r a) := fun h => by
    obtain ⟨e1, e2, e3⟩ := hpos h
    rw [e2, e3] at hp
    exact ⟨e1, _, _, hp, chg_lit Gx.out.lit, by rw [chg_len]; exact Nat.le_trans Gx.out.len (by decide), by rw [times_abs]; exact Nat.le_trans (mul_len Hkl.out Gx.out.ab) (by decide), (times_holds (ofT of) h X x).trans Ha.out⟩
  have HT2 : Hid (k < 1 → cm0 = 22) := fun h => (hneg h).1
  obtain ⟨am, cm, nm, qm, rfl, hi1, hi2⟩ := hp
  clear hi1 hi2 hpos hneg
  generalize K'.length = Nm at *
  obtain ⟨Vm, hVm⟩ : ∃ V, we.alloc (.cells #[.slice am Nm cm, .int .i64 nm, .pointer qm] 35) = V := ⟨_, rfl⟩
  obtain ⟨hOm, hbm⟩ := new_obj we _ hVm
  have HWm : Hid (RowKit.Below V8.heap.size V8 Vm) := (HW.out.trans (hb.mono HW.out.size)).trans (hbm.mono (Nat.le_trans HW.out.size hb.size))
  have HT1 : Hid (0 < k → cm0 = 0 ∧ Knows (ofT of) Vm (.agg #[.slice am Nm cm, .int .i64 nm, .pointer qm]) a) := fun h => ⟨(HT1.out h).1, (HT1.out h).2.below hbm⟩
  have HOm : Hid (Vm.heap[we.heap.size]? = some (.cells #[.slice am Nm cm, .int .i64 nm, .pointer qm] 35)) := hOm
  clear x0 x1 x2 p0 p1 hb hbm hOm
  obtain ⟨x0, x1, x2, _, _, _, p0, p1⟩ := HAl.out Vm HWm.out
  go_wp2_with fail
  refine (div_any _ X x _ k Vm (HX.out.pb.below HWm.out) (HB.out.below HWm.out) (Nat.le_trans Gx.out.len (by decide)) (Gx.out.mem (by decide)) (Nat.le_trans Gx.out.dg (by decide))).mono ?_
  rintro e wf ⟨r, K2, D2, cd0, rfl, hp, hb, hpos, hneg⟩
  have HD1 : Hid (0 < k → cd0 = 0 ∧ (a = true → Knows (ofT of) wf r true)) := fun h => by
    obtain ⟨e1, e2, e3⟩ := hpos h
    rw [e2, e3] at hp
    exact ⟨e1, fun h1 => ⟨_, _, hp, chg_lit Gx.out.lit, by rw [chg_len]; exact Nat.le_trans Gx.out.len (by decide), Nat.le_trans (Nat.le_trans (limbs_len_monoP (div_abs h Gx.out.sound)) Gx.out.ab) (by decide), div_holds (ofT of) h X x (Ha.out.trans h1)⟩⟩
  have HD2 : Hid (k < 1 → cd0 = 22) := fun h => (hneg h).1
  obtain ⟨ad, cd, nd, qd, rfl, hi1, hi2⟩ := hp
  clear hi1 hi2 hpos hneg
  generalize K2.length = Nd at *
  obtain ⟨Vd, hVd⟩ : ∃ V, wf.alloc (.cells #[.slice ad Nd cd, .int .i64 nd, .pointer qd] 35) = V := ⟨_, rfl⟩
  obtain ⟨hOd, hbd⟩ := new_obj wf _ hVd
  have hbmd : RowKit.Below Vm.heap.size Vm Vd := hb.trans (hbd.mono hb.size)
  have HWd : Hid (RowKit.Below V8.heap.size V8 Vd) := HWm.out.trans (hbmd.mono HWm.out.size)
  have HD1 : Hid (0 < k → cd0 = 0 ∧ (a = true → Knows (ofT of) Vd (.agg #[.slice ad Nd cd, .int .i64 nd, .pointer qd]) true)) := fun h => ⟨(HD1.out h).1, fun h1 => ((HD1.out h).2 h1).below hbd⟩
  have HT1 : Hid (0 < k → cm0 = 0 ∧ Knows (ofT of) Vd (.agg #[.slice am Nm cm, .int .i64 nm, .pointer qm]) a) := fun h => ⟨(HT1.out h).1, (HT1.out h).2.below hbmd⟩
  have HOm : Hid (Vd.heap[we.heap.size]? = some (.cells #[.slice am Nm cm, .int .i64 nm, .pointer qm] 35)) := (hbmd.block _ (Array.getElem?_eq_some_iff.1 HOm.out).1).trans HOm.out
  have HOd : Hid (Vd.heap[wf.heap.size]? = some (.cells #[.slice ad Nd cd, .int .i64 nd, .pointer qd] 35)) := hOd
  have HVd : Hid (∀ w', RowKit.Below Vd.heap.size Vd w' → RowKit.Below V8.heap.size V8 w') := fun w' h => HWd.out.trans (h.mono HWd.out.size)
  have HA9 : Hid (∀ w', RowKit.Below Vd.heap.size Vd w' → w'.cell? ⟨w5.heap.size, 0, none⟩ = some (.slice ax Nx cx) ∧ w'.cell? ⟨w5.heap.size, 1, none⟩ = some (.int .i64 nx) ∧ w'.cell? ⟨w5.heap.size, 2, none⟩ = some (.pointer qx) ∧ w'.cell? ⟨w8.heap.size, 0, none⟩ = some (.int .i64 nk) ∧ w'.cell? ⟨w8.heap.size, 1, none⟩ = some (.pointer qk) ∧ w'.cell? ⟨we.heap.size, 0, none⟩ = some (.slice am Nm cm) ∧ w'.cell? ⟨we.heap.size, 1, none⟩ = some (.int .i64 nm) ∧ w'.cell? ⟨we.heap.size, 2, none⟩ = some (.pointer qm) ∧ w'.cell? ⟨wf.heap.size, 0, none⟩ = some (.slice ad Nd cd) ∧ w'.cell? ⟨wf.heap.size, 1, none⟩ = some (.int .i64 nd) ∧ w'.cell? ⟨wf.heap.size, 2, none⟩ = some (.pointer qd)) := fun w' h => by
    obtain ⟨x0, x1, x2, _, _, _, p0, p1⟩ := HAl.out w' (HVd.out w' h)
    obtain ⟨m0, m1, m2, _, _, _⟩ := box3_facts ((h.block _ (Array.getElem?_eq_some_iff.1 HOm.out).1).trans HOm.out)
    obtain ⟨d0, d1, d2, _, _, _⟩ := box3_facts ((h.block _ (Array.getElem?_eq_some_iff.1 HOd.out).1).trans HOd.out)
    exact ⟨x0, x1, x2, p0, p1, m0, m1, m2, d0, d1, d2⟩
  have HSg : Hid (∀ w', RowKit.Below Vd.heap.size Vd w' → Calls Tryz.prog 15 #[.agg #[.int .i64 nk, .pointer qk]] w' fun e w'' => e = .returned (.int .i64 k.sign) ∧ RowKit.Below w'.heap.size w' w'') := fun w' h => sign_big k _ w' (HB.out.below (HVd.out w' h))
  clear x0 x1 x2 p0 p1 hb hbd hOd hbmd HAl hVm
  go_wp2_with fail
  have HW : Hid (RowKit.Below Vd.heap.size Vd Vd.drew) := (Below.refl _ _).drew
  by_cases hk : 0 < k
  case pos =>
    obtain ⟨rfl, hkm⟩ := HT1.out hk
    obtain ⟨rfl, hkd⟩ := HD1.out hk
    have HKm : Hid (∀ w', RowKit.Below Vd.heap.size Vd w' → Knows (ofT of) w' (.agg #[.slice am Nm cm, .int .i64 nm, .pointer qm]) a) := fun w' h => hkm.below h
    have HKd : Hid (a = true → ∀ w', RowKit.Below Vd.heap.size Vd w' → Knows (ofT of) w' (.agg #[.slice ad Nd cd, .int .i64 nd, .pointer qd]) true) := fun h1 w' h => (hkd h1).below h
    have hsg : 0 < k.sign := by rw [Int.sign_eq_one_of_pos hk]; decide
    clear hkm hkd
    generalize k.sign = sg at *
    refine wp_region_T (fun w' => w'.cell? ⟨w5.heap.size, 0, none⟩ = some (.slice ax Nx cx) ∧ w'.cell? ⟨w5.heap.size, 1, none⟩ = some (.int .i64 nx) ∧ w'.cell? ⟨w5.heap.size, 2, none⟩ = some (.pointer qx) ∧ w'.cell? ⟨w8.heap.size, 0, none⟩ = some (.int .i64 nk) ∧ w'.cell? ⟨w8.heap.size, 1, none⟩ = some (.pointer qk) ∧ w'.cell? ⟨we.heap.size, 0, none⟩ = some (.slice am Nm cm) ∧ w'.cell? ⟨we.heap.size, 1, none⟩ = some (.int .i64 nm) ∧ w'.cell? ⟨we.heap.size, 2, none⟩ = some (.pointer qm) ∧ w'.cell? ⟨wf.heap.size, 0, none⟩ = some (.slice ad Nd cd) ∧ w'.cell? ⟨wf.heap.size, 1, none⟩ = some (.int .i64 nd) ∧ w'.cell? ⟨wf.heap.size, 2, none⟩ = some (.pointer qd)) (fun _ => True) [] (by kernel_rfl) ⟨HA9.out _ HW.out, trivial⟩ (fun hHeld => ?_)
    generalize Vd.drew = U at HW hHeld ⊢
    refine wpAnyT_takeB (i := 0) (oi := ⟨some 120, .move (.tmp 21), _, _, _, _⟩) (v := ?vq1) rfl (by kernel_rfl) (by kernel_rfl) (by kernel_rfl) (by kernel_rfl) (fun _ _ _ h => h) (Or.inl ⟨by rfl, ?hyq1⟩) (by assumption) ?restq1
    case hyq1 => (intro w hSw; (try dsimp only at hSw); go_simp; try (with_reducible rfl))
    try simp only [Act.put, List.setIfInBounds_toArray, List.set_cons_zero, List.set_cons_succ]
    refine wpAnyT_takeB (i := 1) (oi := ⟨some 121, .move (.tmp 23), _, _, _, _⟩) (v := ?vq2) rfl (by kernel_rfl) (by kernel_rfl) (by kernel_rfl) (by kernel_rfl) (fun _ _ _ h => h) (Or.inl ⟨by rfl, ?hyq2⟩) (by assumption) ?restq2
    case hyq2 => (intro w hSw; (try dsimp only at hSw); go_simp; try (with_reducible rfl))
    try simp only [Act.put, List.setIfInBounds_toArray, List.set_cons_zero, List.set_cons_succ]
    refine wpAnyT_takeB (i := 2) (oi := ⟨some 122, .binOp .neq 36 (.tmp 120) (.tmp 121) 36, _, _, _, _⟩) (v := ?vq3) rfl (by kernel_rfl) (by kernel_rfl) (by kernel_rfl) (by kernel_rfl) (fun _ _ _ h => h) (Or.inl ⟨by rfl, ?hyq3⟩) (by assumption) ?restq3
    case hyq3 => (intro w hSw; (try dsimp only at hSw); go_simp; try (with_reducible rfl))
    try simp only [Act.put, List.setIfInBounds_toArray, List.set_cons_zero, List.set_cons_succ]
    refine wpAnyT_takeB (i := 3) (oi := ⟨some 123, .move (.tmp 122), _, _, _, _⟩) (v := ?vq4) rfl (by kernel_rfl) (by kernel_rfl) (by kernel_rfl) (by kernel_rfl) (fun _ _ _ h => h) (Or.inl ⟨by rfl, ?hyq4⟩) (by assumption) ?restq4
    case hyq4 => (intro w hSw; (try dsimp only at hSw); go_simp; try (with_reducible rfl))
    try simp only [Act.put, List.setIfInBounds_toArray, List.set_cons_zero, List.set_cons_succ]
    refine wpAnyT_takeB (i := 4) (oi := ⟨some 124, .move (.tmp 21), _, _, _, _⟩) (v := ?vq5) rfl (by kernel_rfl) (by kernel_rfl) (by kernel_rfl) (by kernel_rfl) (fun _ _ _ h => h) (Or.inl ⟨by rfl, ?hyq5⟩) (by assumption) ?restq5
    case hyq5 => (intro w hSw; (try dsimp only at hSw); go_simp; try (with_reducible rfl))
    try simp only [Act.put, List.setIfInBounds_toArray, List.set_cons_zero, List.set_cons_succ]
    refine wpAnyT_takeB (i := 7) (oi := ⟨some 127, .load 33 (.tmp 15), _, _, _, _⟩) (v := ?vq6) rfl (by kernel_rfl) (by kernel_rfl) (by kernel_rfl) (by kernel_rfl) (fun _ _ _ h => h) (Or.inl ⟨by rfl, ?hyq6⟩) (by assumption) ?restq6
    case hyq6 => (intro w hSw; (try dsimp only at hSw); go_simp; try (with_reducible rfl))
    try simp only [Act.put, List.setIfInBounds_toArray, List.set_cons_zero, List.set_cons_succ]
    refine wpAnyT_one (i := 5) (o := ⟨some 125, .call { callee := .value (.func 11), args := #[(.tmp 124)], argTypes := #[36] }, _, _, _, _⟩) (by kernel_rfl) rfl (fun Kq hK => ?_)
    go_simp
    refine calls_at (HNu.out 0 U) (by with_reducible rfl) (by with_reducible rfl) ?_
    rintro e wq ⟨rfl, hww⟩
    rw [hww]
    clear hww
    go_wp2_with fail
    refine hK.out _ _ ⟨HA9.out _ HW.out, fun _ => trivial⟩ ?_
    have hHeld := (⟨HA9.out _ HW.out, trivial⟩ : _ ∧ True)
    clear hK Kq
    try simp only [Act.put, List.setIfInBounds_toArray, List.set_cons_zero, List.set_cons_succ]
    refine wpAnyT_takeB (i := 6) (oi := ⟨some 126, .binOp .eql 3 (.tmp 125) (.const (.int .i64 0)) 3, _, _, _, _⟩) (v := ?vq7) rfl (by kernel_rfl) (by kernel_rfl) (by kernel_rfl) (by kernel_rfl) (fun _ _ _ h => h) (Or.inl ⟨by rfl, ?hyq7⟩) (by assumption) ?restq7
    case hyq7 => (intro w hSw; (try dsimp only at hSw); go_simp; try (with_reducible rfl))
    try simp only [Act.put, List.setIfInBounds_toArray, List.set_cons_zero, List.set_cons_succ]
    refine wpAnyT_one (i := 8) (o := ⟨some 128, .call { callee := .value (.func 15), args := #[(.tmp 127)], argTypes := #[33] }, _, _, _, _⟩) (by kernel_rfl) rfl (fun Kq hK => ?_)
    go_simp
    refine calls_at (HSg.out U HW.out) (by with_reducible rfl) (by with_reducible rfl) ?_
    rintro e gs ⟨rfl, hb⟩
    have HW : Hid (RowKit.Below Vd.heap.size Vd gs) := HW.out.trans (hb.mono HW.out.size)
    clear hb
    go_wp2_with fail
    refine hK.out _ _ ⟨HA9.out _ HW.out, fun _ => trivial⟩ ?_
    have hHeld := (⟨HA9.out _ HW.out, trivial⟩ : _ ∧ True)
    clear hK Kq
    try simp only [Act.put, List.setIfInBounds_toArray, List.set_cons_zero, List.set_cons_succ]
    refine wpAnyT_takeB (i := 9) (oi := ⟨some 129, .binOp .gtr 3 (.tmp 128) (.const (.int .i64 0)) 3, _, _, _, _⟩) (v := .bool true) rfl (by kernel_rfl) (by kernel_rfl) (by kernel_rfl) (by kernel_rfl) (fun _ _ _ h => h) (Or.inl ⟨by rfl, ?hyq8⟩) (by assumption) ?restq8
    case hyq8 => (intro w hSw; go_simp; try simp [hsg]; try (with_reducible rfl))
    try simp only [Act.put, List.setIfInBounds_toArray, List.set_cons_zero, List.set_cons_succ]
    refine wpAnyT_takeB (i := 10) (oi := ⟨some 130, .binOp .neq 4 (.tmp 126) (.tmp 129) 4, _, _, _, _⟩) (v := ?vq9) rfl (by kernel_rfl) (by kernel_rfl) (by kernel_rfl) (by kernel_rfl) (fun _ _ _ h => h) (Or.inl ⟨by rfl, ?hyq9⟩) (by assumption) ?restq9
    case hyq9 => (intro w hSw; (try dsimp only at hSw); go_simp; try (with_reducible rfl))
    try simp only [Act.put, List.setIfInBounds_toArray, List.set_cons_zero, List.set_cons_succ]
    refine wpAnyT_takeB (i := 11) (oi := ⟨some 131, .pick (.tmp 123) (.const (.bool true)) (.tmp 130), _, _, _, _⟩) (v := ?vq10) rfl (by kernel_rfl) (by kernel_rfl) (by kernel_rfl) (by kernel_rfl) (fun _ _ _ h => h) (Or.inl ⟨by rfl, ?hyq10⟩) (by assumption) ?restq10
    case hyq10 => (intro w hSw; (try dsimp only at hSw); go_simp; try (with_reducible rfl))
    try simp only [Act.put, List.setIfInBounds_toArray, List.set_cons_zero, List.set_cons_succ]
    refine wpAnyT_takeB (i := 12) (oi := ⟨some 132, .move (.tmp 131), _, _, _, _⟩) (v := ?vq11) rfl (by kernel_rfl) (by kernel_rfl) (by kernel_rfl) (by kernel_rfl) (fun _ _ _ h => h) (Or.inl ⟨by rfl, ?hyq11⟩) (by assumption) ?restq11
    case hyq11 => (intro w hSw; (try dsimp only at hSw); go_simp; try (with_reducible rfl))
    try simp only [Act.put, List.setIfInBounds_toArray, List.set_cons_zero, List.set_cons_succ]
    refine wpAnyT_takeB (i := 13) (oi := ⟨some 133, .move (.tmp 21), _, _, _, _⟩) (v := ?vq12) rfl (by kernel_rfl) (by kernel_rfl) (by kernel_rfl) (by kernel_rfl) (fun _ _ _ h => h) (Or.inl ⟨by rfl, ?hyq12⟩) (by assumption) ?restq12
    case hyq12 => (intro w hSw; (try dsimp only at hSw); go_simp; try (with_reducible rfl))
    try simp only [Act.put, List.setIfInBounds_toArray, List.set_cons_zero, List.set_cons_succ]
    refine wpAnyT_one (i := 14) (o := ⟨some 134, .call { callee := .value (.func 11), args := #[(.tmp 133)], argTypes := #[36] }, _, _, _, _⟩) (by kernel_rfl) rfl (fun Kq hK => ?_)
    go_simp
    refine calls_at (HNu.out 0 gs) (by with_reducible rfl) (by with_reducible rfl) ?_
    rintro e wq ⟨rfl, hww⟩
    rw [hww]
    clear hww
    go_wp2_with fail
    refine hK.out _ _ ⟨HA9.out _ HW.out, fun _ => trivial⟩ ?_
    have hHeld := (⟨HA9.out _ HW.out, trivial⟩ : _ ∧ True)
    clear hK Kq
    try simp only [Act.put, List.setIfInBounds_toArray, List.set_cons_zero, List.set_cons_succ]
    refine wpAnyT_takeB (i := 15) (oi := ⟨some 135, .binOp .neq 3 (.tmp 134) (.const (.int .i64 0)) 3, _, _, _, _⟩) (v := ?vq13) rfl (by kernel_rfl) (by kernel_rfl) (by kernel_rfl) (by kernel_rfl) (fun _ _ _ h => h) (Or.inl ⟨by rfl, ?hyq13⟩) (by assumption) ?restq13
    case hyq13 => (intro w hSw; (try dsimp only at hSw); go_simp; try (with_reducible rfl))
    try simp only [Act.put, List.setIfInBounds_toArray, List.set_cons_zero, List.set_cons_succ]
    refine wpAnyT_takeB (i := 16) (oi := ⟨some 136, .move (.tmp 135), _, _, _, _⟩) (v := ?vq14) rfl (by kernel_rfl) (by kernel_rfl) (by kernel_rfl) (by kernel_rfl) (fun _ _ _ h => h) (Or.inl ⟨by rfl, ?hyq14⟩) (by assumption) ?restq14
    case hyq14 => (intro w hSw; (try dsimp only at hSw); go_simp; try (with_reducible rfl))
    try simp only [Act.put, List.setIfInBounds_toArray, List.set_cons_zero, List.set_cons_succ]
    refine wpAnyT_takeB (i := 17) (oi := ⟨some 137, .move (.tmp 21), _, _, _, _⟩) (v := undef) rfl (by kernel_rfl) (by kernel_rfl) (by kernel_rfl) (by kernel_rfl) (fun _ _ _ h => h) (Or.inr ⟨by rfl, rfl⟩) (by assumption) ?restq15
    try simp only [Act.put, List.setIfInBounds_toArray, List.set_cons_zero, List.set_cons_succ]
    refine wpAnyT_one (i := 18) (o := ⟨some 138, .call { callee := .value (.func 11), args := #[(.tmp 137)], argTypes := #[36] }, _, _, _, _⟩) (by kernel_rfl) rfl (fun Kq hK => ?_)
    go_simp
    refine hK.out _ _ ⟨HA9.out _ HW.out, fun _ => trivial⟩ ?_
    have hHeld := (⟨HA9.out _ HW.out, trivial⟩ : _ ∧ True)
    clear hK Kq
    try simp only [Act.put, List.setIfInBounds_toArray, List.set_cons_zero, List.set_cons_succ]
    refine wpAnyT_takeB (i := 19) (oi := ⟨some 139, .binOp .neq 3 (.tmp 138) (.const (.int .i64 22)) 3, _, _, _, _⟩) (v := undef) rfl (by kernel_rfl) (by kernel_rfl) (by kernel_rfl) (by kernel_rfl) (fun _ _ _ h => h) (Or.inr ⟨by rfl, rfl⟩) (by assumption) ?restq16
    try simp only [Act.put, List.setIfInBounds_toArray, List.set_cons_zero, List.set_cons_succ]
    refine wpAnyT_takeB (i := 20) (oi := ⟨some 140, .pick (.tmp 136) (.tmp 139) (.const (.bool false)), _, _, _, _⟩) (v := ?vq17) rfl (by kernel_rfl) (by kernel_rfl) (by kernel_rfl) (by kernel_rfl) (fun _ _ _ h => h) (Or.inl ⟨by rfl, ?hyq17⟩) (by assumption) ?restq17
    case hyq17 => (intro w hSw; (try dsimp only at hSw); go_simp; try (with_reducible rfl))
    try simp only [Act.put, List.setIfInBounds_toArray, List.set_cons_zero, List.set_cons_succ]
    refine wpAnyT_takeB (i := 21) (oi := ⟨some 141, .pick (.tmp 132) (.const (.bool true)) (.tmp 140), _, _, _, _⟩) (v := ?vq18) rfl (by kernel_rfl) (by kernel_rfl) (by kernel_rfl) (by kernel_rfl) (fun _ _ _ h => h) (Or.inl ⟨by rfl, ?hyq18⟩) (by assumption) ?restq18
    case hyq18 => (intro w hSw; (try dsimp only at hSw); go_simp; try (with_reducible rfl))
    try simp only [Act.put, List.setIfInBounds_toArray, List.set_cons_zero, List.set_cons_succ]
    refine wpAnyT_done (by kernel_rfl) ?_ _
    obtain ⟨x0, x1, x2, p0, p1, m0, m1, m2, d0, d1', d2'⟩ := HA9.out _ HW.out
    clear hHeld
    cases a with
    | false =>
      cases cn with
      | false =>
        go_wp2_with (first | (go_at_call 11; refine calls_at (HNu.out 0 _) (by with_reducible rfl) (by with_reducible rfl) ?_; rintro e wq ⟨rfl, hww⟩; rw [hww]; clear hww) | (go_at_call 25; refine calls_at (HSa.out _ (HVd.out _ HW.out)) (by with_reducible rfl) (by with_reducible rfl) ?_; rintro e wn ⟨rr, rfl, hg, hb⟩; have HR : Hid (Knows (ofT of) wn rr _) := hg; clear hg; have HW : Hid (RowKit.Below Vd.heap.size Vd wn) := HW.out.trans (hb.mono HW.out.size); obtain ⟨x0, x1, x2, p0, p1, m0, m1, m2, d0, d1', d2'⟩ := HA9.out _ HW.out; clear hb) | (go_at_call 26; refine calls_at (HNe.out _ (HVd.out _ HW.out)) (by with_reducible rfl) (by with_reducible rfl) ?_; rintro e wn ⟨rr, rfl, hg, hb⟩; have HR : Hid (Knows (ofT of) wn rr _) := hg; clear hg; have HW : Hid (RowKit.Below Vd.heap.size Vd wn) := HW.out.trans (hb.mono HW.out.size); obtain ⟨x0, x1, x2, p0, p1, m0, m1, m2, d0, d1', d2'⟩ := HA9.out _ HW.out; clear hb) | (go_at_call 27; refine calls_at (HCn.out _ (HVd.out _ HW.out)) (by with_reducible rfl) (by with_reducible rfl) ?_; rintro e wn ⟨rfl, hb⟩; have HW : Hid (RowKit.Below Vd.heap.size Vd wn) := HW.out.trans (hb.mono HW.out.size); obtain ⟨x0, x1, x2, p0, p1, m0, m1, m2, d0, d1', d2'⟩ := HA9.out _ HW.out; clear hb) | (go_at_call 16; first | refine calls_at (HH.out _ _ _ (HVd.out _ HW.out) (HKm.out _ HW.out)) (by with_reducible rfl) (by with_reducible rfl) ?_ | refine calls_at (HH.out _ _ _ (HVd.out _ HW.out) HR.out) (by with_reducible rfl) (by with_reducible rfl) ?_); (rintro e wn ⟨rfl, hb⟩; have HW : Hid (RowKit.Below Vd.heap.size Vd wn) := HW.out.trans (hb.mono HW.out.size); obtain ⟨x0, x1, x2, p0, p1, m0, m1, m2, d0, d1', d2'⟩ := HA9.out _ HW.out; clear hb))
        go_ret
        exact ⟨rfl, HC.out.rest.trans ((HVd.out _ HW.out).mono HC.out.rest.size)⟩
      | true =>
        go_wp2_with (first | (go_at_call 11; refine calls_at (HNu.out 0 _) (by with_reducible rfl) (by with_reducible rfl) ?_; rintro e wq ⟨rfl, hww⟩; rw [hww]; clear hww) | (go_at_call 25; refine calls_at (HSa.out _ (HVd.out _ HW.out)) (by with_reducible rfl) (by with_reducible rfl) ?_; rintro e wn ⟨rr, rfl, hg, hb⟩; have HR : Hid (Knows (ofT of) wn rr _) := hg; clear hg; have HW : Hid (RowKit.Below Vd.heap.size Vd wn) := HW.out.trans (hb.mono HW.out.size); obtain ⟨x0, x1, x2, p0, p1, m0, m1, m2, d0, d1', d2'⟩ := HA9.out _ HW.out; clear hb) | (go_at_call 26; refine calls_at (HNe.out _ (HVd.out _ HW.out)) (by with_reducible rfl) (by with_reducible rfl) ?_; rintro e wn ⟨rr, rfl, hg, hb⟩; have HR : Hid (Knows (ofT of) wn rr _) := hg; clear hg; have HW : Hid (RowKit.Below Vd.heap.size Vd wn) := HW.out.trans (hb.mono HW.out.size); obtain ⟨x0, x1, x2, p0, p1, m0, m1, m2, d0, d1', d2'⟩ := HA9.out _ HW.out; clear hb) | (go_at_call 27; refine calls_at (HCn.out _ (HVd.out _ HW.out)) (by with_reducible rfl) (by with_reducible rfl) ?_; rintro e wn ⟨rfl, hb⟩; have HW : Hid (RowKit.Below Vd.heap.size Vd wn) := HW.out.trans (hb.mono HW.out.size); obtain ⟨x0, x1, x2, p0, p1, m0, m1, m2, d0, d1', d2'⟩ := HA9.out _ HW.out; clear hb) | (go_at_call 16; first | refine calls_at (HH.out _ _ _ (HVd.out _ HW.out) (HKm.out _ HW.out)) (by with_reducible rfl) (by with_reducible rfl) ?_ | refine calls_at (HH.out _ _ _ (HVd.out _ HW.out) HR.out) (by with_reducible rfl) (by with_reducible rfl) ?_); (rintro e wn ⟨rfl, hb⟩; have HW : Hid (RowKit.Below Vd.heap.size Vd wn) := HW.out.trans (hb.mono HW.out.size); obtain ⟨x0, x1, x2, p0, p1, m0, m1, m2, d0, d1', d2'⟩ := HA9.out _ HW.out; clear hb))
        go_ret
        exact ⟨rfl, HC.out.rest.trans ((HVd.out _ HW.out).mono HC.out.rest.size)⟩
    | true =>
      have hcn := HCa.out rfl
      subst hcn
      have HKe : Hid (∀ w', RowKit.Below Vd.heap.size Vd w' → Knows (ofT of) w' (.agg #[.slice ad Nd cd, .int .i64 nd, .pointer qd]) true) := HKd.out rfl
      go_wp2_with (first | (go_at_call 11; refine calls_at (HNu.out 0 _) (by with_reducible rfl) (by with_reducible rfl) ?_; rintro e wq ⟨rfl, hww⟩; rw [hww]; clear hww) | (go_at_call 25; refine calls_at (HSa.out _ (HVd.out _ HW.out)) (by with_reducible rfl) (by with_reducible rfl) ?_; rintro e wn ⟨rr, rfl, hg, hb⟩; have HR : Hid (Knows (ofT of) wn rr _) := hg; clear hg; have HW : Hid (RowKit.Below Vd.heap.size Vd wn) := HW.out.trans (hb.mono HW.out.size); obtain ⟨x0, x1, x2, p0, p1, m0, m1, m2, d0, d1', d2'⟩ := HA9.out _ HW.out; clear hb) | (go_at_call 26; refine calls_at (HNe.out _ (HVd.out _ HW.out)) (by with_reducible rfl) (by with_reducible rfl) ?_; rintro e wn ⟨rr, rfl, hg, hb⟩; have HR : Hid (Knows (ofT of) wn rr _) := hg; clear hg; have HW : Hid (RowKit.Below Vd.heap.size Vd wn) := HW.out.trans (hb.mono HW.out.size); obtain ⟨x0, x1, x2, p0, p1, m0, m1, m2, d0, d1', d2'⟩ := HA9.out _ HW.out; clear hb) | (go_at_call 27; refine calls_at (HCn.out _ (HVd.out _ HW.out)) (by with_reducible rfl) (by with_reducible rfl) ?_; rintro e wn ⟨rfl, hb⟩; have HW : Hid (RowKit.Below Vd.heap.size Vd wn) := HW.out.trans (hb.mono HW.out.size); obtain ⟨x0, x1, x2, p0, p1, m0, m1, m2, d0, d1', d2'⟩ := HA9.out _ HW.out; clear hb) | (go_at_call 16; first | refine calls_at (HH.out _ _ _ (HVd.out _ HW.out) (HKm.out _ HW.out)) (by with_reducible rfl) (by with_reducible rfl) ?_ | refine calls_at (HH.out _ _ _ (HVd.out _ HW.out) (HKe.out _ HW.out)) (by with_reducible rfl) (by with_reducible rfl) ?_ | refine calls_at (HH.out _ _ _ (HVd.out _ HW.out) HR.out) (by with_reducible rfl) (by with_reducible rfl) ?_); (rintro e wn ⟨rfl, hb⟩; have HW : Hid (RowKit.Below Vd.heap.size Vd wn) := HW.out.trans (hb.mono HW.out.size); obtain ⟨x0, x1, x2, p0, p1, m0, m1, m2, d0, d1', d2'⟩ := HA9.out _ HW.out; clear hb))
      go_ret
      exact ⟨rfl, HC.out.rest.trans ((HVd.out _ HW.out).mono HC.out.rest.size)⟩
  case neg =>
    obtain rfl := HT2.out (by omega)
    obtain rfl := HD2.out (by omega)
    have hsg : ¬ 0 < k.sign := by
      rcases Int.lt_or_eq_of_le (Int.not_lt.1 hk) with h | h
      · rw [Int.sign_eq_neg_one_of_neg h]; decide
      · rw [h]; decide
    generalize k.sign = sg at *
    refine wp_region_T (fun w' => w'.cell? ⟨w5.heap.size, 0, none⟩ = some (.slice ax Nx cx) ∧ w'.cell? ⟨w5.heap.size, 1, none⟩ = some (.int .i64 nx) ∧ w'.cell? ⟨w5.heap.size, 2, none⟩ = some (.pointer qx) ∧ w'.cell? ⟨w8.heap.size, 0, none⟩ = some (.int .i64 nk) ∧ w'.cell? ⟨w8.heap.size, 1, none⟩ = some (.pointer qk) ∧ w'.cell? ⟨we.heap.size, 0, none⟩ = some (.slice am Nm cm) ∧ w'.cell? ⟨we.heap.size, 1, none⟩ = some (.int .i64 nm) ∧ w'.cell? ⟨we.heap.size, 2, none⟩ = some (.pointer qm) ∧ w'.cell? ⟨wf.heap.size, 0, none⟩ = some (.slice ad Nd cd) ∧ w'.cell? ⟨wf.heap.size, 1, none⟩ = some (.int .i64 nd) ∧ w'.cell? ⟨wf.heap.size, 2, none⟩ = some (.pointer qd)) (fun _ => True) [] (by kernel_rfl) ⟨HA9.out _ HW.out, trivial⟩ (fun hHeld => ?_)
    generalize Vd.drew = U at HW hHeld ⊢
    refine wpAnyT_takeB (i := 0) (oi := ⟨some 120, .move (.tmp 21), _, _, _, _⟩) (v := ?vq19) rfl (by kernel_rfl) (by kernel_rfl) (by kernel_rfl) (by kernel_rfl) (fun _ _ _ h => h) (Or.inl ⟨by rfl, ?hyq19⟩) (by assumption) ?restq19
    case hyq19 => (intro w hSw; (try dsimp only at hSw); go_simp; try (with_reducible rfl))
    try simp only [Act.put, List.setIfInBounds_toArray, List.set_cons_zero, List.set_cons_succ]
    refine wpAnyT_takeB (i := 1) (oi := ⟨some 121, .move (.tmp 23), _, _, _, _⟩) (v := ?vq20) rfl (by kernel_rfl) (by kernel_rfl) (by kernel_rfl) (by kernel_rfl) (fun _ _ _ h => h) (Or.inl ⟨by rfl, ?hyq20⟩) (by assumption) ?restq20
    case hyq20 => (intro w hSw; (try dsimp only at hSw); go_simp; try (with_reducible rfl))
    try simp only [Act.put, List.setIfInBounds_toArray, List.set_cons_zero, List.set_cons_succ]
    refine wpAnyT_takeB (i := 2) (oi := ⟨some 122, .binOp .neq 36 (.tmp 120) (.tmp 121) 36, _, _, _, _⟩) (v := ?vq21) rfl (by kernel_rfl) (by kernel_rfl) (by kernel_rfl) (by kernel_rfl) (fun _ _ _ h => h) (Or.inl ⟨by rfl, ?hyq21⟩) (by assumption) ?restq21
    case hyq21 => (intro w hSw; (try dsimp only at hSw); go_simp; try (with_reducible rfl))
    try simp only [Act.put, List.setIfInBounds_toArray, List.set_cons_zero, List.set_cons_succ]
    refine wpAnyT_takeB (i := 3) (oi := ⟨some 123, .move (.tmp 122), _, _, _, _⟩) (v := ?vq22) rfl (by kernel_rfl) (by kernel_rfl) (by kernel_rfl) (by kernel_rfl) (fun _ _ _ h => h) (Or.inl ⟨by rfl, ?hyq22⟩) (by assumption) ?restq22
    case hyq22 => (intro w hSw; (try dsimp only at hSw); go_simp; try (with_reducible rfl))
    try simp only [Act.put, List.setIfInBounds_toArray, List.set_cons_zero, List.set_cons_succ]
    refine wpAnyT_takeB (i := 4) (oi := ⟨some 124, .move (.tmp 21), _, _, _, _⟩) (v := ?vq23) rfl (by kernel_rfl) (by kernel_rfl) (by kernel_rfl) (by kernel_rfl) (fun _ _ _ h => h) (Or.inl ⟨by rfl, ?hyq23⟩) (by assumption) ?restq23
    case hyq23 => (intro w hSw; (try dsimp only at hSw); go_simp; try (with_reducible rfl))
    try simp only [Act.put, List.setIfInBounds_toArray, List.set_cons_zero, List.set_cons_succ]
    refine wpAnyT_takeB (i := 7) (oi := ⟨some 127, .load 33 (.tmp 15), _, _, _, _⟩) (v := ?vq24) rfl (by kernel_rfl) (by kernel_rfl) (by kernel_rfl) (by kernel_rfl) (fun _ _ _ h => h) (Or.inl ⟨by rfl, ?hyq24⟩) (by assumption) ?restq24
    case hyq24 => (intro w hSw; (try dsimp only at hSw); go_simp; try (with_reducible rfl))
    try simp only [Act.put, List.setIfInBounds_toArray, List.set_cons_zero, List.set_cons_succ]
    refine wpAnyT_one (i := 5) (o := ⟨some 125, .call { callee := .value (.func 11), args := #[(.tmp 124)], argTypes := #[36] }, _, _, _, _⟩) (by kernel_rfl) rfl (fun Kq hK => ?_)
    go_simp
    refine calls_at (HNu.out 22 U) (by with_reducible rfl) (by with_reducible rfl) ?_
    rintro e wq ⟨rfl, hww⟩
    rw [hww]
    clear hww
    go_wp2_with fail
    refine hK.out _ _ ⟨HA9.out _ HW.out, fun _ => trivial⟩ ?_
    have hHeld := (⟨HA9.out _ HW.out, trivial⟩ : _ ∧ True)
    clear hK Kq
    try simp only [Act.put, List.setIfInBounds_toArray, List.set_cons_zero, List.set_cons_succ]
    refine wpAnyT_takeB (i := 6) (oi := ⟨some 126, .binOp .eql 3 (.tmp 125) (.const (.int .i64 0)) 3, _, _, _, _⟩) (v := ?vq25) rfl (by kernel_rfl) (by kernel_rfl) (by kernel_rfl) (by kernel_rfl) (fun _ _ _ h => h) (Or.inl ⟨by rfl, ?hyq25⟩) (by assumption) ?restq25
    case hyq25 => (intro w hSw; (try dsimp only at hSw); go_simp; try (with_reducible rfl))
    try simp only [Act.put, List.setIfInBounds_toArray, List.set_cons_zero, List.set_cons_succ]
    refine wpAnyT_one (i := 8) (o := ⟨some 128, .call { callee := .value (.func 15), args := #[(.tmp 127)], argTypes := #[33] }, _, _, _, _⟩) (by kernel_rfl) rfl (fun Kq hK => ?_)
    go_simp
    refine calls_at (HSg.out U HW.out) (by with_reducible rfl) (by with_reducible rfl) ?_
    rintro e gs ⟨rfl, hb⟩
    have HW : Hid (RowKit.Below Vd.heap.size Vd gs) := HW.out.trans (hb.mono HW.out.size)
    clear hb
    go_wp2_with fail
    refine hK.out _ _ ⟨HA9.out _ HW.out, fun _ => trivial⟩ ?_
    have hHeld := (⟨HA9.out _ HW.out, trivial⟩ : _ ∧ True)
    clear hK Kq
    try simp only [Act.put, List.setIfInBounds_toArray, List.set_cons_zero, List.set_cons_succ]
    refine wpAnyT_takeB (i := 9) (oi := ⟨some 129, .binOp .gtr 3 (.tmp 128) (.const (.int .i64 0)) 3, _, _, _, _⟩) (v := .bool false) rfl (by kernel_rfl) (by kernel_rfl) (by kernel_rfl) (by kernel_rfl) (fun _ _ _ h => h) (Or.inl ⟨by rfl, ?hyq26⟩) (by assumption) ?restq26
    case hyq26 => (intro w hSw; go_simp; try simp [hsg]; try (with_reducible rfl))
    try simp only [Act.put, List.setIfInBounds_toArray, List.set_cons_zero, List.set_cons_succ]
    refine wpAnyT_takeB (i := 10) (oi := ⟨some 130, .binOp .neq 4 (.tmp 126) (.tmp 129) 4, _, _, _, _⟩) (v := ?vq27) rfl (by kernel_rfl) (by kernel_rfl) (by kernel_rfl) (by kernel_rfl) (fun _ _ _ h => h) (Or.inl ⟨by rfl, ?hyq27⟩) (by assumption) ?restq27
    case hyq27 => (intro w hSw; (try dsimp only at hSw); go_simp; try (with_reducible rfl))
    try simp only [Act.put, List.setIfInBounds_toArray, List.set_cons_zero, List.set_cons_succ]
    refine wpAnyT_takeB (i := 11) (oi := ⟨some 131, .pick (.tmp 123) (.const (.bool true)) (.tmp 130), _, _, _, _⟩) (v := ?vq28) rfl (by kernel_rfl) (by kernel_rfl) (by kernel_rfl) (by kernel_rfl) (fun _ _ _ h => h) (Or.inl ⟨by rfl, ?hyq28⟩) (by assumption) ?restq28
    case hyq28 => (intro w hSw; (try dsimp only at hSw); go_simp; try (with_reducible rfl))
    try simp only [Act.put, List.setIfInBounds_toArray, List.set_cons_zero, List.set_cons_succ]
    refine wpAnyT_takeB (i := 12) (oi := ⟨some 132, .move (.tmp 131), _, _, _, _⟩) (v := ?vq29) rfl (by kernel_rfl) (by kernel_rfl) (by kernel_rfl) (by kernel_rfl) (fun _ _ _ h => h) (Or.inl ⟨by rfl, ?hyq29⟩) (by assumption) ?restq29
    case hyq29 => (intro w hSw; (try dsimp only at hSw); go_simp; try (with_reducible rfl))
    try simp only [Act.put, List.setIfInBounds_toArray, List.set_cons_zero, List.set_cons_succ]
    refine wpAnyT_takeB (i := 13) (oi := ⟨some 133, .move (.tmp 21), _, _, _, _⟩) (v := ?vq30) rfl (by kernel_rfl) (by kernel_rfl) (by kernel_rfl) (by kernel_rfl) (fun _ _ _ h => h) (Or.inl ⟨by rfl, ?hyq30⟩) (by assumption) ?restq30
    case hyq30 => (intro w hSw; (try dsimp only at hSw); go_simp; try (with_reducible rfl))
    try simp only [Act.put, List.setIfInBounds_toArray, List.set_cons_zero, List.set_cons_succ]
    refine wpAnyT_one (i := 14) (o := ⟨some 134, .call { callee := .value (.func 11), args := #[(.tmp 133)], argTypes := #[36] }, _, _, _, _⟩) (by kernel_rfl) rfl (fun Kq hK => ?_)
    go_simp
    refine calls_at (HNu.out 22 gs) (by with_reducible rfl) (by with_reducible rfl) ?_
    rintro e wq ⟨rfl, hww⟩
    rw [hww]
    clear hww
    go_wp2_with fail
    refine hK.out _ _ ⟨HA9.out _ HW.out, fun _ => trivial⟩ ?_
    have hHeld := (⟨HA9.out _ HW.out, trivial⟩ : _ ∧ True)
    clear hK Kq
    try simp only [Act.put, List.setIfInBounds_toArray, List.set_cons_zero, List.set_cons_succ]
    refine wpAnyT_takeB (i := 15) (oi := ⟨some 135, .binOp .neq 3 (.tmp 134) (.const (.int .i64 0)) 3, _, _, _, _⟩) (v := ?vq31) rfl (by kernel_rfl) (by kernel_rfl) (by kernel_rfl) (by kernel_rfl) (fun _ _ _ h => h) (Or.inl ⟨by rfl, ?hyq31⟩) (by assumption) ?restq31
    case hyq31 => (intro w hSw; (try dsimp only at hSw); go_simp; try (with_reducible rfl))
    try simp only [Act.put, List.setIfInBounds_toArray, List.set_cons_zero, List.set_cons_succ]
    refine wpAnyT_takeB (i := 16) (oi := ⟨some 136, .move (.tmp 135), _, _, _, _⟩) (v := ?vq32) rfl (by kernel_rfl) (by kernel_rfl) (by kernel_rfl) (by kernel_rfl) (fun _ _ _ h => h) (Or.inl ⟨by rfl, ?hyq32⟩) (by assumption) ?restq32
    case hyq32 => (intro w hSw; (try dsimp only at hSw); go_simp; try (with_reducible rfl))
    try simp only [Act.put, List.setIfInBounds_toArray, List.set_cons_zero, List.set_cons_succ]
    refine wpAnyT_takeB (i := 17) (oi := ⟨some 137, .move (.tmp 21), _, _, _, _⟩) (v := ?vq33) rfl (by kernel_rfl) (by kernel_rfl) (by kernel_rfl) (by kernel_rfl) (fun _ _ _ h => h) (Or.inl ⟨by rfl, ?hyq33⟩) (by assumption) ?restq33
    case hyq33 => (intro w hSw; (try dsimp only at hSw); go_simp; try (with_reducible rfl))
    try simp only [Act.put, List.setIfInBounds_toArray, List.set_cons_zero, List.set_cons_succ]
    refine wpAnyT_one (i := 18) (o := ⟨some 138, .call { callee := .value (.func 11), args := #[(.tmp 137)], argTypes := #[36] }, _, _, _, _⟩) (by kernel_rfl) rfl (fun Kq hK => ?_)
    go_simp
    refine calls_at (HNu.out 22 gs) (by with_reducible rfl) (by with_reducible rfl) ?_
    rintro e wq ⟨rfl, hww⟩
    rw [hww]
    clear hww
    go_wp2_with fail
    refine hK.out _ _ ⟨HA9.out _ HW.out, fun _ => trivial⟩ ?_
    have hHeld := (⟨HA9.out _ HW.out, trivial⟩ : _ ∧ True)
    clear hK Kq
    try simp only [Act.put, List.setIfInBounds_toArray, List.set_cons_zero, List.set_cons_succ]
    refine wpAnyT_takeB (i := 19) (oi := ⟨some 139, .binOp .neq 3 (.tmp 138) (.const (.int .i64 22)) 3, _, _, _, _⟩) (v := ?vq34) rfl (by kernel_rfl) (by kernel_rfl) (by kernel_rfl) (by kernel_rfl) (fun _ _ _ h => h) (Or.inl ⟨by rfl, ?hyq34⟩) (by assumption) ?restq34
    case hyq34 => (intro w hSw; (try dsimp only at hSw); go_simp; try (with_reducible rfl))
    try simp only [Act.put, List.setIfInBounds_toArray, List.set_cons_zero, List.set_cons_succ]
    refine wpAnyT_takeB (i := 20) (oi := ⟨some 140, .pick (.tmp 136) (.tmp 139) (.const (.bool false)), _, _, _, _⟩) (v := ?vq35) rfl (by kernel_rfl) (by kernel_rfl) (by kernel_rfl) (by kernel_rfl) (fun _ _ _ h => h) (Or.inl ⟨by rfl, ?hyq35⟩) (by assumption) ?restq35
    case hyq35 => (intro w hSw; (try dsimp only at hSw); go_simp; try (with_reducible rfl))
    try simp only [Act.put, List.setIfInBounds_toArray, List.set_cons_zero, List.set_cons_succ]
    refine wpAnyT_takeB (i := 21) (oi := ⟨some 141, .pick (.tmp 132) (.const (.bool true)) (.tmp 140), _, _, _, _⟩) (v := ?vq36) rfl (by kernel_rfl) (by kernel_rfl) (by kernel_rfl) (by kernel_rfl) (fun _ _ _ h => h) (Or.inl ⟨by rfl, ?hyq36⟩) (by assumption) ?restq36
    case hyq36 => (intro w hSw; (try dsimp only at hSw); go_simp; try (with_reducible rfl))
    try simp only [Act.put, List.setIfInBounds_toArray, List.set_cons_zero, List.set_cons_succ]
    refine wpAnyT_done (by kernel_rfl) ?_ _
    obtain ⟨x0, x1, x2, p0, p1, m0, m1, m2, d0, d1', d2'⟩ := HA9.out _ HW.out
    clear hHeld
    cases a with
    | false =>
      cases cn with
      | false =>
        go_wp2_with (first | (go_at_call 11; refine calls_at (HNu.out 22 _) (by with_reducible rfl) (by with_reducible rfl) ?_; rintro e wq ⟨rfl, hww⟩; rw [hww]; clear hww) | (go_at_call 25; refine calls_at (HSa.out _ (HVd.out _ HW.out)) (by with_reducible rfl) (by with_reducible rfl) ?_; rintro e wn ⟨rr, rfl, hg, hb⟩; have HR : Hid (Knows (ofT of) wn rr _) := hg; clear hg; have HW : Hid (RowKit.Below Vd.heap.size Vd wn) := HW.out.trans (hb.mono HW.out.size); obtain ⟨x0, x1, x2, p0, p1, m0, m1, m2, d0, d1', d2'⟩ := HA9.out _ HW.out; clear hb) | (go_at_call 26; refine calls_at (HNe.out _ (HVd.out _ HW.out)) (by with_reducible rfl) (by with_reducible rfl) ?_; rintro e wn ⟨rr, rfl, hg, hb⟩; have HR : Hid (Knows (ofT of) wn rr _) := hg; clear hg; have HW : Hid (RowKit.Below Vd.heap.size Vd wn) := HW.out.trans (hb.mono HW.out.size); obtain ⟨x0, x1, x2, p0, p1, m0, m1, m2, d0, d1', d2'⟩ := HA9.out _ HW.out; clear hb) | (go_at_call 27; refine calls_at (HCn.out _ (HVd.out _ HW.out)) (by with_reducible rfl) (by with_reducible rfl) ?_; rintro e wn ⟨rfl, hb⟩; have HW : Hid (RowKit.Below Vd.heap.size Vd wn) := HW.out.trans (hb.mono HW.out.size); obtain ⟨x0, x1, x2, p0, p1, m0, m1, m2, d0, d1', d2'⟩ := HA9.out _ HW.out; clear hb) | (go_at_call 16; first | refine calls_at (HH.out _ _ _ (HVd.out _ HW.out) HR.out) (by with_reducible rfl) (by with_reducible rfl) ?_); (rintro e wn ⟨rfl, hb⟩; have HW : Hid (RowKit.Below Vd.heap.size Vd wn) := HW.out.trans (hb.mono HW.out.size); obtain ⟨x0, x1, x2, p0, p1, m0, m1, m2, d0, d1', d2'⟩ := HA9.out _ HW.out; clear hb))
        go_ret
        exact ⟨rfl, HC.out.rest.trans ((HVd.out _ HW.out).mono HC.out.rest.size)⟩
      | true =>
        go_wp2_with (first | (go_at_call 11; refine calls_at (HNu.out 22 _) (by with_reducible rfl) (by with_reducible rfl) ?_; rintro e wq ⟨rfl, hww⟩; rw [hww]; clear hww) | (go_at_call 25; refine calls_at (HSa.out _ (HVd.out _ HW.out)) (by with_reducible rfl) (by with_reducible rfl) ?_; rintro e wn ⟨rr, rfl, hg, hb⟩; have HR : Hid (Knows (ofT of) wn rr _) := hg; clear hg; have HW : Hid (RowKit.Below Vd.heap.size Vd wn) := HW.out.trans (hb.mono HW.out.size); obtain ⟨x0, x1, x2, p0, p1, m0, m1, m2, d0, d1', d2'⟩ := HA9.out _ HW.out; clear hb) | (go_at_call 26; refine calls_at (HNe.out _ (HVd.out _ HW.out)) (by with_reducible rfl) (by with_reducible rfl) ?_; rintro e wn ⟨rr, rfl, hg, hb⟩; have HR : Hid (Knows (ofT of) wn rr _) := hg; clear hg; have HW : Hid (RowKit.Below Vd.heap.size Vd wn) := HW.out.trans (hb.mono HW.out.size); obtain ⟨x0, x1, x2, p0, p1, m0, m1, m2, d0, d1', d2'⟩ := HA9.out _ HW.out; clear hb) | (go_at_call 27; refine calls_at (HCn.out _ (HVd.out _ HW.out)) (by with_reducible rfl) (by with_reducible rfl) ?_; rintro e wn ⟨rfl, hb⟩; have HW : Hid (RowKit.Below Vd.heap.size Vd wn) := HW.out.trans (hb.mono HW.out.size); obtain ⟨x0, x1, x2, p0, p1, m0, m1, m2, d0, d1', d2'⟩ := HA9.out _ HW.out; clear hb) | (go_at_call 16; first | refine calls_at (HH.out _ _ _ (HVd.out _ HW.out) HR.out) (by with_reducible rfl) (by with_reducible rfl) ?_); (rintro e wn ⟨rfl, hb⟩; have HW : Hid (RowKit.Below Vd.heap.size Vd wn) := HW.out.trans (hb.mono HW.out.size); obtain ⟨x0, x1, x2, p0, p1, m0, m1, m2, d0, d1', d2'⟩ := HA9.out _ HW.out; clear hb))
        go_ret
        exact ⟨rfl, HC.out.rest.trans ((HVd.out _ HW.out).mono HC.out.rest.size)⟩
    | true =>
      have hcn := HCa.out rfl
      subst hcn
      go_wp2_with (first | (go_at_call 11; refine calls_at (HNu.out 22 _) (by with_reducible rfl) (by with_reducible rfl) ?_; rintro e wq ⟨rfl, hww⟩; rw [hww]; clear hww) | (go_at_call 25; refine calls_at (HSa.out _ (HVd.out _ HW.out)) (by with_reducible rfl) (by with_reducible rfl) ?_; rintro e wn ⟨rr, rfl, hg, hb⟩; have HR : Hid (Knows (ofT of) wn rr _) := hg; clear hg; have HW : Hid (RowKit.Below Vd.heap.size Vd wn) := HW.out.trans (hb.mono HW.out.size); obtain ⟨x0, x1, x2, p0, p1, m0, m1, m2, d0, d1', d2'⟩ := HA9.out _ HW.out; clear hb) | (go_at_call 26; refine calls_at (HNe.out _ (HVd.out _ HW.out)) (by with_reducible rfl) (by with_reducible rfl) ?_; rintro e wn ⟨rr, rfl, hg, hb⟩; have HR : Hid (Knows (ofT of) wn rr _) := hg; clear hg; have HW : Hid (RowKit.Below Vd.heap.size Vd wn) := HW.out.trans (hb.mono HW.out.size); obtain ⟨x0, x1, x2, p0, p1, m0, m1, m2, d0, d1', d2'⟩ := HA9.out _ HW.out; clear hb) | (go_at_call 27; refine calls_at (HCn.out _ (HVd.out _ HW.out)) (by with_reducible rfl) (by with_reducible rfl) ?_; rintro e wn ⟨rfl, hb⟩; have HW : Hid (RowKit.Below Vd.heap.size Vd wn) := HW.out.trans (hb.mono HW.out.size); obtain ⟨x0, x1, x2, p0, p1, m0, m1, m2, d0, d1', d2'⟩ := HA9.out _ HW.out; clear hb) | (go_at_call 16; first | refine calls_at (HH.out _ _ _ (HVd.out _ HW.out) HR.out) (by with_reducible rfl) (by with_reducible rfl) ?_); (rintro e wn ⟨rfl, hb⟩; have HW : Hid (RowKit.Below Vd.heap.size Vd wn) := HW.out.trans (hb.mono HW.out.size); obtain ⟨x0, x1, x2, p0, p1, m0, m1, m2, d0, d1', d2'⟩ := HA9.out _ HW.out; clear hb))
      go_ret
      exact ⟨rfl, HC.out.rest.trans ((HVd.out _ HW.out).mono HC.out.rest.size)⟩
end Go.Proofs.YtjffbndiecjkjaaGreatDoor
