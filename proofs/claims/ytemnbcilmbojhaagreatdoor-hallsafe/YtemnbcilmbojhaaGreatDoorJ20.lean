/-
  Put together: MdBits, MdCount, MdCountC, MdFaultAny, MdFew.
-/
import Derived.Test.YtemnbcilmbojhaaGreatDoorMdFault
namespace Go.Proofs.YtemnbcilmbojhaaGreatDoor
open Go.RowKit

theorem box10 {w : World} {N : Nat} {a0 a1 a2 a3 a4 a5 a6 a7 a8 a9 : Value} {t : TypeId} (h : w.heap[N]? = some (.cells #[a0, a1, a2, a3, a4, a5, a6, a7, a8, a9] t (0, 0))) :
    (w.cell? ⟨N, 0, none⟩ = some a0 ∧ w.cell? ⟨N, 1, none⟩ = some a1 ∧ w.cell? ⟨N, 2, none⟩ = some a2 ∧ w.cell? ⟨N, 3, none⟩ = some a3 ∧ w.cell? ⟨N, 4, none⟩ = some a4 ∧ w.cell? ⟨N, 5, none⟩ = some a5 ∧ w.cell? ⟨N, 6, none⟩ = some a6 ∧ w.cell? ⟨N, 7, none⟩ = some a7 ∧ w.cell? ⟨N, 8, none⟩ = some a8 ∧ w.cell? ⟨N, 9, none⟩ = some a9) ∧ ∀ j, w.frozen? ⟨N, j, none⟩ = false := by
  refine ⟨⟨?_, ?_, ?_, ?_, ?_, ?_, ?_, ?_, ?_, ?_⟩, fun j => ?_⟩ <;> simp [World.cell?, World.frozen?, h]
theorem one_next {w' w'' : World} (hb : Below w'.heap.size w' w'') {a : Addr} {u : Value} (h : w'.cell? a = some u) : w''.cell? a = some u := by
  refine (hb.cell (p := a) ?_).trans h
  rcases Nat.lt_or_ge a.block w'.heap.size with hl | hl
  · exact hl
  · unfold World.cell? at h
    rw [Array.getElem?_eq_none hl] at h
    cases h
end Go.Proofs.YtemnbcilmbojhaaGreatDoor

namespace Go.Proofs.YtemnbcilmbojhaaGreatDoor
open Go.RowKit

/-- A count, in its block. -/
def CountAt (w : World) (P : Nat) (left : Int) : Prop := w.heap[P]? = some (.cells #[.int .i64 left] 101 (0, 0))
theorem CountAt.cell {w : World} {P : Nat} {left : Int} (h : CountAt w P left) : w.cell? ⟨P, 0, none⟩ = some (.int .i64 left) ∧ w.frozen? ⟨P, 0, none⟩ = false := by
  unfold CountAt at h
  simp [World.cell?, World.frozen?, h]
theorem CountAt.lt {w : World} {P : Nat} {left : Int} (h : CountAt w P left) : P < w.heap.size := (Array.getElem?_eq_some_iff.1 h).1
theorem CountAt.below {w w' : World} {P : Nat} {left : Int} (h : CountAt w P left) (hb : Below w.heap.size w w') : CountAt w' P left := (hb.block P h.lt).trans h

/-- What was counted: no more than what was left, where some is left. -/
structure Took (P : Nat) (left : Int) (cost : Int) (w w' : World) : Prop where
  out : ∃ left', CountAt w' P left' ∧ left' ≤ 20000 ∧ -9223372036854775807 ≤ left' ∧ (0 ≤ left' → left' + cost ≤ left)
  grown : w.grownBy w' (some P)

/-- A Boolean comes back. -/
def IsBool (e : Ending) : Prop := ∃ b, e = .returned (.bool b)
theorem grownBy_refl (w : World) (row : Option Nat) : w.grownBy w row := ⟨rfl, rfl, rfl, Nat.le_refl _, fun _ _ _ => rfl⟩
theorem grownBy_trans {w w1 w2 : World} {row : Option Nat} (h : w.grownBy w1 row) (k : w1.grownBy w2 row) : w.grownBy w2 row :=
  ⟨k.os.trans h.os, k.tape.trans h.tape, k.output.trans h.output, Nat.le_trans h.size k.size, fun i hi hne => (k.block i (Nat.lt_of_lt_of_le hi h.size) hne).trans (h.block i hi hne)⟩
theorem grownBy_below {w w1 : World} {row : Option Nat} (h : Below w.heap.size w w1) : w.grownBy w1 row := ⟨h.os, h.tape, h.output, h.size, fun i hi _ => h.block i hi⟩

set_option maxHeartbeats 400000 in
theorem ok_any (P : Nat) (left : Int) (w : World) (h : CountAt w P left) : Calls Tryz.prog 24 #[.pointer (some ⟨P, 0, none⟩)] w fun e w' => e = .returned (.bool (decide (0 ≤ left))) ∧ w' = w := by
  obtain ⟨h1, _⟩ := h.cell
  clear h
  go_enter Tryz.func24, Tryz.ntmps24
  go_wp2
  go_ret
  exact ⟨rfl, rfl⟩

set_option maxHeartbeats 400000 in
theorem add_any (P : Nat) (left : Int) (n : Nat) (w : World) (h : CountAt w P left) (hl : left ≤ 20000) (hl2 : -9223372036854775807 ≤ left) (hn : n ≤ maxLen) : Calls Tryz.prog 23 #[.pointer (some ⟨P, 0, none⟩), .int .i64 (n : Int)] w fun e w' => IsBool e ∧ Took P left n w w' := by
  obtain ⟨h1, h2⟩ := h.cell
  have hlt := h.lt
  unfold maxLen at hn
  by_cases h0 : 0 ≤ left
  · have hb : w.heap[P]? = some (.cells #[.int .i64 left] 101 (0, 0)) := h
    have HB : Hid (w.heap[P]? = some (.cells #[.int .i64 left] 101 (0, 0))) := hb
    have hw : wrap64 (left - (n : Int)) = left - (n : Int) := by unfold wrap64; omega
    obtain ⟨V, hV⟩ : ∃ V, w.setCell ⟨P, 0, none⟩ (.int .i64 (left - (n : Int))) = V := ⟨_, rfl⟩
    have hc : CountAt V P (left - n) := by
      rw [← hV]; unfold CountAt
      simp [World.setCell, Array.getElem?_modify, hb]
    have hg : w.grownBy V (some P) := by
      rw [← hV]
      exact ⟨rfl, rfl, rfl, by simp [World.setCell], fun k _ hne => Below.heap_setCell w ⟨P, 0, none⟩ _ k (fun e => hne (by rw [e]))⟩
    obtain ⟨h3, h4⟩ := hc.cell
    have HT : Hid (Took P left n w V) := ⟨⟨_, hc, by omega, by omega, fun _ => by omega⟩, hg⟩
    clear hb h hc hg
    go_enter Tryz.func23, Tryz.ntmps23
    go_wp2
    go_ret
    exact ⟨⟨_, rfl⟩, HT.out⟩
  · have HT : Hid (Took P left n w w) := ⟨⟨left, h, hl, hl2, fun h => absurd h h0⟩, grownBy_refl _ _⟩
    clear h
    go_enter Tryz.func23, Tryz.ntmps23
    go_wp2
    go_ret
    exact ⟨⟨_, rfl⟩, HT.out⟩

theorem add_one (P : Nat) (left : Int) (w : World) (h : CountAt w P left) (hl : left ≤ 20000) (hl2 : -9223372036854775807 ≤ left) : Calls Tryz.prog 23 #[.pointer (some ⟨P, 0, none⟩), .int .i64 1] w fun e w' => IsBool e ∧ Took P left 1 w w' := add_any P left 1 w h hl hl2 (by decide)
/-- How many parts lists have. -/
def costL : List (List Int) → Nat
  | [] => 0
  | r :: l => r.length + 1 + costL l
theorem costL_append (a b : List (List Int)) : costL (a ++ b) = costL a + costL b := by
  induction a with
  | nil => simp [costL]
  | cons r a ih => simp only [List.cons_append, costL, ih]; omega
theorem costL_next {l : List (List Int)} {k : Nat} (h : k < l.length) : costL (l.take (k + 1)) = costL (l.take k) + (l[k].length + 1) := by
  rw [List.take_succ_eq_append_getElem h, costL_append]; simp [costL]
theorem costL_mem {l : List (List Int)} {r : List Int} (h : r ∈ l) : r.length + 1 ≤ costL l := by
  induction l with
  | nil => cases h
  | cons x l ih =>
    rcases List.mem_cons.1 h with rfl | h
    · simp only [costL]; omega
    · have := ih h; simp only [costL]; omega
theorem costL_len (l : List (List Int)) : l.length ≤ costL l := by
  induction l with
  | nil => simp
  | cons r l ih => simp only [costL, List.length_cons]; omega

set_option maxRecDepth 10000 in
set_option maxHeartbeats 1000000 in
theorem lists_count (P : Nat) (left : Int) (v : Value) (l : List (List Int)) (w : World) (h : CountAt w P left) (hl : left ≤ 20000) (hl2 : -9223372036854775807 ≤ left) (hv : ∀ w', w.grownBy w' (some P) → RowsAt w' v l) :
    Calls Tryz.prog 67 #[.pointer (some ⟨P, 0, none⟩), v] w fun e w' => e = .returned (.tuple #[]) ∧ Took P left (costL l) w w' := by
  have HV : Hid (∀ w', w.grownBy w' (some P) → RowsAt w' v l) := hv
  obtain ⟨a, cap, rfl, hm⟩ := (hv w (grownBy_refl _ _)).form
  unfold maxLen at hm
  have H0 : Hid (CountAt w P left) := h
  clear hv h
  go_enter Tryz.func67, Tryz.ntmps67
  go_wp2_with fail
  go_loopw [4] (fun iv wr => ∃ (k : Nat) (lf : Int), iv = .int .i64 (k : Int) ∧ k ≤ l.length ∧ Hid (CountAt wr P lf) ∧ lf ≤ 20000 ∧ -9223372036854775807 ≤ lf ∧ Hid (0 ≤ lf → lf + costL (l.take k) ≤ left) ∧ Hid (w.grownBy wr (some P))) (fun iv _ => l.length - (intOf iv).toNat)
  case atStart => exact ⟨0, left, rfl, Nat.zero_le _, H0, hl, hl2, (fun _ => by simp [costL]), grownBy_refl _ _⟩
  case round =>
    obtain ⟨k, lf, rfl, hk, hC, h1, h2, hT, hG⟩ := hrel
    clear H0
    by_cases hlt : k < l.length
    · have hkI : (k : Int) < (l.length : Int) := by omega
      by_cases h0 : 0 ≤ lf
      · have hd : decide (0 ≤ lf) = true := by simpa using h0
        obtain ⟨ra, rc, hre, _, hro⟩ := HV.out _ hG.out
        injection hre with e1 e2 e3
        subst e1 e3
        obtain ⟨b0, o0, ha, hb0, hcs⟩ := hro (by omega)
        subst ha
        have HRO : Hid (∀ w', w.grownBy w' (some P) → ∃ u, w'.cell? ⟨b0, o0 + k, none⟩ = some u ∧ IntsAt w' u l[k]) := fun w' hw' => by
          obtain ⟨ra', rc', hre', _, hro'⟩ := HV.out _ hw'
          injection hre' with e1' e2' e3'
          obtain ⟨b0', o0', ha', _, hcs'⟩ := hro' (by omega)
          rw [← e1'] at ha'
          injection ha' with ha'
          injection ha' with h1' h2' _
          subst h1' h2'
          exact hcs' k hlt
        have hnx := costL_next hlt
        have HNX : Hid (costL (l.take (k + 1)) = costL (l.take k) + (l[k].length + 1)) := hnx
        clear hro hcs e2 hnx
        go_wp2_with (first
          | (go_at_call 24; refine (ok_any P lf _ hC.out).mono ?_; rintro e w' ⟨rfl, hww⟩; rw [hww])
          | (go_at_call 23; refine calls_at (add_one P lf _ hC.out h1 h2) (by with_reducible rfl) (by with_reducible rfl) ?_; rintro e w1 ⟨⟨bb, rfl⟩, ⟨⟨lf1, hC1, h11, h12, hT1⟩, hG1⟩⟩;
             have hg1 := grownBy_trans hG.out hG1;
             obtain ⟨u, hu, hI⟩ := HRO.out _ hg1;
             obtain ⟨ua, uc, hue, hum⟩ := hI.form;
             subst hue;
             have HC1 : Hid (CountAt w1 P lf1) := hC1;
             have HT1 : Hid (0 ≤ lf1 → lf1 + 1 ≤ lf) := hT1;
             have HG1 : Hid (w.grownBy w1 (some P)) := hg1;
             clear hC1 hT1 hG1 hg1 hI)
          | (go_at_call 23; refine calls_at (add_any P lf1 (l[k]).length _ HC1.out h11 h12 hum) (by with_reducible rfl) (by with_reducible rfl) ?_; rintro e w2 ⟨⟨bc, rfl⟩, ⟨⟨lf2, hC2, h21, h22, hT2⟩, hG2⟩⟩;
             have HC2 : Hid (CountAt w2 P lf2) := hC2;
             have HT2 : Hid (0 ≤ lf2 → lf2 + ((l[k]).length : Int) ≤ lf1) := hT2;
             have HG2 : Hid (w.grownBy w2 (some P)) := grownBy_trans HG1.out hG2;
             clear hC2 hT2 hG2))
        go_roundw
        case rel => exact ⟨k + 1, lf2, by go_num, by omega, HC2, h21, h22, (fun h => by have a1 := HT2.out h; have a2 := HT1.out (by omega); have a3 := hT.out (by omega); rw [HNX.out]; omega), HG2⟩
        case measure => simp [intOf]; omega
      · have hd : decide (0 ≤ lf) = false := by simpa using h0
        have HD : Hid (Took P left (costL l) w _) := ⟨⟨lf, hC.out, h1, h2, fun h => absurd h h0⟩, hG.out⟩
        go_wp2_with (go_at_call 24; refine (ok_any P lf _ hC.out).mono ?_; rintro e w' ⟨rfl, hww⟩; rw [hww])
        go_end0
        exact ⟨rfl, HD.out⟩
    · have hkI : ¬ (k : Int) < (l.length : Int) := by omega
      have HD : Hid (Took P left (costL l) w _) := ⟨⟨lf, hC.out, h1, h2, fun h => by have := hT.out h; rwa [List.take_of_length_le (by omega)] at this⟩, hG.out⟩
      go_wp2_with fail
      go_end0
      exact ⟨rfl, HD.out⟩
end Go.Proofs.YtemnbcilmbojhaaGreatDoor

namespace Go.Proofs.YtemnbcilmbojhaaGreatDoor
open Go.RowKit

/-- How many parts a constraint has. -/
def costC (c : Md.Cn) : Nat := 1 + c.terms.length + c.xs.length + c.table.length + costL c.rows

set_option maxRecDepth 10000 in
set_option maxHeartbeats 1000000 in
theorem con_count (P : Nat) (left : Int) (c : Md.Cn) (vt vx vb vr : Value) (w : World) (h : CountAt w P left) (hl : left ≤ 20000) (hl2 : -9223372036854775807 ≤ left) (hC : ∀ w', w.grownBy w' (some P) → CnAt w' c vt vx vb vr) :
    Calls Tryz.prog 44 #[.pointer (some ⟨P, 0, none⟩), cnVal c vt vx vb vr] w fun e w' => e = .returned (.tuple #[]) ∧ Took P left (costC c) w w' := by
  have h0 := hC w (grownBy_refl _ _)
  obtain ⟨ta, tc, rfl, htm⟩ := h0.t.form
  obtain ⟨xa, xc, rfl, hxm⟩ := h0.x.form
  obtain ⟨ba, bc, rfl, hbm⟩ := h0.b.form
  obtain ⟨ra, rc, rfl, hrm⟩ := h0.r.form
  have HC : Hid (∀ w', w.grownBy w' (some P) → CnAt w' c (.slice ta c.terms.length tc) (.slice xa c.xs.length xc) (.slice ba c.table.length bc) (.slice ra c.rows.length rc)) := hC
  have hP := h.lt
  obtain ⟨W, hW⟩ : ∃ W, w.alloc (.cells #[.int .i64 c.kind, .int .i64 c.op, .slice ta c.terms.length tc, .int .i64 c.k, .int .i64 c.v, .int .i64 c.x, .int .i64 c.y, .slice xa c.xs.length xc, .slice ba c.table.length bc, .slice ra c.rows.length rc] 106) = W := ⟨_, rfl⟩
  have hbW : Below w.heap.size w W := by rw [← hW]; exact (Below.refl _ _).alloc (Nat.le_refl _) _
  have hN : W.heap[w.heap.size]? = some (.cells #[.int .i64 c.kind, .int .i64 c.op, .slice ta c.terms.length tc, .int .i64 c.k, .int .i64 c.v, .int .i64 c.x, .int .i64 c.y, .slice xa c.xs.length xc, .slice ba c.table.length bc, .slice ra c.rows.length rc] 106) := by rw [← hW]; exact heap_alloc_new w _
  have hNl : w.heap.size < W.heap.size := (Array.getElem?_eq_some_iff.1 hN).1
  have HN : Hid (∀ w', W.grownBy w' (some P) → w'.heap[w.heap.size]? = some (.cells #[.int .i64 c.kind, .int .i64 c.op, .slice ta c.terms.length tc, .int .i64 c.k, .int .i64 c.v, .int .i64 c.x, .int .i64 c.y, .slice xa c.xs.length xc, .slice ba c.table.length bc, .slice ra c.rows.length rc] 106)) := fun w' hg => (hg.block _ hNl (fun e => by injection e with e; omega)).trans hN
  have HG0 : Hid (w.grownBy W (some P)) := grownBy_below hbW
  have HC0 : Hid (CountAt W P left) := h.below hbW
  obtain ⟨⟨p0, p1, p2, p3, p4, p5, p6, p7, p8, p9⟩, _⟩ := box10 hN
  clear h0 hC h hbW hN
  unfold cnVal
  go_enter Tryz.func44, Tryz.ntmps44
  go_wp2_with (first
    | (go_at_call 23; refine calls_at (add_one P left _ HC0.out hl hl2) (by with_reducible rfl) (by with_reducible rfl) ?_; rintro e w1 ⟨⟨b1, rfl⟩, ⟨⟨l1, hC1, h11, h12, hT1⟩, hG1⟩⟩;
       have HC1 : Hid (CountAt w1 P l1) := hC1; have HT1 : Hid (0 ≤ l1 → l1 + 1 ≤ left) := hT1; have HG1 : Hid (W.grownBy w1 (some P)) := hG1;
       clear hC1 hT1 hG1 p0 p1 p2 p3 p4 p5 p6 p7 p8 p9;
       obtain ⟨⟨p0, p1, p2, p3, p4, p5, p6, p7, p8, p9⟩, _⟩ := box10 (HN.out _ HG1.out))
    | (go_at_call 23; refine calls_at (add_any P l1 c.terms.length _ HC1.out h11 h12 htm) (by with_reducible rfl) (by with_reducible rfl) ?_; rintro e w2 ⟨⟨b2, rfl⟩, ⟨⟨l2, hC1, h21, h22, hT1⟩, hG1⟩⟩;
       have HC2 : Hid (CountAt w2 P l2) := hC1; have HT2 : Hid (0 ≤ l2 → l2 + (c.terms.length : Int) ≤ l1) := hT1; have HG2 : Hid (W.grownBy w2 (some P)) := grownBy_trans HG1.out hG1;
       clear hC1 hT1 hG1 p0 p1 p2 p3 p4 p5 p6 p7 p8 p9 HC1;
       obtain ⟨⟨p0, p1, p2, p3, p4, p5, p6, p7, p8, p9⟩, _⟩ := box10 (HN.out _ HG2.out))
    | (go_at_call 23; refine calls_at (add_any P l2 c.xs.length _ HC2.out h21 h22 hxm) (by with_reducible rfl) (by with_reducible rfl) ?_; rintro e w3 ⟨⟨b3, rfl⟩, ⟨⟨l3, hC1, h31, h32, hT1⟩, hG1⟩⟩;
       have HC3 : Hid (CountAt w3 P l3) := hC1; have HT3 : Hid (0 ≤ l3 → l3 + (c.xs.length : Int) ≤ l2) := hT1; have HG3 : Hid (W.grownBy w3 (some P)) := grownBy_trans HG2.out hG1;
       clear hC1 hT1 hG1 p0 p1 p2 p3 p4 p5 p6 p7 p8 p9 HC2;
       obtain ⟨⟨p0, p1, p2, p3, p4, p5, p6, p7, p8, p9⟩, _⟩ := box10 (HN.out _ HG3.out))
    | (go_at_call 23; refine calls_at (add_any P l3 c.table.length _ HC3.out h31 h32 hbm) (by with_reducible rfl) (by with_reducible rfl) ?_; rintro e w4 ⟨⟨b4, rfl⟩, ⟨⟨l4, hC1, h41, h42, hT1⟩, hG1⟩⟩;
       have HC4 : Hid (CountAt w4 P l4) := hC1; have HT4 : Hid (0 ≤ l4 → l4 + (c.table.length : Int) ≤ l3) := hT1; have HG4 : Hid (W.grownBy w4 (some P)) := grownBy_trans HG3.out hG1;
       clear hC1 hT1 hG1 p0 p1 p2 p3 p4 p5 p6 p7 p8 p9 HC3;
       obtain ⟨⟨p0, p1, p2, p3, p4, p5, p6, p7, p8, p9⟩, _⟩ := box10 (HN.out _ HG4.out))
    | (go_at_call 67; refine calls_at (lists_count P l4 _ c.rows _ HC4.out h41 h42 (fun w' hg => (HC.out w' (grownBy_trans HG0.out (grownBy_trans HG4.out hg))).r)) (by with_reducible rfl) (by with_reducible rfl) ?_; rintro e w5 ⟨rfl, ⟨⟨l5, hC1, h51, h52, hT1⟩, hG1⟩⟩;
       have HC5 : Hid (CountAt w5 P l5) := hC1; have HT5 : Hid (0 ≤ l5 → l5 + (costL c.rows : Int) ≤ l4) := hT1; have HG5 : Hid (W.grownBy w5 (some P)) := grownBy_trans HG4.out hG1;
       clear hC1 hT1 hG1 p0 p1 p2 p3 p4 p5 p6 p7 p8 p9 HC4))
  go_end0
  refine ⟨rfl, ⟨⟨l5, HC5.out, h51, h52, fun h => ?_⟩, grownBy_trans HG0.out HG5.out⟩⟩
  have a5 := HT5.out h
  have a4 := HT4.out (by omega)
  have a3 := HT3.out (by omega)
  have a2 := HT2.out (by omega)
  have a1 := HT1.out (by omega)
  unfold costC
  omega

set_option maxRecDepth 10000 in
set_option maxHeartbeats 1000000 in
theorem model_count1 (P q : Nat) (left : Int) (c : Md.Cn) (vt vx vb vr : Value) (w : World) (h : CountAt w P left) (hl : left ≤ 20000) (hl2 : -9223372036854775807 ≤ left) (hC : ∀ w', w.grownBy w' (some P) → CnAt w' c vt vx vb vr) (hq : q ≠ P) (hqc : w.heap[q]? = some (.cells #[.int .i64 c.kind, .int .i64 c.op, vt, .int .i64 c.k, .int .i64 c.v, .int .i64 c.x, .int .i64 c.y, vx, vb, vr] 106)) :
    Calls Tryz.prog 22 #[.pointer (some ⟨P, 0, none⟩), .agg #[.slice none 0 0, .slice (some ⟨q, 0, none⟩) 1 1, .bool false, .slice none 0 0]] w fun e w' => e = .returned (.tuple #[]) ∧ Took P left (costC c) w w' := by
  have h0 := hC w (grownBy_refl _ _)
  obtain ⟨ta, tc, rfl, htm⟩ := h0.t.form
  obtain ⟨xa, xc, rfl, hxm⟩ := h0.x.form
  obtain ⟨ba, bc, rfl, hbm⟩ := h0.b.form
  obtain ⟨ra, rc, rfl, hrm⟩ := h0.r.form
  have HC : Hid (∀ w', w.grownBy w' (some P) → CnAt w' c (.slice ta c.terms.length tc) (.slice xa c.xs.length xc) (.slice ba c.table.length bc) (.slice ra c.rows.length rc)) := hC
  have hP := h.lt
  have hql : q < w.heap.size := (Array.getElem?_eq_some_iff.1 hqc).1
  obtain ⟨W, hW⟩ : ∃ W, w.alloc (.cells #[.slice none 0 0, .slice (some ⟨q, 0, none⟩) 1 1, .bool false, .slice none 0 0] 26) = W := ⟨_, rfl⟩
  have hbW : Below w.heap.size w W := by rw [← hW]; exact (Below.refl _ _).alloc (Nat.le_refl _) _
  have hN : W.heap[w.heap.size]? = some (.cells #[.slice none 0 0, .slice (some ⟨q, 0, none⟩) 1 1, .bool false, .slice none 0 0] 26) := by rw [← hW]; exact heap_alloc_new w _
  have hNl : w.heap.size < W.heap.size := (Array.getElem?_eq_some_iff.1 hN).1
  have HN : Hid (∀ w', W.grownBy w' (some P) → w'.cell? ⟨w.heap.size, 0, none⟩ = some (.slice none 0 0) ∧ w'.cell? ⟨w.heap.size, 1, none⟩ = some (.slice (some ⟨q, 0, none⟩) 1 1) ∧ w'.cell? ⟨w.heap.size, 3, none⟩ = some (.slice none 0 0)) := fun w' hg => by
    have := (hg.block _ hNl (fun e => by injection e with e; omega)).trans hN
    simp [World.cell?, this]
  have HQ : Hid (∀ w', W.grownBy w' (some P) → w'.heap[q]? = some (.cells #[.int .i64 c.kind, .int .i64 c.op, .slice ta c.terms.length tc, .int .i64 c.k, .int .i64 c.v, .int .i64 c.x, .int .i64 c.y, .slice xa c.xs.length xc, .slice ba c.table.length bc, .slice ra c.rows.length rc] 106)) := fun w' hg => (hg.block q (Nat.lt_of_lt_of_le hql hbW.size) (fun e => by injection e with e; exact hq e)).trans ((hbW.block q hql).trans hqc)
  have HG0 : Hid (w.grownBy W (some P)) := grownBy_below hbW
  have HC0 : Hid (CountAt W P left) := h.below hbW
  obtain ⟨m0, m1, m3⟩ := HN.out W (grownBy_refl _ _)
  have H78 : Hid (∀ w' l, CountAt w' P l → l ≤ 20000 → -9223372036854775807 ≤ l → w.grownBy w' (some P) → Calls Tryz.prog 44 #[.pointer (some ⟨P, 0, none⟩), cnVal c (.slice ta c.terms.length tc) (.slice xa c.xs.length xc) (.slice ba c.table.length bc) (.slice ra c.rows.length rc)] w' fun e w'' => e = .returned (.tuple #[]) ∧ Took P l (costC c) w' w'') := fun w' l h1 h2 h3 hg => con_count P l c _ _ _ _ w' h1 h2 h3 (fun w'' hg' => HC.out w'' (grownBy_trans hg hg'))
  unfold cnVal at H78
  clear h0 hC h hbW hN hqc
  go_enter Tryz.func22, Tryz.ntmps22
  go_wp2_with fail
  go_loop [4] (fun iv => iv = .int .i64 0) (fun _ => 0)
  case atStart => rfl
  case round =>
    subst hrel
    go_wp2_with fail
    go_loopw [5] (fun iv wr => ∃ (k : Nat) (lf : Int), iv = .int .i64 (k : Int) ∧ k ≤ 1 ∧ Hid (CountAt wr P lf) ∧ lf ≤ 20000 ∧ -9223372036854775807 ≤ lf ∧ Hid (0 ≤ lf → lf + (if k = 0 then 0 else (costC c : Int)) ≤ left) ∧ Hid (W.grownBy wr (some P)) ∧ Hid (k = 1 ∨ k = 0)) (fun iv _ => 1 - (intOf iv).toNat)
    case atStart => exact ⟨0, left, rfl, Nat.zero_le _, HC0, hl, hl2, (fun _ => by simp), grownBy_refl _ _, .inr rfl⟩
    case round =>
      obtain ⟨k, lf, rfl, hk, hCw, h1, h2, hT, hG, hk01⟩ := hrel
      clear m0 m1 m3
      obtain ⟨m0, m1, m3⟩ := HN.out _ hG.out
      rcases hk01.out with rfl | rfl
      · have H28 : Hid (Calls Tryz.prog 23 #[.pointer (some ⟨P, 0, none⟩), .int .i64 0] _ fun e w' => IsBool e ∧ Took P lf 0 _ w') := add_any P lf 0 _ hCw.out h1 h2 (by decide)
        go_wp2_with (go_at_call 23; refine calls_at H28.out (by with_reducible rfl) (by with_reducible rfl) ?_; rintro e w1 ⟨⟨b1, rfl⟩, ⟨⟨l1, hC1, h11, h12, hT1⟩, hG1⟩⟩)
        go_end0
        exact ⟨rfl, ⟨⟨l1, hC1, h11, h12, fun h => by have a1 := hT1 h; have a2 := hT.out (by omega); simp at a2; omega⟩, grownBy_trans HG0.out (grownBy_trans hG.out hG1)⟩⟩
      · by_cases h0 : 0 ≤ lf
        · have hd : decide (0 ≤ lf) = true := by simpa using h0
          obtain ⟨⟨p0, p1, p2, p3, p4, p5, p6, p7, p8, p9⟩, _⟩ := box10 (HQ.out _ hG.out)
          go_wp2_with (first
            | (go_at_call 24; refine (ok_any P lf _ hCw.out).mono ?_; rintro e w' ⟨rfl, hww⟩; rw [hww])
            | (go_at_call 44; refine calls_at (H78.out _ lf hCw.out h1 h2 (grownBy_trans HG0.out hG.out)) (by with_reducible rfl) (by with_reducible rfl) ?_; rintro e w1 ⟨rfl, ⟨⟨l1, hC1, h11, h12, hT1⟩, hG1⟩⟩))
          go_roundw
          case rel => exact ⟨1, l1, by rfl, by decide, hC1, h11, h12, (fun h => by have a1 := hT1 h; have a2 := hT.out (by omega); simp at a2 ⊢; omega), grownBy_trans hG.out hG1, .inl rfl⟩
          case measure => simp [intOf]
        · have hd : decide (0 ≤ lf) = false := by simpa using h0
          have H28 : Hid (Calls Tryz.prog 23 #[.pointer (some ⟨P, 0, none⟩), .int .i64 0] _ fun e w' => IsBool e ∧ Took P lf 0 _ w') := add_any P lf 0 _ hCw.out h1 h2 (by decide)
          go_wp2_with (first
            | (go_at_call 24; refine (ok_any P lf _ hCw.out).mono ?_; rintro e w' ⟨rfl, hww⟩; rw [hww])
            | (go_at_call 23; refine calls_at H28.out (by with_reducible rfl) (by with_reducible rfl) ?_; rintro e w1 ⟨⟨b1, rfl⟩, ⟨⟨l1, hC1, h11, h12, hT1⟩, hG1⟩⟩))
          go_end0
          exact ⟨rfl, ⟨⟨l1, hC1, h11, h12, fun h => by have a1 := hT1 h; omega⟩, grownBy_trans HG0.out (grownBy_trans hG.out hG1)⟩⟩
end Go.Proofs.YtemnbcilmbojhaaGreatDoor

namespace Go.Proofs.YtemnbcilmbojhaaGreatDoor
open Go.RowKit

theorem kind1 : KindIs 1 132 131 true 64 0 0 0 where
  of := kindOf_1
  own := fun c vt vx vb vr w hk hC => by
    have h1 := own129 c vt vx vb vr w hC
    have h2 : ownVal c = plVal c.kind c.op c.k 0 0 0 := by unfold ownVal; rw [hk]; rfl
    rw [h2]; exact h1
  ent := enters_of Tryz.func132 (by kernel_rfl) rfl
  enh := enters_of Tryz.func131 (by kernel_rfl) rfl
  op := rfl
  e0 := rfl
  e1 := rfl
  e2 := rfl
  e3 := rfl

theorem kind2 : KindIs 2 134 133 false 0 0 0 0 where
  of := kindOf_2
  own := fun c vt vx vb vr w hk hC => by
    have h1 := own131 c vt vx vb vr w hC
    have h2 : ownVal c = plVal c.kind 0 c.k 0 c.x c.y := by unfold ownVal; rw [hk]; rfl
    rw [h2]; exact h1
  ent := enters_of Tryz.func134 (by kernel_rfl) rfl
  enh := enters_of Tryz.func133 (by kernel_rfl) rfl
  op := rfl
  e0 := rfl
  e1 := rfl
  e2 := rfl
  e3 := rfl

theorem kind3 : KindIs 3 130 135 false 0 64 0 0 where
  of := kindOf_3
  own := fun c vt vx vb vr w hk hC => by
    have h1 := own127 c vt vx vb vr w hC
    have h2 : ownVal c = plVal c.kind 0 0 0 0 0 := by unfold ownVal; rw [hk]; rfl
    rw [h2]; exact h1
  ent := enters_of Tryz.func130 (by kernel_rfl) rfl
  enh := enters_of Tryz.func135 (by kernel_rfl) rfl
  op := rfl
  e0 := rfl
  e1 := rfl
  e2 := rfl
  e3 := rfl

theorem kind4 : KindIs 4 137 136 false 0 0 64 0 where
  of := kindOf_4
  own := fun c vt vx vb vr w hk hC => by
    have h1 := own134 c vt vx vb vr w hC
    have h2 : ownVal c = plVal c.kind 0 0 0 c.x c.y := by unfold ownVal; rw [hk]; rfl
    rw [h2]; exact h1
  ent := enters_of Tryz.func137 (by kernel_rfl) rfl
  enh := enters_of Tryz.func136 (by kernel_rfl) rfl
  op := rfl
  e0 := rfl
  e1 := rfl
  e2 := rfl
  e3 := rfl

theorem kind5 : KindIs 5 129 138 false 0 64 0 0 where
  of := kindOf_5
  own := fun c vt vx vb vr w hk hC => by
    have h1 := own126 c vt vx vb vr w hC
    have h2 : ownVal c = plVal c.kind 0 0 0 0 c.y := by unfold ownVal; rw [hk]; rfl
    rw [h2]; exact h1
  ent := enters_of Tryz.func129 (by kernel_rfl) rfl
  enh := enters_of Tryz.func138 (by kernel_rfl) rfl
  op := rfl
  e0 := rfl
  e1 := rfl
  e2 := rfl
  e3 := rfl

theorem kind6 : KindIs 6 129 139 false 0 64 0 0 where
  of := kindOf_6
  own := fun c vt vx vb vr w hk hC => by
    have h1 := own126 c vt vx vb vr w hC
    have h2 : ownVal c = plVal c.kind 0 0 0 0 c.y := by unfold ownVal; rw [hk]; rfl
    rw [h2]; exact h1
  ent := enters_of Tryz.func129 (by kernel_rfl) rfl
  enh := enters_of Tryz.func139 (by kernel_rfl) rfl
  op := rfl
  e0 := rfl
  e1 := rfl
  e2 := rfl
  e3 := rfl

theorem kind7 : KindIs 7 141 140 false 64 0 0 0 where
  of := kindOf_7
  own := fun c vt vx vb vr w hk hC => by
    have h1 := own138 c vt vx vb vr w hC
    have h2 : ownVal c = plVal c.kind 0 c.k 0 c.x 0 := by unfold ownVal; rw [hk]; rfl
    rw [h2]; exact h1
  ent := enters_of Tryz.func141 (by kernel_rfl) rfl
  enh := enters_of Tryz.func140 (by kernel_rfl) rfl
  op := rfl
  e0 := rfl
  e1 := rfl
  e2 := rfl
  e3 := rfl

theorem kind8 : KindIs 8 130 142 false 0 8 0 64 where
  of := kindOf_8
  own := fun c vt vx vb vr w hk hC => by
    have h1 := own127 c vt vx vb vr w hC
    have h2 : ownVal c = plVal c.kind 0 0 0 0 0 := by unfold ownVal; rw [hk]; rfl
    rw [h2]; exact h1
  ent := enters_of Tryz.func130 (by kernel_rfl) rfl
  enh := enters_of Tryz.func142 (by kernel_rfl) rfl
  op := rfl
  e0 := rfl
  e1 := rfl
  e2 := rfl
  e3 := rfl

theorem kind9 : KindIs 9 144 143 true 0 64 0 0 where
  of := kindOf_9
  own := fun c vt vx vb vr w hk hC => by
    have h1 := own141 c vt vx vb vr w hC
    have h2 : ownVal c = plVal c.kind c.op c.k c.v 0 0 := by unfold ownVal; rw [hk]; rfl
    rw [h2]; exact h1
  ent := enters_of Tryz.func144 (by kernel_rfl) rfl
  enh := enters_of Tryz.func143 (by kernel_rfl) rfl
  op := rfl
  e0 := rfl
  e1 := rfl
  e2 := rfl
  e3 := rfl

set_option maxRecDepth 10000 in
set_option maxHeartbeats 1000000 in
theorem conFault_none (c : Md.Cn) (vt vx vb vr : Value) (n : Int) (w : World) (hC : CnAt w c vt vx vb vr) (hk : c.kind < 1 ∨ 9 < c.kind) :
    Calls Tryz.prog 61 #[cnVal c vt vx vb vr, .int .i64 n] w fun e w' => e = .returned (.int .i64 (Md.fault c n)) ∧ Below w.heap.size w w' := by
  obtain ⟨ta, tc, rfl, _⟩ := id hC.t
  obtain ⟨xa, xc, rfl, _⟩ := id hC.x
  obtain ⟨ba, bc, rfl, _⟩ := id hC.b
  obtain ⟨ra, rc, rfl, _⟩ := id hC.r
  have hres : Hid (Md.fault c n = 43) := by
    have : Md.kindBad c.kind c.op = true := by simp [Md.kindBad, hk]
    show _ = _
    simp [Md.fault, this]
  have HK : Hid (∀ w, Calls Tryz.prog 81 #[.int .i64 c.kind] w fun e w' => e = .returned (.tuple #[.agg #[.nilFunc, .bool false, .int .i64 0, .int .i64 0, .int .i64 0, .int .i64 0, .nilFunc], .bool false]) ∧ Below w.heap.size w w') := fun w => kindOf_none c.kind w hk
  clear hC hk
  unfold cnVal
  go_enter Tryz.func61, Tryz.ntmps61
  go_wp2_with fail
  refine (HK.out _).mono ?_
  rintro e w1 ⟨rfl, hb1⟩
  have hbw : Hid (Below w.heap.size w w1) := ((Below.refl _ _).alloc (Nat.le_refl _) _).trans (hb1.mono (by simp))
  clear hb1
  go_wp2_with fail
  go_ret
  exact ⟨ret_int hres.out.symm, hbw.out.alloc hbw.out.size _⟩

theorem conFault_any (c : Md.Cn) (vt vx vb vr : Value) (n : Int) (w : World) (hC : CnAt w c vt vx vb vr) :
    Calls Tryz.prog 61 #[cnVal c vt vx vb vr, .int .i64 n] w fun e w' => e = .returned (.int .i64 (Md.fault c n)) ∧ Below w.heap.size w w' := by
  by_cases hk : c.kind < 1 ∨ 9 < c.kind
  · exact conFault_none c vt vx vb vr n w hC hk
  · have h19 : 1 ≤ c.kind ∧ c.kind ≤ 9 := by omega
    rcases (show c.kind = 1 ∨ c.kind = 2 ∨ c.kind = 3 ∨ c.kind = 4 ∨ c.kind = 5 ∨ c.kind = 6 ∨ c.kind = 7 ∨ c.kind = 8 ∨ c.kind = 9 by omega) with h | h | h | h | h | h | h | h | h
    · exact conFault_kind c vt vx vb vr n w (by rw [h]; exact kind1) hC h19
    · exact conFault_kind c vt vx vb vr n w (by rw [h]; exact kind2) hC h19
    · exact conFault_kind c vt vx vb vr n w (by rw [h]; exact kind3) hC h19
    · exact conFault_kind c vt vx vb vr n w (by rw [h]; exact kind4) hC h19
    · exact conFault_kind c vt vx vb vr n w (by rw [h]; exact kind5) hC h19
    · exact conFault_kind c vt vx vb vr n w (by rw [h]; exact kind6) hC h19
    · exact conFault_kind c vt vx vb vr n w (by rw [h]; exact kind7) hC h19
    · exact conFault_kind c vt vx vb vr n w (by rw [h]; exact kind8) hC h19
    · exact conFault_kind c vt vx vb vr n w (by rw [h]; exact kind9) hC h19
end Go.Proofs.YtemnbcilmbojhaaGreatDoor

namespace Go.Proofs.YtemnbcilmbojhaaGreatDoor
open Go.RowKit

set_option maxHeartbeats 400000 in
theorem manyCount_any (n : Int) (w : World) : Calls Tryz.prog 21 #[.int .i64 n] w fun e w' => e = .returned (.pointer (some ⟨w.heap.size, 0, none⟩)) ∧ w' = w.alloc (.cells #[.int .i64 n] 101) := by
  go_enter Tryz.func21, Tryz.ntmps21
  go_wp2
  go_ret
  exact ⟨rfl, rfl⟩

theorem below_grownBy {w W w' : World} {P : Nat} (hW : Below w.heap.size w W) (hg : W.grownBy w' (some P)) (hP : w.heap.size ≤ P) : Below w.heap.size w w' :=
  ⟨hg.os.trans hW.os, hg.tape.trans hW.tape, hg.output.trans hW.output, Nat.le_trans hW.size hg.size, fun k hk => (hg.block k (Nat.lt_of_lt_of_le hk hW.size) (fun e => by injection e with e; omega)).trans (hW.block k hk)⟩

/-- What few answers. -/
structure Few (cost : Nat) (w : World) (e : Ending) (w' : World) : Prop where
  out : ∃ b, e = .returned (.bool b) ∧ (b = true → cost ≤ 20000)
  rest : Below w.heap.size w w'

end Go.Proofs.YtemnbcilmbojhaaGreatDoor
