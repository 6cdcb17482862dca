/-
  A count of parts.
-/
import Derived.Test.YtmhfabnpfkkbcaaMdBits
import Derived.Test.YtmhfabnpfkkbcaaMdFault
namespace Go.Proofs.Ytmhfabnpfkkbcaa
open Go.RowKit

/-- A count, in its block. -/
def CountAt (w : World) (P : Nat) (left : Int) : Prop := w.heap[P]? = some (.cells #[.int .i64 left] 71 (0, 0))
theorem CountAt.cell {w : World} {P : Nat} {left : Int} (h : CountAt w P left) : w.cell? ⟨P, 0, none⟩ = some (.int .i64 left) ∧ w.frozen? ⟨P, 0, none⟩ = false := by
  unfold CountAt at h
  simp [World.cell?, World.frozen?, h]
theorem CountAt.lt {w : World} {P : Nat} {left : Int} (h : CountAt w P left) : P < w.heap.size := (Array.getElem?_eq_some_iff.1 h).1
theorem CountAt.below {w w' : World} {P : Nat} {left : Int} (h : CountAt w P left) (hb : Below w.heap.size w w') : CountAt w' P left := (hb.block P h.lt).trans h

/-- What was counted: no more than what was left, where some is left. -/
structure Took (P : Nat) (left : Int) (cost : Int) (w w' : World) : Prop where
  out : ∃ left', CountAt w' P left' ∧ left' ≤ 20000 ∧ -9223372036854775807 ≤ left' ∧ (0 ≤ left' → left' + cost ≤ left)
  grown : w.grownBy w' (some P)

/-- A Boolean comes back. -/
def IsBool (e : Ending) : Prop := ∃ b, e = .returned (.bool b)
theorem grownBy_refl (w : World) (row : Option Nat) : w.grownBy w row := ⟨rfl, rfl, rfl, Nat.le_refl _, fun _ _ _ => rfl⟩
theorem grownBy_trans {w w1 w2 : World} {row : Option Nat} (h : w.grownBy w1 row) (k : w1.grownBy w2 row) : w.grownBy w2 row :=
  ⟨k.os.trans h.os, k.tape.trans h.tape, k.output.trans h.output, Nat.le_trans h.size k.size, fun i hi hne => (k.block i (Nat.lt_of_lt_of_le hi h.size) hne).trans (h.block i hi hne)⟩
theorem grownBy_below {w w1 : World} {row : Option Nat} (h : Below w.heap.size w w1) : w.grownBy w1 row := ⟨h.os, h.tape, h.output, h.size, fun i hi _ => h.block i hi⟩

set_option maxHeartbeats 400000 in
theorem ok_any (P : Nat) (left : Int) (w : World) (h : CountAt w P left) : Calls Try.prog 22 #[.pointer (some ⟨P, 0, none⟩)] w fun e w' => e = .returned (.bool (decide (0 ≤ left))) ∧ w' = w := by
  obtain ⟨h1, _⟩ := h.cell
  clear h
  go_enter Try.func22, Try.ntmps22
  go_wp2
  go_ret
  exact ⟨rfl, rfl⟩

set_option maxHeartbeats 400000 in
theorem add_any (P : Nat) (left : Int) (n : Nat) (w : World) (h : CountAt w P left) (hl : left ≤ 20000) (hl2 : -9223372036854775807 ≤ left) (hn : n ≤ maxLen) : Calls Try.prog 21 #[.pointer (some ⟨P, 0, none⟩), .int .i64 (n : Int)] w fun e w' => IsBool e ∧ Took P left n w w' := by
  obtain ⟨h1, h2⟩ := h.cell
  have hlt := h.lt
  unfold maxLen at hn
  by_cases h0 : 0 ≤ left
  · have hb : w.heap[P]? = some (.cells #[.int .i64 left] 71 (0, 0)) := h
    have HB : Hid (w.heap[P]? = some (.cells #[.int .i64 left] 71 (0, 0))) := hb
    have hw : wrap64 (left - (n : Int)) = left - (n : Int) := by unfold wrap64; omega
    obtain ⟨V, hV⟩ : ∃ V, w.setCell ⟨P, 0, none⟩ (.int .i64 (left - (n : Int))) = V := ⟨_, rfl⟩
    have hc : CountAt V P (left - n) := by
      rw [← hV]; unfold CountAt
      simp [World.setCell, Array.getElem?_modify, hb]
    have hg : w.grownBy V (some P) := by
      rw [← hV]
      exact ⟨rfl, rfl, rfl, by simp [World.setCell], fun k _ hne => Below.heap_setCell w ⟨P, 0, none⟩ _ k (fun e => hne (by rw [e]))⟩
    obtain ⟨h3, h4⟩ := hc.cell
    have HT : Hid (Took P left n w V) := ⟨⟨_, hc, by omega, by omega, fun _ => by omega⟩, hg⟩
    clear hb h hc hg
    go_enter Try.func21, Try.ntmps21
    go_wp2
    go_ret
    exact ⟨⟨_, rfl⟩, HT.out⟩
  · have HT : Hid (Took P left n w w) := ⟨⟨left, h, hl, hl2, fun h => absurd h h0⟩, grownBy_refl _ _⟩
    clear h
    go_enter Try.func21, Try.ntmps21
    go_wp2
    go_ret
    exact ⟨⟨_, rfl⟩, HT.out⟩

theorem add_one (P : Nat) (left : Int) (w : World) (h : CountAt w P left) (hl : left ≤ 20000) (hl2 : -9223372036854775807 ≤ left) : Calls Try.prog 21 #[.pointer (some ⟨P, 0, none⟩), .int .i64 1] w fun e w' => IsBool e ∧ Took P left 1 w w' := add_any P left 1 w h hl hl2 (by decide)
/-- How many parts lists have. -/
def costL : List (List Int) → Nat
  | [] => 0
  | r :: l => r.length + 1 + costL l
theorem costL_append (a b : List (List Int)) : costL (a ++ b) = costL a + costL b := by
  induction a with
  | nil => simp [costL]
  | cons r a ih => simp only [List.cons_append, costL, ih]; omega
theorem costL_next {l : List (List Int)} {k : Nat} (h : k < l.length) : costL (l.take (k + 1)) = costL (l.take k) + (l[k].length + 1) := by
  rw [List.take_succ_eq_append_getElem h, costL_append]; simp [costL]
theorem costL_mem {l : List (List Int)} {r : List Int} (h : r ∈ l) : r.length + 1 ≤ costL l := by
  induction l with
  | nil => cases h
  | cons x l ih =>
    rcases List.mem_cons.1 h with rfl | h
    · simp only [costL]; omega
    · have := ih h; simp only [costL]; omega
theorem costL_len (l : List (List Int)) : l.length ≤ costL l := by
  induction l with
  | nil => simp
  | cons r l ih => simp only [costL, List.length_cons]; omega

set_option maxRecDepth 10000 in
set_option maxHeartbeats 1000000 in
theorem lists_count (P : Nat) (left : Int) (v : Value) (l : List (List Int)) (w : World) (h : CountAt w P left) (hl : left ≤ 20000) (hl2 : -9223372036854775807 ≤ left) (hv : ∀ w', w.grownBy w' (some P) → RowsAt w' v l) :
    Calls Try.prog 57 #[.pointer (some ⟨P, 0, none⟩), v] w fun e w' => e = .returned (.tuple #[]) ∧ Took P left (costL l) w w' := by
  have HV : Hid (∀ w', w.grownBy w' (some P) → RowsAt w' v l) := hv
  obtain ⟨a, cap, rfl, hm⟩ := (hv w (grownBy_refl _ _)).form
  unfold maxLen at hm
  have H0 : Hid (CountAt w P left) := h
  clear hv h
  go_enter Try.func57, Try.ntmps57
  go_wp2_with fail
  go_loopw [4] (fun iv wr => ∃ (k : Nat) (lf : Int), iv = .int .i64 (k : Int) ∧ k ≤ l.length ∧ Hid (CountAt wr P lf) ∧ lf ≤ 20000 ∧ -9223372036854775807 ≤ lf ∧ Hid (0 ≤ lf → lf + costL (l.take k) ≤ left) ∧ Hid (w.grownBy wr (some P))) (fun iv _ => l.length - (intOf iv).toNat)
  case atStart => exact ⟨0, left, rfl, Nat.zero_le _, H0, hl, hl2, (fun _ => by simp [costL]), grownBy_refl _ _⟩
  case round =>
    obtain ⟨k, lf, rfl, hk, hC, h1, h2, hT, hG⟩ := hrel
    clear H0
    by_cases hlt : k < l.length
    · have hkI : (k : Int) < (l.length : Int) := by omega
      by_cases h0 : 0 ≤ lf
      · have hd : decide (0 ≤ lf) = true := by simpa using h0
        obtain ⟨ra, rc, hre, _, hro⟩ := HV.out _ hG.out
        injection hre with e1 e2 e3
        subst e1 e3
        obtain ⟨b0, o0, ha, hb0, hcs⟩ := hro (by omega)
        subst ha
        have HRO : Hid (∀ w', w.grownBy w' (some P) → ∃ u, w'.cell? ⟨b0, o0 + k, none⟩ = some u ∧ IntsAt w' u l[k]) := fun w' hw' => by
          obtain ⟨ra', rc', hre', _, hro'⟩ := HV.out _ hw'
          injection hre' with e1' e2' e3'
          obtain ⟨b0', o0', ha', _, hcs'⟩ := hro' (by omega)
          rw [← e1'] at ha'
          injection ha' with ha'
          injection ha' with h1' h2' _
          subst h1' h2'
          exact hcs' k hlt
        have hnx := costL_next hlt
        have HNX : Hid (costL (l.take (k + 1)) = costL (l.take k) + (l[k].length + 1)) := hnx
        clear hro hcs e2 hnx
        go_wp2_with (first
          | (go_at_call 22; refine (ok_any P lf _ hC.out).mono ?_; rintro e w' ⟨rfl, hww⟩; rw [hww])
          | (go_at_call 21; refine calls_at (add_one P lf _ hC.out h1 h2) (by with_reducible rfl) (by with_reducible rfl) ?_; rintro e w1 ⟨⟨bb, rfl⟩, ⟨⟨lf1, hC1, h11, h12, hT1⟩, hG1⟩⟩;
             have hg1 := grownBy_trans hG.out hG1;
             obtain ⟨u, hu, hI⟩ := HRO.out _ hg1;
             obtain ⟨ua, uc, hue, hum⟩ := hI.form;
             subst hue;
             have HC1 : Hid (CountAt w1 P lf1) := hC1;
             have HT1 : Hid (0 ≤ lf1 → lf1 + 1 ≤ lf) := hT1;
             have HG1 : Hid (w.grownBy w1 (some P)) := hg1;
             clear hC1 hT1 hG1 hg1 hI)
          | (go_at_call 21; refine calls_at (add_any P lf1 (l[k]).length _ HC1.out h11 h12 hum) (by with_reducible rfl) (by with_reducible rfl) ?_; rintro e w2 ⟨⟨bc, rfl⟩, ⟨⟨lf2, hC2, h21, h22, hT2⟩, hG2⟩⟩;
             have HC2 : Hid (CountAt w2 P lf2) := hC2;
             have HT2 : Hid (0 ≤ lf2 → lf2 + ((l[k]).length : Int) ≤ lf1) := hT2;
             have HG2 : Hid (w.grownBy w2 (some P)) := grownBy_trans HG1.out hG2;
             clear hC2 hT2 hG2))
        go_roundw
        case rel => exact ⟨k + 1, lf2, by go_num, by omega, HC2, h21, h22, (fun h => by have a1 := HT2.out h; have a2 := HT1.out (by omega); have a3 := hT.out (by omega); rw [HNX.out]; omega), HG2⟩
        case measure => simp [intOf]; omega
      · have hd : decide (0 ≤ lf) = false := by simpa using h0
        have HD : Hid (Took P left (costL l) w _) := ⟨⟨lf, hC.out, h1, h2, fun h => absurd h h0⟩, hG.out⟩
        go_wp2_with (go_at_call 22; refine (ok_any P lf _ hC.out).mono ?_; rintro e w' ⟨rfl, hww⟩; rw [hww])
        go_end0
        exact ⟨rfl, HD.out⟩
    · have hkI : ¬ (k : Int) < (l.length : Int) := by omega
      have HD : Hid (Took P left (costL l) w _) := ⟨⟨lf, hC.out, h1, h2, fun h => by have := hT.out h; rwa [List.take_of_length_le (by omega)] at this⟩, hG.out⟩
      go_wp2_with fail
      go_end0
      exact ⟨rfl, HD.out⟩
end Go.Proofs.Ytmhfabnpfkkbcaa
