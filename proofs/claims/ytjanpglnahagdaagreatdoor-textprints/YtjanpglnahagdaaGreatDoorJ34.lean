/-
  Put together: MdFewM, MdLayK.
-/
import Derived.Test.YtjanpglnahagdaaGreatDoorJ29
import Derived.Test.YtjanpglnahagdaaGreatDoorJ33
import Derived.Test.YtjanpglnahagdaaGreatDoorMdLayV
namespace Go.Proofs.YtjanpglnahagdaaGreatDoor
open Go.RowKit

def costV : List Md.Vr → Nat
  | [] => 0
  | v :: l => v.name.size + 1 + costV l
theorem costV_append (a b : List Md.Vr) : costV (a ++ b) = costV a + costV b := by
  induction a with
  | nil => simp [costV]
  | cons r a ih => simp only [List.cons_append, costV, ih]; omega
theorem costV_next {l : List Md.Vr} {k : Nat} (h : k < l.length) : costV (l.take (k + 1)) = costV (l.take k) + (l[k].name.size + 1) := by
  rw [List.take_succ_eq_append_getElem h, costV_append]; simp [costV]
def costK : List Md.Cn → Nat
  | [] => 0
  | c :: l => costC c + costK l
theorem costK_append (a b : List Md.Cn) : costK (a ++ b) = costK a + costK b := by
  induction a with
  | nil => simp [costK]
  | cons r a ih => simp only [List.cons_append, costK, ih]; omega
theorem costK_next {l : List Md.Cn} {k : Nat} (h : k < l.length) : costK (l.take (k + 1)) = costK (l.take k) + costC l[k] := by
  rw [List.take_succ_eq_append_getElem h, costK_append]; simp [costK]
def costM (m : Md.Mo) : Nat := costV m.vars + costK m.cons + m.goal.length

set_option maxHeartbeats 400000 in
theorem text_count (P : Nat) (left : Int) (s : ByteArray) (w : World) (h : CountAt w P left) (hl : left ≤ 20000) (hl2 : -9223372036854775807 ≤ left) (hs : s.size ≤ maxLen) : Calls Tryz.prog 12 #[.pointer (some ⟨P, 0, none⟩), .string s] w fun e w' => e = .returned (.tuple #[]) ∧ Took P left (s.size + 1 : Nat) w w' := by
  have H1 : Hid (Calls Tryz.prog 14 #[.pointer (some ⟨P, 0, none⟩), .int .i64 1] w fun e w' => IsBool e ∧ Took P left 1 w w') := add_any P left 1 w h hl hl2 (by decide)
  have HS : Hid (s.size ≤ maxLen) := hs
  clear h hs
  go_enter Tryz.func12, Tryz.ntmps12
  go_wp2_with fail
  refine calls_at H1.out (by with_reducible rfl) (by with_reducible rfl) ?_
  rintro e w1 ⟨⟨b1, rfl⟩, ⟨⟨l1, hC1, h11, h12, hT1⟩, hG1⟩⟩
  have H2 : Hid (Calls Tryz.prog 14 #[.pointer (some ⟨P, 0, none⟩), .int .i64 (s.size : Int)] w1 fun e w' => IsBool e ∧ Took P l1 s.size w1 w') := add_any P l1 s.size w1 hC1 h11 h12 HS.out
  have HT1 : Hid (0 ≤ l1 → l1 + 1 ≤ left) := hT1
  have HG1 : Hid (w.grownBy w1 (some P)) := hG1
  clear hC1 hT1 hG1
  go_wp2_with fail
  refine calls_at H2.out (by with_reducible rfl) (by with_reducible rfl) ?_
  rintro e w2 ⟨⟨b2, rfl⟩, ⟨⟨l2, hC2, h21, h22, hT2⟩, hG2⟩⟩
  go_wp2_with fail
  go_end0
  exact ⟨rfl, ⟨⟨l2, hC2, h21, h22, fun h => by have b1 := hT2 h; have b2 := HT1.out (by omega); omega⟩, grownBy_trans HG1.out hG2⟩⟩

set_option maxRecDepth 10000 in
set_option maxHeartbeats 4000000 in
theorem model_count (P : Nat) (left : Int) (m : Md.Mo) (vv vc vg : Value) (w : World) (h : CountAt w P left) (hl : left ≤ 20000) (hl2 : -9223372036854775807 ≤ left) (w0 : World) (h0 : MoAt w0 m vv vc vg) (hb0 : Below w0.heap.size w0 w) (hP0 : w0.heap.size ≤ P) :
    Calls Tryz.prog 5 #[.pointer (some ⟨P, 0, none⟩), moVal m vv vc vg] w fun e w' => e = .returned (.tuple #[]) ∧ Took P left (costM m) w w' := by
  obtain ⟨va, vp, rfl, hvm⟩ := h0.v.form
  obtain ⟨ca, cp, rfl, hcm⟩ := h0.c.form
  obtain ⟨ga, gp, rfl, hgm⟩ := h0.g.form
  have Hgm : Hid (m.goal.length ≤ maxLen) := hgm
  unfold maxLen at hvm hcm hgm
  have hP := h.lt
  obtain ⟨W, hW⟩ : ∃ W, w.alloc (.cells #[.slice va m.vars.length vp, .slice ca m.cons.length cp, .bool m.has, .slice ga m.goal.length gp] 26) = W := ⟨_, rfl⟩
  have hbW : Below w.heap.size w W := by rw [← hW]; exact (Below.refl _ _).alloc (Nat.le_refl _) _
  have hN : W.heap[w.heap.size]? = some (.cells #[.slice va m.vars.length vp, .slice ca m.cons.length cp, .bool m.has, .slice ga m.goal.length gp] 26) := by rw [← hW]; exact heap_alloc_new w _
  have hNl : w.heap.size < W.heap.size := (Array.getElem?_eq_some_iff.1 hN).1
  have HN : Hid (∀ w', W.grownBy w' (some P) → w'.heap[w.heap.size]? = some (.cells #[.slice va m.vars.length vp, .slice ca m.cons.length cp, .bool m.has, .slice ga m.goal.length gp] 26)) := fun w' hg => (hg.block _ hNl (fun e => by injection e with e; omega)).trans hN
  have HG0 : Hid (w.grownBy W (some P)) := grownBy_below hbW
  have HBW : Hid (∀ w', W.grownBy w' (some P) → Below w0.heap.size w0 w') := fun w' hg => below_grownBy hb0 (grownBy_trans HG0.out hg) hP0
  have HM : Hid (MoAt w0 m (.slice va m.vars.length vp) (.slice ca m.cons.length cp) (.slice ga m.goal.length gp)) := h0
  have HC0 : Hid (CountAt W P left) := h.below hbW
  obtain ⟨⟨p0, p1, p2, p3⟩, _⟩ := box4 hN
  unfold moVal
  clear h0 hb0 hP0 h hbW hN
  go_enter Tryz.func5, Tryz.ntmps5
  go_wp2_with fail
  go_loopw [4] (fun iv wr => ∃ (k : Nat) (lf : Int), iv = .int .i64 (k : Int) ∧ k ≤ m.vars.length ∧ Hid (CountAt wr P lf) ∧ lf ≤ 20000 ∧ -9223372036854775807 ≤ lf ∧ Hid (0 ≤ lf → lf + (costV (m.vars.take k) : Int) ≤ left) ∧ Hid (W.grownBy wr (some P))) (fun iv _ => m.vars.length - (intOf iv).toNat)
  case atStart => exact ⟨0, left, rfl, Nat.zero_le _, HC0, hl, hl2, (fun _ => by simp [costV]), grownBy_refl _ _⟩
  case round =>
    obtain ⟨k, lf, rfl, hk, hCw, h1, h2, hT, hG⟩ := hrel
    clear p0 p1 p2 p3
    obtain ⟨⟨p0, p1, p2, p3⟩, _⟩ := box4 (HN.out _ hG.out)
    rename World => wk
    by_cases hlt : k < m.vars.length
    · have hkI : (k : Int) < (m.vars.length : Int) := by omega
      by_cases h0 : 0 ≤ lf
      · have hd : decide (0 ≤ lf) = true := by simpa using h0
        obtain ⟨a', c', hve, _, hvn, hvo⟩ := HM.out.v
        injection hve with e1 e2 e3
        subst e1 e3
        obtain ⟨b, off, rfl, hb, hc⟩ := hvo (by omega)
        have d0 := ((HBW.out _ hG.out).cell (p := ⟨b, off + k * 3, none⟩) hb).trans (hc k hlt).1
        have hnx : Hid (costV (m.vars.take (k + 1)) = costV (m.vars.take k) + (m.vars[k].name.size + 1)) := costV_next hlt
        have H77 : Hid (Calls Tryz.prog 12 #[.pointer (some ⟨P, 0, none⟩), .string m.vars[k].name] wk fun e w'' => e = .returned (.tuple #[]) ∧ Took P lf (m.vars[k].name.size + 1 : Nat) wk w'') := text_count P lf m.vars[k].name wk hCw.out h1 h2 (hvn _ (List.getElem_mem hlt))
        clear hvo hc hvn
        generalize m.vars[k] = v at *
        go_wp2_with (first
          | (go_at_call 6; refine (ok_any P lf _ hCw.out).mono ?_; rintro e w' ⟨rfl, hww⟩; rw [hww])
          | (go_at_call 12; refine calls_at H77.out (by with_reducible rfl) (by with_reducible rfl) ?_; rintro e w1 ⟨rfl, ⟨⟨l1, hC1, h11, h12, hT1⟩, hG1⟩⟩))
        go_roundw
        case rel => exact ⟨k + 1, l1, by go_num, by omega, hC1, h11, h12, (fun h => by have b1 := hT1 h; have b2 := hT.out (by omega); rw [hnx.out]; omega), grownBy_trans hG.out hG1⟩
        case measure => simp [intOf]; omega
      · have hd : decide (0 ≤ lf) = false := by simpa using h0
        have HX : Hid (0 ≤ lf → lf + (costV m.vars : Int) ≤ left) := fun h => absurd h h0
        go_wp2_with (go_at_call 6; refine (ok_any P lf _ hCw.out).mono ?_; rintro e w' ⟨rfl, hww⟩; rw [hww])
        go_loopw [5] (fun iv wr => ∃ (k : Nat) (lf : Int), iv = .int .i64 (k : Int) ∧ k ≤ m.cons.length ∧ Hid (CountAt wr P lf) ∧ lf ≤ 20000 ∧ -9223372036854775807 ≤ lf ∧ Hid (0 ≤ lf → lf + (costV m.vars : Int) + (costK (m.cons.take k) : Int) ≤ left) ∧ Hid (W.grownBy wr (some P))) (fun iv _ => m.cons.length - (intOf iv).toNat)
        case atStart => exact ⟨0, lf, rfl, Nat.zero_le _, hCw, h1, h2, (fun h => by have := HX.out h; simp [costK]; omega), hG⟩
        case round =>
          obtain ⟨i, lf2, rfl, hi, hCw2, a1, a2, hT2, hG2⟩ := hrel
          clear p0 p1 p2 p3
          obtain ⟨⟨p0, p1, p2, p3⟩, _⟩ := box4 (HN.out _ hG2.out)
          by_cases hit : i < m.cons.length
          · have hiI : (i : Int) < (m.cons.length : Int) := by omega
            by_cases h0' : 0 ≤ lf2
            · have hd' : decide (0 ≤ lf2) = true := by simpa using h0'
              obtain ⟨a', c', hce, _, hco⟩ := HM.out.c
              injection hce with e1 e2 e3
              subst e1 e3
              obtain ⟨b, off, rfl, hb, hc⟩ := hco (by omega)
              obtain ⟨vt, vx, vb, vr, hcn, hcl⟩ := hc i hit
              obtain ⟨ta, tc, rfl, _⟩ := hcn.t.form
              obtain ⟨xa, xc, rfl, _⟩ := hcn.x.form
              obtain ⟨ba, bc, rfl, _⟩ := hcn.b.form
              obtain ⟨ra, rc, rfl, _⟩ := hcn.r.form
              obtain ⟨d0, d1, d2, d3, d4, d5, d6, d7, d8, d9⟩ := hcl.below (HBW.out _ hG2.out)
              have hnx : Hid (costK (m.cons.take (i + 1)) = costK (m.cons.take i) + costC m.cons[i]) := costK_next hit
              have H78 : Hid (Calls Tryz.prog 13 #[.pointer (some ⟨P, 0, none⟩), cnVal m.cons[i] _ _ _ _] _ fun e w'' => e = .returned (.tuple #[]) ∧ Took P lf2 (costC m.cons[i]) _ w'') := con_count P lf2 m.cons[i] _ _ _ _ _ hCw2.out a1 a2 (fun w'' hg' => hcn.below (HBW.out _ (grownBy_trans hG2.out hg')))
              unfold cnVal at H78
              clear hco hc hcn
              generalize m.cons[i] = c at *
              go_wp2_with (first
                | (go_at_call 6; refine (ok_any P lf2 _ hCw2.out).mono ?_; rintro e w' ⟨rfl, hww⟩; rw [hww])
                | (go_at_call 13; refine calls_at H78.out (by with_reducible rfl) (by with_reducible rfl) ?_; rintro e w1 ⟨rfl, ⟨⟨l1, hC1, h11, h12, hT1⟩, hG1⟩⟩))
              go_roundw
              case rel => exact ⟨i + 1, l1, by go_num, by omega, hC1, h11, h12, (fun h => by have b1 := hT1 h; have b2 := hT2.out (by omega); rw [hnx.out]; omega), grownBy_trans hG2.out hG1⟩
              case measure => simp [intOf]; omega
            · have hd' : decide (0 ≤ lf2) = false := by simpa using h0'
              have HX2 : Hid (0 ≤ lf2 → lf2 + (costV m.vars : Int) + (costK m.cons : Int) ≤ left) := fun h => absurd h h0'
              have H28 : Hid (Calls Tryz.prog 14 #[.pointer (some ⟨P, 0, none⟩), .int .i64 (m.goal.length : Int)] _ fun e w' => IsBool e ∧ Took P lf2 m.goal.length _ w') := add_any P lf2 m.goal.length _ hCw2.out a1 a2 Hgm.out
              go_wp2_with (first | (go_at_call 6; refine (ok_any P lf2 _ hCw2.out).mono ?_; rintro e w' ⟨rfl, hww⟩; rw [hww]) | (go_at_call 14; refine calls_at H28.out (by with_reducible rfl) (by with_reducible rfl) ?_; rintro e w1 ⟨⟨b1, rfl⟩, ⟨⟨l1, hC1, h11, h12, hT1⟩, hG1⟩⟩))
              go_end0
              exact ⟨rfl, ⟨⟨l1, hC1, h11, h12, fun h => by have b1 := hT1 h; have b2 := HX2.out (by omega); unfold costM; omega⟩, grownBy_trans HG0.out (grownBy_trans hG2.out hG1)⟩⟩
          · have hiI : ¬ (i : Int) < (m.cons.length : Int) := by omega
            have HX2 : Hid (0 ≤ lf2 → lf2 + (costV m.vars : Int) + (costK m.cons : Int) ≤ left) := by
              have := hT2.out
              rw [List.take_of_length_le (by omega)] at this; exact this
            have H28 : Hid (Calls Tryz.prog 14 #[.pointer (some ⟨P, 0, none⟩), .int .i64 (m.goal.length : Int)] _ fun e w' => IsBool e ∧ Took P lf2 m.goal.length _ w') := add_any P lf2 m.goal.length _ hCw2.out a1 a2 Hgm.out
            go_wp2_with (go_at_call 14; refine calls_at H28.out (by with_reducible rfl) (by with_reducible rfl) ?_; rintro e w1 ⟨⟨b1, rfl⟩, ⟨⟨l1, hC1, h11, h12, hT1⟩, hG1⟩⟩)
            go_end0
            exact ⟨rfl, ⟨⟨l1, hC1, h11, h12, fun h => by have b1 := hT1 h; have b2 := HX2.out (by omega); unfold costM; omega⟩, grownBy_trans HG0.out (grownBy_trans hG2.out hG1)⟩⟩
    · have hkI : ¬ (k : Int) < (m.vars.length : Int) := by omega
      have HX : Hid (0 ≤ lf → lf + (costV m.vars : Int) ≤ left) := by
        have := hT.out
        rw [List.take_of_length_le (by omega)] at this; exact this
      go_wp2_with fail
      go_loopw [5] (fun iv wr => ∃ (k : Nat) (lf : Int), iv = .int .i64 (k : Int) ∧ k ≤ m.cons.length ∧ Hid (CountAt wr P lf) ∧ lf ≤ 20000 ∧ -9223372036854775807 ≤ lf ∧ Hid (0 ≤ lf → lf + (costV m.vars : Int) + (costK (m.cons.take k) : Int) ≤ left) ∧ Hid (W.grownBy wr (some P))) (fun iv _ => m.cons.length - (intOf iv).toNat)
      case atStart => exact ⟨0, lf, rfl, Nat.zero_le _, hCw, h1, h2, (fun h => by have := HX.out h; simp [costK]; omega), hG⟩
      case round =>
        obtain ⟨i, lf2, rfl, hi, hCw2, a1, a2, hT2, hG2⟩ := hrel
        clear p0 p1 p2 p3
        obtain ⟨⟨p0, p1, p2, p3⟩, _⟩ := box4 (HN.out _ hG2.out)
        by_cases hit : i < m.cons.length
        · have hiI : (i : Int) < (m.cons.length : Int) := by omega
          by_cases h0' : 0 ≤ lf2
          · have hd' : decide (0 ≤ lf2) = true := by simpa using h0'
            obtain ⟨a', c', hce, _, hco⟩ := HM.out.c
            injection hce with e1 e2 e3
            subst e1 e3
            obtain ⟨b, off, rfl, hb, hc⟩ := hco (by omega)
            obtain ⟨vt, vx, vb, vr, hcn, hcl⟩ := hc i hit
            obtain ⟨ta, tc, rfl, _⟩ := hcn.t.form
            obtain ⟨xa, xc, rfl, _⟩ := hcn.x.form
            obtain ⟨ba, bc, rfl, _⟩ := hcn.b.form
            obtain ⟨ra, rc, rfl, _⟩ := hcn.r.form
            obtain ⟨d0, d1, d2, d3, d4, d5, d6, d7, d8, d9⟩ := hcl.below (HBW.out _ hG2.out)
            have hnx : Hid (costK (m.cons.take (i + 1)) = costK (m.cons.take i) + costC m.cons[i]) := costK_next hit
            have H78 : Hid (Calls Tryz.prog 13 #[.pointer (some ⟨P, 0, none⟩), cnVal m.cons[i] _ _ _ _] _ fun e w'' => e = .returned (.tuple #[]) ∧ Took P lf2 (costC m.cons[i]) _ w'') := con_count P lf2 m.cons[i] _ _ _ _ _ hCw2.out a1 a2 (fun w'' hg' => hcn.below (HBW.out _ (grownBy_trans hG2.out hg')))
            unfold cnVal at H78
            clear hco hc hcn
            generalize m.cons[i] = c at *
            go_wp2_with (first
              | (go_at_call 6; refine (ok_any P lf2 _ hCw2.out).mono ?_; rintro e w' ⟨rfl, hww⟩; rw [hww])
              | (go_at_call 13; refine calls_at H78.out (by with_reducible rfl) (by with_reducible rfl) ?_; rintro e w1 ⟨rfl, ⟨⟨l1, hC1, h11, h12, hT1⟩, hG1⟩⟩))
            go_roundw
            case rel => exact ⟨i + 1, l1, by go_num, by omega, hC1, h11, h12, (fun h => by have b1 := hT1 h; have b2 := hT2.out (by omega); rw [hnx.out]; omega), grownBy_trans hG2.out hG1⟩
            case measure => simp [intOf]; omega
          · have hd' : decide (0 ≤ lf2) = false := by simpa using h0'
            have HX2 : Hid (0 ≤ lf2 → lf2 + (costV m.vars : Int) + (costK m.cons : Int) ≤ left) := fun h => absurd h h0'
            have H28 : Hid (Calls Tryz.prog 14 #[.pointer (some ⟨P, 0, none⟩), .int .i64 (m.goal.length : Int)] _ fun e w' => IsBool e ∧ Took P lf2 m.goal.length _ w') := add_any P lf2 m.goal.length _ hCw2.out a1 a2 Hgm.out
            go_wp2_with (first | (go_at_call 6; refine (ok_any P lf2 _ hCw2.out).mono ?_; rintro e w' ⟨rfl, hww⟩; rw [hww]) | (go_at_call 14; refine calls_at H28.out (by with_reducible rfl) (by with_reducible rfl) ?_; rintro e w1 ⟨⟨b1, rfl⟩, ⟨⟨l1, hC1, h11, h12, hT1⟩, hG1⟩⟩))
            go_end0
            exact ⟨rfl, ⟨⟨l1, hC1, h11, h12, fun h => by have b1 := hT1 h; have b2 := HX2.out (by omega); unfold costM; omega⟩, grownBy_trans HG0.out (grownBy_trans hG2.out hG1)⟩⟩
        · have hiI : ¬ (i : Int) < (m.cons.length : Int) := by omega
          have HX2 : Hid (0 ≤ lf2 → lf2 + (costV m.vars : Int) + (costK m.cons : Int) ≤ left) := by
            have := hT2.out
            rw [List.take_of_length_le (by omega)] at this; exact this
          have H28 : Hid (Calls Tryz.prog 14 #[.pointer (some ⟨P, 0, none⟩), .int .i64 (m.goal.length : Int)] _ fun e w' => IsBool e ∧ Took P lf2 m.goal.length _ w') := add_any P lf2 m.goal.length _ hCw2.out a1 a2 Hgm.out
          go_wp2_with (go_at_call 14; refine calls_at H28.out (by with_reducible rfl) (by with_reducible rfl) ?_; rintro e w1 ⟨⟨b1, rfl⟩, ⟨⟨l1, hC1, h11, h12, hT1⟩, hG1⟩⟩)
          go_end0
          exact ⟨rfl, ⟨⟨l1, hC1, h11, h12, fun h => by have b1 := hT1 h; have b2 := HX2.out (by omega); unfold costM; omega⟩, grownBy_trans HG0.out (grownBy_trans hG2.out hG1)⟩⟩

end Go.Proofs.YtjanpglnahagdaaGreatDoor

namespace Go.Proofs.YtjanpglnahagdaaGreatDoor
open Go.RowKit

/-- A row of the call's own, with a label of its own, that grows. -/
theorem row_step {base R b0 : Nat} {S1 : Lab} {F1 : Nat → List Value} {w1 W1 w2 : World} {fv fv' : Value} (hR : RoomAt ety base R S1 F1 w1) (hl : ∀ g, fv.ownBlock = some g → S1 g = 160 ∧ b0 ≤ g ∧ g < w1.heap.size) (hbase : base ≤ b0)
    (hW : Below w1.heap.size w1 W1) (hg : W1.grownBy w2 fv.ownBlock) (hn : fv'.ownBlock = fv.ownBlock ∨ ∃ g, fv'.ownBlock = some g ∧ w1.heap.size ≤ g) (ho : ∀ g, fv'.ownBlock = some g → g < w2.heap.size) :
    ∃ S2 : Lab, RoomAt ety base R S2 F1 w2 ∧ Agree S1 S2 w1 w2 ∧ ∀ g, fv'.ownBlock = some g → S2 g = 160 := by
  have gw := grownBy_of_below hW hg
  have hsz := gw.size
  have hRl := hR.lt
  have hbs := hR.bas
  have key : ∀ k, fv'.ownBlock = some k → (S1 k = 160 ∧ b0 ≤ k) ∨ w1.heap.size ≤ k := fun k hk => by
    rcases hn with e | ⟨g, e, hge⟩
    · rw [e] at hk; exact .inl ⟨(hl k hk).1, (hl k hk).2.1⟩
    · rw [e] at hk; injection hk with hk; exact .inr (by omega)
  have kept : ∀ k, k < w1.heap.size → S1 k ≠ 160 → w2.heap[k]? = w1.heap[k]? := fun k hk hS => gw.block k hk (fun e => hS (hl k e.symm).1)
  refine ⟨fun k => if fv'.ownBlock = some k then 160 else S1 k, ⟨?_, fun k hk => ?_, fun k hk => ?_, Nat.le_trans hbs hsz, ?_, fun f hf => ?_⟩, ⟨gw.os, gw.tape, gw.output, hsz, fun k hk => ?_, fun k hk h0 => kept k hk (by rw [h0]; decide)⟩, fun g hg' => by simp [hg']⟩
  · have : fv'.ownBlock ≠ some R := fun h => by
      rcases key R h with h1 | h1
      · rw [hR.lab] at h1; omega
      · omega
    simp [this, hR.lab]
  · have : fv'.ownBlock ≠ some k := fun h => by have := ho k h; omega
    simp [this]
    exact hR.top k (by omega)
  · have : fv'.ownBlock ≠ some k := fun h => by
      rcases key k h with h1 | h1 <;> omega
    simp [this]
    exact hR.low k hk
  · obtain ⟨cs, t, h1, h2⟩ := hR.blk
    exact ⟨cs, t, (kept R hRl (by rw [hR.lab]; decide)).trans h1, h2⟩
  · obtain ⟨v, h1, h2, h3⟩ := hR.field f hf
    refine ⟨v, (World.cell?_of_block (a := ⟨R, f, none⟩) (kept R hRl (by rw [hR.lab]; decide))).trans h1, ownsRow_same h2 (fun g hg' => kept g (h2.lt g hg').2 (by rw [h3 g hg']; omega)), fun g hg' => ?_⟩
    have : fv'.ownBlock ≠ some g := fun h => by
      have a := h3 g hg'
      have b := (h2.lt g hg').2
      rcases key g h with h1 | h1 <;> omega
    simp [this]
    exact h3 g hg'
  · by_cases h : fv'.ownBlock = some k
    · simp [h]
      rcases key k h with h1 | h1
      · exact h1.1.symm
      · omega
    · simp [h]
/-- A label that is taken back. -/
theorem RoomAt.free {base R b : Nat} {S : Lab} {F : Nat → List Value} {w : World} (h : RoomAt ety base R S F w) (hb : S b = 160) : RoomAt ety base R (fun k => if k = b then 0 else S k) F w := by
  refine ⟨?_, fun k hk => ?_, fun k hk => ?_, h.bas, h.blk, fun f hf => ?_⟩
  · have : R ≠ b := fun e => by rw [← e, h.lab] at hb; omega
    simp [this, h.lab]
  · by_cases e : k = b
    · simp [e]
    · simp [e]; exact h.top k hk
  · by_cases e : k = b
    · simp [e]
    · simp [e]; exact h.low k hk
  · obtain ⟨v, h1, h2, h3⟩ := h.field f hf
    refine ⟨v, h1, h2, fun g hg => ?_⟩
    have a := h3 g hg
    have : g ≠ b := fun e => by rw [← e, a] at hb; omega
    simp [this, a]

/-- A constraint that was laid within a list. -/
structure Con1 where
  bT : Nat
  bX : Nat
  bB : Nat
  bL : Nat
  cT : Nat
  cX : Nat
  cB : Nat
  cL : Nat
  D : List Row1
  M : List Nat
  c : Md.Cn
def Con1.cells (d : Con1) : List Value := [.int .i64 d.c.kind, .int .i64 d.c.op, .slice (some ⟨d.bT, 0, none⟩) d.c.terms.length (d.c.terms.length + 4), .int .i64 d.c.k, .int .i64 d.c.v, .int .i64 d.c.x, .int .i64 d.c.y, .slice (some ⟨d.bX, 0, none⟩) d.c.xs.length (d.c.xs.length + 4), .slice (some ⟨d.bB, 0, none⟩) d.c.table.length (d.c.table.length + 4), .slice (some ⟨d.bL, 0, none⟩) d.c.rows.length (d.c.rows.length + 4)]
def consCells (D : List Con1) : List Value := D.flatMap Con1.cells
def Con1.entI (d : Con1) : List Value := [.slice (some ⟨d.bX, 0, none⟩) (d.c.xs.length + 4) d.cX, .slice (some ⟨d.bB, 0, none⟩) (d.c.table.length + 4) d.cB] ++ d.D.map Row1.ent
def Con1.atI (d : Con1) : List Value := [.int .i64 (d.c.xs.length : Int), .int .i64 (d.c.table.length : Int)] ++ d.D.map Row1.at_
def Con1.entT (d : Con1) : Value := .slice (some ⟨d.bT, 0, none⟩) (d.c.terms.length + 4) d.cT
def Con1.atT (d : Con1) : Value := .int .i64 (d.c.terms.length : Int)
def Con1.entL (d : Con1) : Value := .slice (some ⟨d.bL, 0, none⟩) (d.c.rows.length + 4) d.cL
def Con1.atL (d : Con1) : Value := .int .i64 (d.c.rows.length : Int)
structure Con1.Ok (S : Lab) (w : World) (d : Con1) : Prop where
  t : DataT S w d.bT d.c.terms 4
  x : DataI S w d.bX d.c.xs 4
  b : DataI S w d.bB d.c.table 4
  l : DataL S w d.bL d.c.rows d.D d.M 4
theorem Con1.Ok.agree {S S' : Lab} {w w' : World} {d : Con1} (h : d.Ok S w) (ha : Agree S S' w w') : d.Ok S' w' := ⟨h.t.agree ha, h.x.agree ha, h.b.agree ha, h.l.agree ha⟩
theorem DataI.free {S S' : Lab} {w : World} {b : Nat} {l : List Int} {room : Nat} (h : DataI S w b l room) (hs : ∀ k, S k = 0 → S' k = 0) : DataI S' w b l room := ⟨hs _ h.lab, h.lt, h.cells⟩
theorem Con1.Ok.free {S S' : Lab} {w : World} {d : Con1} (h : d.Ok S w) (hs : ∀ k, S k = 0 → S' k = 0) : d.Ok S' w :=
  ⟨⟨hs _ h.t.lab, h.t.lt, h.t.cells⟩, h.x.free hs, h.b.free hs, ⟨hs _ h.l.lab, h.l.lt, h.l.rows, fun r hr => (h.l.ok r hr).free hs, h.l.len, fun i hi => ⟨hs _ (h.l.marks i hi).1, (h.l.marks i hi).2⟩, h.l.cells⟩⟩

/-- How many entries there are. -/
theorem ents_le : ∀ D : List Con1, (∀ d ∈ D, d.D.length = d.c.rows.length) → (D.flatMap Con1.entI).length ≤ 2 * costK (D.map Con1.c) ∧ (D.flatMap Con1.atI).length ≤ 2 * costK (D.map Con1.c) ∧ D.length ≤ costK (D.map Con1.c)
  | [], _ => by simp
  | d :: D, h => by
    have ih := ents_le D (fun x hx => h x (by simp [hx]))
    have hd := h d (by simp)
    have hr : d.c.rows.length ≤ costL d.c.rows := by
      generalize d.c.rows = l
      induction l with
      | nil => simp
      | cons r l ih => simp only [costL, List.length_cons]; omega
    simp only [List.flatMap_cons, List.length_append, Con1.entI, Con1.atI, List.length_cons, List.length_nil, List.length_map, List.map_cons, costK, costC] at *
    omega
theorem costK_take (l : List Md.Cn) (k : Nat) : costK (l.take k) ≤ costK l := by
  have h := costK_append (l.take k) (l.drop k)
  rw [List.take_append_drop] at h
  omega

/-- Where the first loop of layCons stands. -/
structure LK1 (base R : Nat) (S0 : Lab) (F0 : Nat → List Value) (w : World) (l : List Md.Cn) (k : Nat) (fv : Value) (S : Lab) (F : Nat → List Value) (D : List Con1) (wr : World) : Prop where
  room : RoomAt ety base R S F wr
  agree : Agree S0 S w wr
  own : wr.ownsRow w.heap.size 64 10 fv D.length (consCells D)
  lab : ∀ g, fv.ownBlock = some g → S g = 160
  rows : D.map Con1.c = l.take k
  ok : ∀ d ∈ D, d.Ok S wr
  f0 : F 0 = F0 0 ++ D.flatMap Con1.entI
  f1 : F 1 = F0 1 ++ D.flatMap Con1.atI
  f4 : F 4 = F0 4 ++ D.map Con1.entT
  f5 : F 5 = F0 5 ++ D.map Con1.atT
  f16 : F 16 = F0 16 ++ D.map Con1.entL
  f17 : F 17 = F0 17 ++ D.map Con1.atL
  f : ∀ j, j ≠ 0 → j ≠ 1 → j ≠ 4 → j ≠ 5 → j ≠ 16 → j ≠ 17 → F j = F0 j
  high : ∀ k, k < w.heap.size → 150 ≤ S0 k → wr.heap[k]? = w.heap[k]?
theorem LK1.len {base R : Nat} {S0 : Lab} {F0 : Nat → List Value} {w : World} {l : List Md.Cn} {k : Nat} {fv : Value} {S : Lab} {F : Nat → List Value} {D : List Con1} {wr : World} (h : LK1 base R S0 F0 w l k fv S F D wr) (hk : k ≤ l.length) : D.length = k := by
  have := congrArg List.length h.rows
  simp at this
  omega
theorem LK1.sizes {base R : Nat} {S0 : Lab} {F0 : Nat → List Value} {w : World} {l : List Md.Cn} {k : Nat} {fv : Value} {S : Lab} {F : Nat → List Value} {D : List Con1} {wr : World} (h : LK1 base R S0 F0 w l k fv S F D wr) (hc : costK l ≤ 20000) : (D.flatMap Con1.entI).length ≤ 40000 ∧ (D.flatMap Con1.atI).length ≤ 40000 ∧ D.length ≤ 20000 := by
  have h1 := ents_le D (fun d hd => by have := congrArg List.length (h.ok d hd).l.rows; simpa using this)
  rw [h.rows] at h1
  have := costK_take l k
  omega

/-- One constraint more. -/
theorem LK1.next {base R : Nat} {S0 : Lab} {F0 : Nat → List Value} {w : World} {l : List Md.Cn} {k : Nat} {fv fv' : Value} {S S1 : Lab} {F F1 : Nat → List Value} {D : List Con1} {wr w1 W1 w2 : World} {d : Con1} (h : LK1 base R S0 F0 w l k fv S F D wr) (hk : k < l.length) (hdc : d.c = l[k])
    (hR1 : RoomAt ety base R S1 F1 w1) (hA : Agree S S1 wr w1) (hd : d.Ok S1 w1) (h0 : F1 0 = F 0 ++ d.entI) (h1 : F1 1 = F 1 ++ d.atI) (h4 : F1 4 = F 4 ++ [d.entT]) (h5 : F1 5 = F 5 ++ [d.atT]) (h16 : F1 16 = F 16 ++ [d.entL]) (h17 : F1 17 = F 17 ++ [d.atL])
    (hF : ∀ j, j ≠ 0 → j ≠ 1 → j ≠ 4 → j ≠ 5 → j ≠ 16 → j ≠ 17 → F1 j = F j) (hh : ∀ k, k < wr.heap.size → 150 ≤ S k → w1.heap[k]? = wr.heap[k]?) (hbase : base ≤ w.heap.size)
    (hW : Below w1.heap.size w1 W1) (ho : w2.ownsRow w.heap.size 64 10 fv' (D.length + 1) (consCells D ++ d.cells)) (hg : W1.grownBy w2 fv.ownBlock) (hn : fv'.ownBlock = fv.ownBlock ∨ ∃ g, fv'.ownBlock = some g ∧ w1.heap.size ≤ g) :
    ∃ S2, LK1 base R S0 F0 w l (k + 1) fv' S2 F1 (D ++ [d]) w2 := by
  have hlt : ∀ g, fv.ownBlock = some g → w.heap.size ≤ g ∧ g < wr.heap.size := h.own.lt
  have hl1 : ∀ g, fv.ownBlock = some g → S1 g = 160 ∧ w.heap.size ≤ g ∧ g < w1.heap.size := fun g hg' => ⟨(hA.lab g (hlt g hg').2).trans (h.lab g hg'), (hlt g hg').1, Nat.lt_of_lt_of_le (hlt g hg').2 hA.size⟩
  obtain ⟨S2, hR2, hA2, hL2⟩ := row_step hR1 hl1 hbase hW hg hn (fun g hg' => (ho.lt g hg').2)
  have gw := grownBy_of_below hW hg
  refine ⟨S2, hR2, (h.agree.trans hA).trans hA2, ?_, hL2, ?_, ?_, ?_, ?_, ?_, ?_, ?_, ?_, fun j a0 a1 a4 a5 a16 a17 => (hF j a0 a1 a4 a5 a16 a17).trans (h.f j a0 a1 a4 a5 a16 a17), fun q hq hS => ?_⟩
  · simpa [consCells] using ho
  · rw [List.map_append, h.rows, List.take_succ_eq_append_getElem hk]; simp [hdc]
  · intro x hx
    rcases List.mem_append.1 hx with hx | hx
    · exact ((h.ok x hx).agree hA).agree hA2
    · rw [List.mem_singleton.1 hx]; exact hd.agree hA2
  · rw [h0, h.f0]; simp
  · rw [h1, h.f1]; simp
  · rw [h4, h.f4]; simp
  · rw [h5, h.f5]; simp
  · rw [h16, h.f16]; simp
  · rw [h17, h.f17]; simp
  · have hq1 : q < wr.heap.size := Nat.lt_of_lt_of_le hq h.agree.size
    exact (gw.block q (Nat.lt_of_lt_of_le hq1 hA.size) (fun he => by have := (hlt q he.symm).1; omega)).trans ((hh q hq1 (by rw [h.agree.lab q hq]; exact hS)).trans (h.high q hq hS))

/-- A mark of a list of constraints. -/
def kMark (j : Nat) : List Value := [.int .i64 0, .int .i64 0, .slice none 0 0, .int .i64 0, .int .i64 0, .int .i64 (lotI j), .int .i64 0, .slice none 0 0, .slice none 0 0, .slice none 0 0]
def kMarks (k : Nat) : List Value := (List.range k).flatMap kMark
theorem kMarks_next (k : Nat) : kMarks (k + 1) = kMarks k ++ kMark k := by unfold kMarks; rw [List.range_succ]; simp
/-- Where the second loop stands. -/
structure LK2 (base R : Nat) (S0 : Lab) (w : World) (l : List Md.Cn) (k : Nat) (fv : Value) (S : Lab) (F : Nat → List Value) (D : List Con1) (wr : World) : Prop where
  room : RoomAt ety base R S F wr
  agree : Agree S0 S w wr
  own : wr.ownsRow w.heap.size 64 10 fv (l.length + k) (consCells D ++ kMarks k)
  lab : ∀ g, fv.ownBlock = some g → S g = 160
  ok : ∀ d ∈ D, d.Ok S wr
  high : ∀ k, k < w.heap.size → 150 ≤ S0 k → wr.heap[k]? = w.heap[k]?
theorem LK2.next {base R : Nat} {S0 : Lab} {w : World} {l : List Md.Cn} {k : Nat} {fv fv' : Value} {S : Lab} {F : Nat → List Value} {D : List Con1} {wr W1 w2 : World} (h : LK2 base R S0 w l k fv S F D wr) (hbase : base ≤ w.heap.size)
    (hW : Below wr.heap.size wr W1) (ho : w2.ownsRow w.heap.size 64 10 fv' (l.length + k + 1) (consCells D ++ kMarks k ++ kMark k)) (hg : W1.grownBy w2 fv.ownBlock) (hn : fv'.ownBlock = fv.ownBlock ∨ ∃ g, fv'.ownBlock = some g ∧ wr.heap.size ≤ g) :
    ∃ S2, LK2 base R S0 w l (k + 1) fv' S2 F D w2 := by
  have hlt : ∀ g, fv.ownBlock = some g → w.heap.size ≤ g ∧ g < wr.heap.size := h.own.lt
  obtain ⟨S2, hR2, hA2, hL2⟩ := row_step h.room (fun g hg' => ⟨h.lab g hg', hlt g hg'⟩) hbase hW hg hn (fun g hg' => (ho.lt g hg').2)
  have gw := grownBy_of_below hW hg
  refine ⟨S2, hR2, h.agree.trans hA2, ?_, hL2, fun d hd => (h.ok d hd).agree hA2, fun q hq hS => (gw.block q (Nat.lt_of_lt_of_le hq h.agree.size) (fun he => by have := (hlt q he.symm).1; omega)).trans (h.high q hq hS)⟩
  rw [kMarks_next, ← List.append_assoc, ← Nat.add_assoc]; exact ho
end Go.Proofs.YtjanpglnahagdaaGreatDoor
