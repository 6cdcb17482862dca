/-
  few, of every problem.
-/
import Derived.Test.YtemnbcilmbojhaaGreatDoorJ20
import Derived.Test.YtemnbcilmbojhaaGreatDoorJ21
namespace Go.Proofs.YtemnbcilmbojhaaGreatDoor
open Go.RowKit

def costV : List Md.Vr → Nat
  | [] => 0
  | v :: l => v.name.size + 1 + costV l
theorem costV_append (a b : List Md.Vr) : costV (a ++ b) = costV a + costV b := by
  induction a with
  | nil => simp [costV]
  | cons r a ih => simp only [List.cons_append, costV, ih]; omega
theorem costV_next {l : List Md.Vr} {k : Nat} (h : k < l.length) : costV (l.take (k + 1)) = costV (l.take k) + (l[k].name.size + 1) := by
  rw [List.take_succ_eq_append_getElem h, costV_append]; simp [costV]
def costK : List Md.Cn → Nat
  | [] => 0
  | c :: l => costC c + costK l
theorem costK_append (a b : List Md.Cn) : costK (a ++ b) = costK a + costK b := by
  induction a with
  | nil => simp [costK]
  | cons r a ih => simp only [List.cons_append, costK, ih]; omega
theorem costK_next {l : List Md.Cn} {k : Nat} (h : k < l.length) : costK (l.take (k + 1)) = costK (l.take k) + costC l[k] := by
  rw [List.take_succ_eq_append_getElem h, costK_append]; simp [costK]
def costM (m : Md.Mo) : Nat := costV m.vars + costK m.cons + m.goal.length

set_option maxHeartbeats 400000 in
theorem text_count (P : Nat) (left : Int) (s : ByteArray) (w : World) (h : CountAt w P left) (hl : left ≤ 20000) (hl2 : -9223372036854775807 ≤ left) (hs : s.size ≤ maxLen) : Calls Tryz.prog 43 #[.pointer (some ⟨P, 0, none⟩), .string s] w fun e w' => e = .returned (.tuple #[]) ∧ Took P left (s.size + 1 : Nat) w w' := by
  have H1 : Hid (Calls Tryz.prog 23 #[.pointer (some ⟨P, 0, none⟩), .int .i64 1] w fun e w' => IsBool e ∧ Took P left 1 w w') := add_any P left 1 w h hl hl2 (by decide)
  have HS : Hid (s.size ≤ maxLen) := hs
  clear h hs
  go_enter Tryz.func43, Tryz.ntmps43
  go_wp2_with fail
  refine calls_at H1.out (by with_reducible rfl) (by with_reducible rfl) ?_
  rintro e w1 ⟨⟨b1, rfl⟩, ⟨⟨l1, hC1, h11, h12, hT1⟩, hG1⟩⟩
  have H2 : Hid (Calls Tryz.prog 23 #[.pointer (some ⟨P, 0, none⟩), .int .i64 (s.size : Int)] w1 fun e w' => IsBool e ∧ Took P l1 s.size w1 w') := add_any P l1 s.size w1 hC1 h11 h12 HS.out
  have HT1 : Hid (0 ≤ l1 → l1 + 1 ≤ left) := hT1
  have HG1 : Hid (w.grownBy w1 (some P)) := hG1
  clear hC1 hT1 hG1
  go_wp2_with fail
  refine calls_at H2.out (by with_reducible rfl) (by with_reducible rfl) ?_
  rintro e w2 ⟨⟨b2, rfl⟩, ⟨⟨l2, hC2, h21, h22, hT2⟩, hG2⟩⟩
  go_wp2_with fail
  go_end0
  exact ⟨rfl, ⟨⟨l2, hC2, h21, h22, fun h => by have b1 := hT2 h; have b2 := HT1.out (by omega); omega⟩, grownBy_trans HG1.out hG2⟩⟩

set_option maxRecDepth 10000 in
set_option maxHeartbeats 4000000 in
theorem model_count (P : Nat) (left : Int) (m : Md.Mo) (vv vc vg : Value) (w : World) (h : CountAt w P left) (hl : left ≤ 20000) (hl2 : -9223372036854775807 ≤ left) (w0 : World) (h0 : MoAt w0 m vv vc vg) (hb0 : Below w0.heap.size w0 w) (hP0 : w0.heap.size ≤ P) :
    Calls Tryz.prog 22 #[.pointer (some ⟨P, 0, none⟩), moVal m vv vc vg] w fun e w' => e = .returned (.tuple #[]) ∧ Took P left (costM m) w w' := by
  obtain ⟨va, vp, rfl, hvm⟩ := h0.v.form
  obtain ⟨ca, cp, rfl, hcm⟩ := h0.c.form
  obtain ⟨ga, gp, rfl, hgm⟩ := h0.g.form
  have Hgm : Hid (m.goal.length ≤ maxLen) := hgm
  unfold maxLen at hvm hcm hgm
  have hP := h.lt
  obtain ⟨W, hW⟩ : ∃ W, w.alloc (.cells #[.slice va m.vars.length vp, .slice ca m.cons.length cp, .bool m.has, .slice ga m.goal.length gp] 26) = W := ⟨_, rfl⟩
  have hbW : Below w.heap.size w W := by rw [← hW]; exact (Below.refl _ _).alloc (Nat.le_refl _) _
  have hN : W.heap[w.heap.size]? = some (.cells #[.slice va m.vars.length vp, .slice ca m.cons.length cp, .bool m.has, .slice ga m.goal.length gp] 26) := by rw [← hW]; exact heap_alloc_new w _
  have hNl : w.heap.size < W.heap.size := (Array.getElem?_eq_some_iff.1 hN).1
  have HN : Hid (∀ w', W.grownBy w' (some P) → w'.heap[w.heap.size]? = some (.cells #[.slice va m.vars.length vp, .slice ca m.cons.length cp, .bool m.has, .slice ga m.goal.length gp] 26)) := fun w' hg => (hg.block _ hNl (fun e => by injection e with e; omega)).trans hN
  have HG0 : Hid (w.grownBy W (some P)) := grownBy_below hbW
  have HBW : Hid (∀ w', W.grownBy w' (some P) → Below w0.heap.size w0 w') := fun w' hg => below_grownBy hb0 (grownBy_trans HG0.out hg) hP0
  have HM : Hid (MoAt w0 m (.slice va m.vars.length vp) (.slice ca m.cons.length cp) (.slice ga m.goal.length gp)) := h0
  have HC0 : Hid (CountAt W P left) := h.below hbW
  obtain ⟨⟨p0, p1, p2, p3⟩, _⟩ := box4 hN
  unfold moVal
  clear h0 hb0 hP0 h hbW hN
  go_enter Tryz.func22, Tryz.ntmps22
  go_wp2_with fail
  go_loopw [4] (fun iv wr => ∃ (k : Nat) (lf : Int), iv = .int .i64 (k : Int) ∧ k ≤ m.vars.length ∧ Hid (CountAt wr P lf) ∧ lf ≤ 20000 ∧ -9223372036854775807 ≤ lf ∧ Hid (0 ≤ lf → lf + (costV (m.vars.take k) : Int) ≤ left) ∧ Hid (W.grownBy wr (some P))) (fun iv _ => m.vars.length - (intOf iv).toNat)
  case atStart => exact ⟨0, left, rfl, Nat.zero_le _, HC0, hl, hl2, (fun _ => by simp [costV]), grownBy_refl _ _⟩
  case round =>
    obtain ⟨k, lf, rfl, hk, hCw, h1, h2, hT, hG⟩ := hrel
    clear p0 p1 p2 p3
    obtain ⟨⟨p0, p1, p2, p3⟩, _⟩ := box4 (HN.out _ hG.out)
    rename World => wk
    by_cases hlt : k < m.vars.length
    · have hkI : (k : Int) < (m.vars.length : Int) := by omega
      by_cases h0 : 0 ≤ lf
      · have hd : decide (0 ≤ lf) = true := by simpa using h0
        obtain ⟨a', c', hve, _, hvn, hvo⟩ := HM.out.v
        injection hve with e1 e2 e3
        subst e1 e3
        obtain ⟨b, off, rfl, hb, hc⟩ := hvo (by omega)
        have d0 := ((HBW.out _ hG.out).cell (p := ⟨b, off + k * 3, none⟩) hb).trans (hc k hlt).1
        have hnx : Hid (costV (m.vars.take (k + 1)) = costV (m.vars.take k) + (m.vars[k].name.size + 1)) := costV_next hlt
        have H77 : Hid (Calls Tryz.prog 43 #[.pointer (some ⟨P, 0, none⟩), .string m.vars[k].name] wk fun e w'' => e = .returned (.tuple #[]) ∧ Took P lf (m.vars[k].name.size + 1 : Nat) wk w'') := text_count P lf m.vars[k].name wk hCw.out h1 h2 (hvn _ (List.getElem_mem hlt))
        clear hvo hc hvn
        generalize m.vars[k] = v at *
        go_wp2_with (first
          | (go_at_call 24; refine (ok_any P lf _ hCw.out).mono ?_; rintro e w' ⟨rfl, hww⟩; rw [hww])
          | (go_at_call 43; refine calls_at H77.out (by with_reducible rfl) (by with_reducible rfl) ?_; rintro e w1 ⟨rfl, ⟨⟨l1, hC1, h11, h12, hT1⟩, hG1⟩⟩))
        go_roundw
        case rel => exact ⟨k + 1, l1, by go_num, by omega, hC1, h11, h12, (fun h => by have b1 := hT1 h; have b2 := hT.out (by omega); rw [hnx.out]; omega), grownBy_trans hG.out hG1⟩
        case measure => simp [intOf]; omega
      · have hd : decide (0 ≤ lf) = false := by simpa using h0
        have HX : Hid (0 ≤ lf → lf + (costV m.vars : Int) ≤ left) := fun h => absurd h h0
        go_wp2_with (go_at_call 24; refine (ok_any P lf _ hCw.out).mono ?_; rintro e w' ⟨rfl, hww⟩; rw [hww])
        go_loopw [5] (fun iv wr => ∃ (k : Nat) (lf : Int), iv = .int .i64 (k : Int) ∧ k ≤ m.cons.length ∧ Hid (CountAt wr P lf) ∧ lf ≤ 20000 ∧ -9223372036854775807 ≤ lf ∧ Hid (0 ≤ lf → lf + (costV m.vars : Int) + (costK (m.cons.take k) : Int) ≤ left) ∧ Hid (W.grownBy wr (some P))) (fun iv _ => m.cons.length - (intOf iv).toNat)
        case atStart => exact ⟨0, lf, rfl, Nat.zero_le _, hCw, h1, h2, (fun h => by have := HX.out h; simp [costK]; omega), hG⟩
        case round =>
          obtain ⟨i, lf2, rfl, hi, hCw2, a1, a2, hT2, hG2⟩ := hrel
          clear p0 p1 p2 p3
          obtain ⟨⟨p0, p1, p2, p3⟩, _⟩ := box4 (HN.out _ hG2.out)
          by_cases hit : i < m.cons.length
          · have hiI : (i : Int) < (m.cons.length : Int) := by omega
            by_cases h0' : 0 ≤ lf2
            · have hd' : decide (0 ≤ lf2) = true := by simpa using h0'
              obtain ⟨a', c', hce, _, hco⟩ := HM.out.c
              injection hce with e1 e2 e3
              subst e1 e3
              obtain ⟨b, off, rfl, hb, hc⟩ := hco (by omega)
              obtain ⟨vt, vx, vb, vr, hcn, hcl⟩ := hc i hit
              obtain ⟨ta, tc, rfl, _⟩ := hcn.t.form
              obtain ⟨xa, xc, rfl, _⟩ := hcn.x.form
              obtain ⟨ba, bc, rfl, _⟩ := hcn.b.form
              obtain ⟨ra, rc, rfl, _⟩ := hcn.r.form
              obtain ⟨d0, d1, d2, d3, d4, d5, d6, d7, d8, d9⟩ := hcl.below (HBW.out _ hG2.out)
              have hnx : Hid (costK (m.cons.take (i + 1)) = costK (m.cons.take i) + costC m.cons[i]) := costK_next hit
              have H78 : Hid (Calls Tryz.prog 44 #[.pointer (some ⟨P, 0, none⟩), cnVal m.cons[i] _ _ _ _] _ fun e w'' => e = .returned (.tuple #[]) ∧ Took P lf2 (costC m.cons[i]) _ w'') := con_count P lf2 m.cons[i] _ _ _ _ _ hCw2.out a1 a2 (fun w'' hg' => hcn.below (HBW.out _ (grownBy_trans hG2.out hg')))
              unfold cnVal at H78
              clear hco hc hcn
              generalize m.cons[i] = c at *
              go_wp2_with (first
                | (go_at_call 24; refine (ok_any P lf2 _ hCw2.out).mono ?_; rintro e w' ⟨rfl, hww⟩; rw [hww])
                | (go_at_call 44; refine calls_at H78.out (by with_reducible rfl) (by with_reducible rfl) ?_; rintro e w1 ⟨rfl, ⟨⟨l1, hC1, h11, h12, hT1⟩, hG1⟩⟩))
              go_roundw
              case rel => exact ⟨i + 1, l1, by go_num, by omega, hC1, h11, h12, (fun h => by have b1 := hT1 h; have b2 := hT2.out (by omega); rw [hnx.out]; omega), grownBy_trans hG2.out hG1⟩
              case measure => simp [intOf]; omega
            · have hd' : decide (0 ≤ lf2) = false := by simpa using h0'
              have HX2 : Hid (0 ≤ lf2 → lf2 + (costV m.vars : Int) + (costK m.cons : Int) ≤ left) := fun h => absurd h h0'
              have H28 : Hid (Calls Tryz.prog 23 #[.pointer (some ⟨P, 0, none⟩), .int .i64 (m.goal.length : Int)] _ fun e w' => IsBool e ∧ Took P lf2 m.goal.length _ w') := add_any P lf2 m.goal.length _ hCw2.out a1 a2 Hgm.out
              go_wp2_with (first | (go_at_call 24; refine (ok_any P lf2 _ hCw2.out).mono ?_; rintro e w' ⟨rfl, hww⟩; rw [hww]) | (go_at_call 23; refine calls_at H28.out (by with_reducible rfl) (by with_reducible rfl) ?_; rintro e w1 ⟨⟨b1, rfl⟩, ⟨⟨l1, hC1, h11, h12, hT1⟩, hG1⟩⟩))
              go_end0
              exact ⟨rfl, ⟨⟨l1, hC1, h11, h12, fun h => by have b1 := hT1 h; have b2 := HX2.out (by omega); unfold costM; omega⟩, grownBy_trans HG0.out (grownBy_trans hG2.out hG1)⟩⟩
          · have hiI : ¬ (i : Int) < (m.cons.length : Int) := by omega
            have HX2 : Hid (0 ≤ lf2 → lf2 + (costV m.vars : Int) + (costK m.cons : Int) ≤ left) := by
              have := hT2.out
              rw [List.take_of_length_le (by omega)] at this; exact this
            have H28 : Hid (Calls Tryz.prog 23 #[.pointer (some ⟨P, 0, none⟩), .int .i64 (m.goal.length : Int)] _ fun e w' => IsBool e ∧ Took P lf2 m.goal.length _ w') := add_any P lf2 m.goal.length _ hCw2.out a1 a2 Hgm.out
            go_wp2_with (go_at_call 23; refine calls_at H28.out (by with_reducible rfl) (by with_reducible rfl) ?_; rintro e w1 ⟨⟨b1, rfl⟩, ⟨⟨l1, hC1, h11, h12, hT1⟩, hG1⟩⟩)
            go_end0
            exact ⟨rfl, ⟨⟨l1, hC1, h11, h12, fun h => by have b1 := hT1 h; have b2 := HX2.out (by omega); unfold costM; omega⟩, grownBy_trans HG0.out (grownBy_trans hG2.out hG1)⟩⟩
    · have hkI : ¬ (k : Int) < (m.vars.length : Int) := by omega
      have HX : Hid (0 ≤ lf → lf + (costV m.vars : Int) ≤ left) := by
        have := hT.out
        rw [List.take_of_length_le (by omega)] at this; exact this
      go_wp2_with fail
      go_loopw [5] (fun iv wr => ∃ (k : Nat) (lf : Int), iv = .int .i64 (k : Int) ∧ k ≤ m.cons.length ∧ Hid (CountAt wr P lf) ∧ lf ≤ 20000 ∧ -9223372036854775807 ≤ lf ∧ Hid (0 ≤ lf → lf + (costV m.vars : Int) + (costK (m.cons.take k) : Int) ≤ left) ∧ Hid (W.grownBy wr (some P))) (fun iv _ => m.cons.length - (intOf iv).toNat)
      case atStart => exact ⟨0, lf, rfl, Nat.zero_le _, hCw, h1, h2, (fun h => by have := HX.out h; simp [costK]; omega), hG⟩
      case round =>
        obtain ⟨i, lf2, rfl, hi, hCw2, a1, a2, hT2, hG2⟩ := hrel
        clear p0 p1 p2 p3
        obtain ⟨⟨p0, p1, p2, p3⟩, _⟩ := box4 (HN.out _ hG2.out)
        by_cases hit : i < m.cons.length
        · have hiI : (i : Int) < (m.cons.length : Int) := by omega
          by_cases h0' : 0 ≤ lf2
          · have hd' : decide (0 ≤ lf2) = true := by simpa using h0'
            obtain ⟨a', c', hce, _, hco⟩ := HM.out.c
            injection hce with e1 e2 e3
            subst e1 e3
            obtain ⟨b, off, rfl, hb, hc⟩ := hco (by omega)
            obtain ⟨vt, vx, vb, vr, hcn, hcl⟩ := hc i hit
            obtain ⟨ta, tc, rfl, _⟩ := hcn.t.form
            obtain ⟨xa, xc, rfl, _⟩ := hcn.x.form
            obtain ⟨ba, bc, rfl, _⟩ := hcn.b.form
            obtain ⟨ra, rc, rfl, _⟩ := hcn.r.form
            obtain ⟨d0, d1, d2, d3, d4, d5, d6, d7, d8, d9⟩ := hcl.below (HBW.out _ hG2.out)
            have hnx : Hid (costK (m.cons.take (i + 1)) = costK (m.cons.take i) + costC m.cons[i]) := costK_next hit
            have H78 : Hid (Calls Tryz.prog 44 #[.pointer (some ⟨P, 0, none⟩), cnVal m.cons[i] _ _ _ _] _ fun e w'' => e = .returned (.tuple #[]) ∧ Took P lf2 (costC m.cons[i]) _ w'') := con_count P lf2 m.cons[i] _ _ _ _ _ hCw2.out a1 a2 (fun w'' hg' => hcn.below (HBW.out _ (grownBy_trans hG2.out hg')))
            unfold cnVal at H78
            clear hco hc hcn
            generalize m.cons[i] = c at *
            go_wp2_with (first
              | (go_at_call 24; refine (ok_any P lf2 _ hCw2.out).mono ?_; rintro e w' ⟨rfl, hww⟩; rw [hww])
              | (go_at_call 44; refine calls_at H78.out (by with_reducible rfl) (by with_reducible rfl) ?_; rintro e w1 ⟨rfl, ⟨⟨l1, hC1, h11, h12, hT1⟩, hG1⟩⟩))
            go_roundw
            case rel => exact ⟨i + 1, l1, by go_num, by omega, hC1, h11, h12, (fun h => by have b1 := hT1 h; have b2 := hT2.out (by omega); rw [hnx.out]; omega), grownBy_trans hG2.out hG1⟩
            case measure => simp [intOf]; omega
          · have hd' : decide (0 ≤ lf2) = false := by simpa using h0'
            have HX2 : Hid (0 ≤ lf2 → lf2 + (costV m.vars : Int) + (costK m.cons : Int) ≤ left) := fun h => absurd h h0'
            have H28 : Hid (Calls Tryz.prog 23 #[.pointer (some ⟨P, 0, none⟩), .int .i64 (m.goal.length : Int)] _ fun e w' => IsBool e ∧ Took P lf2 m.goal.length _ w') := add_any P lf2 m.goal.length _ hCw2.out a1 a2 Hgm.out
            go_wp2_with (first | (go_at_call 24; refine (ok_any P lf2 _ hCw2.out).mono ?_; rintro e w' ⟨rfl, hww⟩; rw [hww]) | (go_at_call 23; refine calls_at H28.out (by with_reducible rfl) (by with_reducible rfl) ?_; rintro e w1 ⟨⟨b1, rfl⟩, ⟨⟨l1, hC1, h11, h12, hT1⟩, hG1⟩⟩))
            go_end0
            exact ⟨rfl, ⟨⟨l1, hC1, h11, h12, fun h => by have b1 := hT1 h; have b2 := HX2.out (by omega); unfold costM; omega⟩, grownBy_trans HG0.out (grownBy_trans hG2.out hG1)⟩⟩
        · have hiI : ¬ (i : Int) < (m.cons.length : Int) := by omega
          have HX2 : Hid (0 ≤ lf2 → lf2 + (costV m.vars : Int) + (costK m.cons : Int) ≤ left) := by
            have := hT2.out
            rw [List.take_of_length_le (by omega)] at this; exact this
          have H28 : Hid (Calls Tryz.prog 23 #[.pointer (some ⟨P, 0, none⟩), .int .i64 (m.goal.length : Int)] _ fun e w' => IsBool e ∧ Took P lf2 m.goal.length _ w') := add_any P lf2 m.goal.length _ hCw2.out a1 a2 Hgm.out
          go_wp2_with (go_at_call 23; refine calls_at H28.out (by with_reducible rfl) (by with_reducible rfl) ?_; rintro e w1 ⟨⟨b1, rfl⟩, ⟨⟨l1, hC1, h11, h12, hT1⟩, hG1⟩⟩)
          go_end0
          exact ⟨rfl, ⟨⟨l1, hC1, h11, h12, fun h => by have b1 := hT1 h; have b2 := HX2.out (by omega); unfold costM; omega⟩, grownBy_trans HG0.out (grownBy_trans hG2.out hG1)⟩⟩

end Go.Proofs.YtemnbcilmbojhaaGreatDoor
