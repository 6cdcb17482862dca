/-
  names.
-/
import Derived.Test.YtmhfabnpfkkbcaaMdLists
import Derived.Test.YtmhfabnpfkkbcaaMdV4
namespace Go.Proofs.Ytmhfabnpfkkbcaa
open Go.RowKit

theorem nb_next {α : Type} {p : α → Bool} {l : List α} {k : Nat} (hk : k < l.length) {b b0 : Bool} (h : b = (b0 || (l.take k).any p)) : (b || p l[k]) = (b0 || (l.take (k + 1)).any p) := by
  rw [Md.any_next hk, h, Bool.or_assoc]

set_option maxRecDepth 10000 in
set_option maxHeartbeats 1000000 in
theorem names_any (c : Md.Cn) (x : Int) (vt vx vb vr : Value) (w : World) (hC : CnAt w c vt vx vb vr) : Calls Try.prog 14 #[cnVal c vt vx vb vr, .int .i64 x] w fun e w' => e = .returned (.bool (Md.namesB c x)) ∧ Below w.heap.size w w' := by
  obtain ⟨ta, tc, rfl, htm, htc⟩ := id hC.t
  obtain ⟨xa, xc, rfl, hxm, hxc⟩ := id hC.x
  obtain ⟨W, hW⟩ : ∃ W, w.alloc (.cells #[.int .i64 c.kind, .int .i64 c.op, .slice ta c.terms.length tc, .int .i64 c.k, .int .i64 c.v, .int .i64 c.x, .int .i64 c.y, .slice xa c.xs.length xc, vb, vr] 40) = W := ⟨_, rfl⟩
  have hbW : Below w.heap.size w W := by rw [← hW]; exact (Below.refl _ _).alloc (Nat.le_refl _) _
  have hN : W.heap[w.heap.size]? = some (.cells #[.int .i64 c.kind, .int .i64 c.op, .slice ta c.terms.length tc, .int .i64 c.k, .int .i64 c.v, .int .i64 c.x, .int .i64 c.y, .slice xa c.xs.length xc, vb, vr] 40) := by rw [← hW]; exact heap_alloc_new w _
  have HB : Hid (Below w.heap.size w W) := hbW
  have HT : Hid (0 < c.terms.length → ∃ b off, ta = some ⟨b, off, none⟩ ∧ ∀ j (h : j < c.terms.length), W.cell? ⟨b, off + j * 2 + 1, none⟩ = some (.int .i64 c.terms[j].2)) := fun h0 => by
    obtain ⟨b, off, ha, hb, hj⟩ := htc h0
    exact ⟨b, off, ha, fun j h => (hbW.cell (p := ⟨b, off + j * 2 + 1, none⟩) hb).trans (hj j h).2⟩
  have HX : Hid (0 < c.xs.length → ∃ b off, xa = some ⟨b, off, none⟩ ∧ ∀ j (h : j < c.xs.length), W.cell? ⟨b, off + j, none⟩ = some (.int .i64 c.xs[j])) := fun h0 => by
    obtain ⟨b, off, ha, hb, hj⟩ := hxc h0
    exact ⟨b, off, ha, fun j h => (hbW.cell (p := ⟨b, off + j, none⟩) hb).trans (hj j h)⟩
  obtain ⟨⟨p0, p1, p2, p3, p4, p5, p6, p7, p8, p9⟩, _⟩ := box10 hN
  have hcases : ((c.x == x) = true ∧ (decide (c.x = x) || decide (c.y = x)) = true) ∨ ((c.x == x) = false ∧ (c.y == x) = true ∧ (decide (c.x = x) || decide (c.y = x)) = true) ∨ ((c.x == x) = false ∧ (c.y == x) = false ∧ (decide (c.x = x) || decide (c.y = x)) = false) := by
    by_cases h1 : c.x = x
    · exact .inl ⟨by simp [h1], by simp [h1]⟩
    · by_cases h2 : c.y = x
      · exact .inr (.inl ⟨by simp [h1], by simp [h2], by simp [h2]⟩)
      · exact .inr (.inr ⟨by simp [h1], by simp [h2], by simp [h1, h2]⟩)
  unfold maxLen at htm hxm
  unfold cnVal
  clear hC htc hxc hbW hN
  go_enter Try.func14, Try.ntmps14
  have HNB : Hid (∀ b, b = ((decide (c.x = x) || decide (c.y = x)) || c.terms.any fun t => decide (t.2 = x)) → (b || c.xs.any fun y => decide (y = x)) = Md.namesB c x) := fun b hb => by rw [hb]; rfl
  generalize hb0 : (decide (c.x = x) || decide (c.y = x)) = b0 at *
  clear hb0
  have hcl : c.terms.length ≤ 9223372036854775807 ∧ c.xs.length ≤ 9223372036854775807 := ⟨htm, hxm⟩
  rcases hcases with ⟨h1, hb0⟩ | ⟨h1, h2, hb0⟩ | ⟨h1, h2, hb0⟩
  all_goals
    have Hb0 : Hid (b0 = _) := hb0
    clear hb0
    go_wp2_with fail
    go_loopw [5, 6] (fun bv iv wr => ∃ (k : Nat) (b : Bool), bv = .bool b ∧ iv = .int .i64 (k : Int) ∧ k ≤ c.terms.length ∧ Hid (b = (b0 || (c.terms.take k).any fun t => decide (t.2 = x))) ∧ W = wr) (fun _ iv _ => c.terms.length - (intOf iv).toNat)
    case atStart => exact ⟨0, _, rfl, rfl, Nat.zero_le _, by show _ = _; rw [Hb0.out]; simp, by first | rfl | trivial⟩
    case round =>
      obtain ⟨k, b, rfl, rfl, hk, hb, rfl⟩ := hrel
      by_cases hlt : k < c.terms.length
      · have hkI : (k : Int) < (c.terms.length : Int) := by omega
        obtain ⟨tb, off, rfl, hcell⟩ := HT.out (by omega)
        have d1 := hcell k hlt
        have HE : Hid ((b || decide (c.terms[k].2 = x)) = (b0 || (c.terms.take (k + 1)).any fun t => decide (t.2 = x))) := by
          show _ = _
          exact nb_next (p := fun t : Int × Int => decide (t.2 = x)) hlt hb.out
        generalize c.terms[k].2 = y at *
        clear hcell
        cases b
        · by_cases hy : y = x
          · subst hy
            go_wp2_with fail
            go_roundw
            case rel => exact ⟨k + 1, true, rfl, by go_num, by omega, by have h := HE.out; rw [Bool.false_or, decide_eq_true rfl] at h; exact h, by first | rfl | trivial⟩
            case measure => simp [intOf]; omega
          · have hyB : (y == x) = false := by simpa using hy
            go_wp2_with fail
            go_roundw
            case rel => exact ⟨k + 1, false, rfl, by go_num, by omega, by have h := HE.out; rw [Bool.false_or, decide_eq_false hy] at h; exact h, by first | rfl | trivial⟩
            case measure => simp [intOf]; omega
        · go_wp2_with fail
          go_roundw
          case rel => exact ⟨k + 1, true, rfl, by go_num, by omega, by have h := HE.out; rw [Bool.true_or] at h; exact h, by first | rfl | trivial⟩
          case measure => simp [intOf]; omega
      · have hkI : ¬ (k : Int) < (c.terms.length : Int) := by omega
        have HB1 : Hid (b = (b0 || c.terms.any fun t => decide (t.2 = x))) := by
          have := hb.out
          rw [List.take_of_length_le (by omega)] at this
          exact this
        clear hb hk
        go_wp2_with fail
        go_loopw [5, 7] (fun bv iv wr => ∃ (j : Nat) (b' : Bool), bv = .bool b' ∧ iv = .int .i64 (j : Int) ∧ j ≤ c.xs.length ∧ Hid (b' = (b || (c.xs.take j).any fun y => decide (y = x))) ∧ W = wr) (fun _ iv _ => c.xs.length - (intOf iv).toNat)
        case atStart => exact ⟨0, _, rfl, rfl, Nat.zero_le _, by show _ = _; simp, by first | rfl | trivial⟩
        case round =>
          obtain ⟨j, b', rfl, rfl, hj, hb', rfl⟩ := hrel
          by_cases hlj : j < c.xs.length
          · have hjI : (j : Int) < (c.xs.length : Int) := by omega
            obtain ⟨xb, off, rfl, hcell⟩ := HX.out (by omega)
            have d1 := hcell j hlj
            have HE : Hid ((b' || decide (c.xs[j] = x)) = (b || (c.xs.take (j + 1)).any fun y => decide (y = x))) := by
              show _ = _
              exact nb_next (p := fun y : Int => decide (y = x)) hlj hb'.out
            generalize c.xs[j] = y at *
            clear hcell
            cases b'
            · by_cases hy : y = x
              · subst hy
                go_wp2_with fail
                go_roundw
                case rel => exact ⟨j + 1, true, rfl, by go_num, by omega, by have h := HE.out; rw [Bool.false_or, decide_eq_true rfl] at h; exact h, by first | rfl | trivial⟩
                case measure => simp [intOf]; omega
              · have hyB : (y == x) = false := by simpa using hy
                go_wp2_with fail
                go_roundw
                case rel => exact ⟨j + 1, false, rfl, by go_num, by omega, by have h := HE.out; rw [Bool.false_or, decide_eq_false hy] at h; exact h, by first | rfl | trivial⟩
                case measure => simp [intOf]; omega
            · go_wp2_with fail
              go_roundw
              case rel => exact ⟨j + 1, true, rfl, by go_num, by omega, by have h := HE.out; rw [Bool.true_or] at h; exact h, by first | rfl | trivial⟩
              case measure => simp [intOf]; omega
          · have hjI : ¬ (j : Int) < (c.xs.length : Int) := by omega
            have hE : b' = Md.namesB c x := by
              have := hb'.out
              rw [List.take_of_length_le (by omega)] at this
              rw [this]
              exact HNB.out b HB1.out
            go_wp2_with fail
            go_ret
            exact ⟨rfl, HB.out⟩
end Go.Proofs.Ytmhfabnpfkkbcaa
