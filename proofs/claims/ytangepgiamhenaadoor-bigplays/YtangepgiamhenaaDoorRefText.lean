/-
  The document's numbers: Text.
-/
import Derived.Test.YtangepgiamhenaaDoorRefTwo
import Derived.Laws.IdiomStrings
import Derived.Lib.UnsafeStr
namespace Go.Proofs.YtangepgiamhenaaDoor
open Go.RowKit
open Bn (limbs)
open Go.Lib (byteCells)

theorem Tryd.info5 : (Tryd.prog.info? 5).map (fun i => (i.zero, i.size, i.bytes)) = some (some (.int .u8 0), 1, 1) := by kernel_rfl

theorem byteCells_snoc (l : List UInt8) (d : Nat) (h : d < 10) : byteCells (l ++ [UInt8.ofNat (48 + d)]) = byteCells l ++ [.int .u8 (48 + (d : Int))] := by
  simp [byteCells]; omega

/-- The text so far. -/
def sofar (z : Int) (X : Nat) : List UInt8 := Bn.sgn z ++ Bn.dig0 X

theorem sofar_length_sgn (z : Int) : (Bn.sgn z).length = if z < 0 then 1 else 0 := by unfold Bn.sgn; split <;> rfl

/-- What the test of Text's inner loop comes to. -/
theorem emit_len {z : Int} {X : Nat} : (1 < (sofar z X).length → 0 < X) ∧ ((sofar z X).length = 1 → ¬ z < 0 → 0 < X) ∧ (0 < X → 1 < (sofar z X).length ∨ ((sofar z X).length = 1 ∧ ¬ z < 0)) := by
  have h := sofar_length_sgn z
  have e : (sofar z X).length = (Bn.sgn z).length + (Bn.dig0 X).length := by simp [sofar]
  rw [e, h]
  rcases Nat.eq_zero_or_pos X with h0 | h0
  · subst h0
    rw [Bn.dig0_zero]
    refine ⟨?_, ?_, ?_⟩ <;> split <;> simp <;> omega
  · have := Bn.dig0_length_pos h0
    refine ⟨fun _ => h0, fun _ _ => h0, fun _ => ?_⟩
    split <;> omega

theorem sofar_le {z : Int} {X L : Nat} (h : X < 1000000000 ^ L) : (sofar z X).length ≤ 9 * L + 1 := by
  have h1 := sofar_length_sgn z
  have e : (sofar z X).length = (Bn.sgn z).length + (Bn.dig0 X).length := by simp [sofar]
  have h2 := Bn.dig0_length X (9 * L) (by rw [Nat.pow_mul]; exact h)
  rw [e, h1]
  split <;> omega

/-- One digit more. -/
theorem digit_step {y p q j u X : Nat} (hj : j < 9) (hy : y = 1000000000 * q + p) (hp : p < 1000000000) (hu : u = 10 ^ (9 - j) / 10) (hX : X = y / 10 ^ (9 - j)) :
    0 < u ∧ u ≤ 100000000 ∧ y / 10 ^ (9 - (j + 1)) = 10 * X + p / u % 10 ∧ u / 10 = 10 ^ (9 - (j + 1)) / 10 ∧ q ≤ X := by
  subst hu hX hy
  have hj' : j = 0 ∨ j = 1 ∨ j = 2 ∨ j = 3 ∨ j = 4 ∨ j = 5 ∨ j = 6 ∨ j = 7 ∨ j = 8 := by omega
  rcases hj' with rfl | rfl | rfl | rfl | rfl | rfl | rfl | rfl | rfl <;> simp <;> omega

theorem text_rel {W wr w1 : World} {B : Nat} {v v' : Value} {z : Int} {X d : Nat} {c : Int} {o : Obj} (hd : d < 10) (hX : 0 < X ∨ 0 < d) (hc : c = 48 + (d : Int))
    (hown : wr.ownsRow B 5 1 v (sofar z X).length (byteCells (sofar z X))) (hbel : Below B W wr) (hB : B ≤ wr.heap.size)
    (hown1 : w1.ownsRow B 5 1 v' ((sofar z X).length + 1) (byteCells (sofar z X) ++ [.int .u8 c])) (hg : (wr.alloc o).grownBy w1 v.ownBlock) :
    w1.ownsRow B 5 1 v' (sofar z (10 * X + d)).length (byteCells (sofar z (10 * X + d))) ∧ Below B W w1 := by
  have e : sofar z (10 * X + d) = sofar z X ++ [UInt8.ofNat (48 + d)] := by
    unfold sofar; rw [Bn.dig0_step hd hX, List.append_assoc]
  refine ⟨?_, ?_⟩
  · rw [e, byteCells_snoc _ _ hd, List.length_append, ← hc]; exact hown1
  · exact (hbel.alloc hB o).grown hg (by simp; omega) (fun g hg => (hown.lt g hg).1)

theorem owns_bytes {w : World} {base : Nat} {v : Value} {l : List UInt8} (h : w.ownsRow base 5 1 v l.length (byteCells l)) (hl : l ≠ []) : ∃ g cap, v = .slice (some ⟨g, 0, none⟩) l.length cap ∧
    ∀ j (hj : j < l.length), w.cell? ((⟨g, 0, none⟩ : Addr).add j) = some (.int .u8 (l[j].toNat : Int)) := by
  have hcs : ∀ g, v.ownBlock = some g → _ := fun g hg => h.cells (g := g) hg
  obtain ⟨_, h | ⟨g, cap, cur, hv, hg, hh, hn, hm, _, _⟩⟩ := h
  · exact absurd (List.eq_nil_of_length_eq_zero h.2) hl
  · subst hv
    exact ⟨g, cap, rfl, fun j hj => hcs g rfl j _ (by simp [byteCells, hj])⟩

set_option maxHeartbeats 400000 in
set_option maxRecDepth 100000 in
theorem refText_zero (v : Value) (w : World) (h : RefAt w v 0) :
    Calls Tryd.prog 40 #[v] w fun e w' => e = .returned (.string ⟨(Lib.itoa 0).toArray⟩) ∧ Below w.heap.size w w' := by
  obtain ⟨s, rfl, hs⟩ := h
  obtain ⟨pa, cs, rfl, hls⟩ := hs.form
  rw [show limbs (Int.natAbs 0) = [] from rfl]
  go_enter Tryd.func40, Tryd.ntmps40
  go_wp2
  go_ret
  exact ⟨ret_string (by rw [Bn.itoa_zero]), (Below.refl _ _).alloc (Nat.le_refl _) _⟩

set_option maxHeartbeats 1000000 in
set_option maxRecDepth 100000 in
theorem refText_any (z : Int) (v : Value) (w : World) (h : RefAt w v z) (hz : z ≠ 0) (hlen : (limbs z.natAbs).length ≤ 1000000) :
    Calls Tryd.prog 40 #[v] w fun e w' => e = .returned (.string ⟨(Lib.itoa z).toArray⟩) ∧ Below w.heap.size w w' := by
  obtain ⟨i0, hi, hz0, hz1, hz2⟩ := info_parts Tryd.info5
  obtain ⟨s, rfl, hs⟩ := h
  have hpos : 0 < (limbs z.natAbs).length := by
    have : limbs z.natAbs ≠ [] := fun e => by rw [Bn.limbs_eq_nil] at e; omega
    exact List.length_pos_iff.2 this
  obtain ⟨ba, cs, rfl, hba, _, _, hca⟩ := hs.pos hpos
  have HC : Hid (∀ j (h : j < (limbs z.natAbs).length), w.cell? ⟨ba, j, none⟩ = some (.int .i64 (((limbs z.natAbs)[j] : Nat) : Int))) := hca
  have HI : Hid (Lib.itoa z = Bn.sgn z ++ Bn.dig0 z.natAbs) := Bn.itoa_eq z hz
  have hl0 : (((limbs z.natAbs).length : Int) == 0) = false := by
    rw [beq_eq_false_iff_ne]; omega
  clear hs hca hz
  generalize hd : decide (z < 0) = d at *
  have HD : Hid (decide (z < 0) = d) := hd
  have HG : Hid (∀ b, d = b → (Bn.sgn z = if b then [45] else [])) := by
    intro b hb; unfold Bn.sgn; subst hb; subst hd; by_cases h : z < 0 <;> simp [h]
  clear hd
  have hbaN : ba < w.heap.size + 1 := by omega
  cases d
  · have c0 : (w.alloc (.cells #[.bool false, .slice (some ⟨ba, 0, none⟩) (limbs z.natAbs).length cs] 30)).cell? ⟨w.heap.size, 0, none⟩ = some (.bool false) := by simp
    have c1 : (w.alloc (.cells #[.bool false, .slice (some ⟨ba, 0, none⟩) (limbs z.natAbs).length cs] 30)).cell? ⟨w.heap.size, 1, none⟩ = some (.slice (some ⟨ba, 0, none⟩) (limbs z.natAbs).length cs) := by simp
    have cb : Hid (∀ o, (w.alloc (.cells #[.bool false, .slice (some ⟨ba, 0, none⟩) (limbs z.natAbs).length cs] 30)).cell? ⟨ba, o, none⟩ = w.cell? ⟨ba, o, none⟩) := fun o => World.cell?_alloc_past _ ba o hba
    have cB : Below w.heap.size w (w.alloc (.cells #[.bool false, .slice (some ⟨ba, 0, none⟩) (limbs z.natAbs).length cs] 30)) := (Below.refl _ _).alloc (Nat.le_refl _) _
    have cS : (w.alloc (.cells #[.bool false, .slice (some ⟨ba, 0, none⟩) (limbs z.natAbs).length cs] 30)).heap.size = w.heap.size + 1 := by simp
    have hown0 : (w.alloc (.cells #[.bool false, .slice (some ⟨ba, 0, none⟩) (limbs z.natAbs).length cs] 30)).ownsRow (w.heap.size + 1) 5 1 (.slice none 0 0) (sofar z 0).length (byteCells (sofar z 0)) := by
      have e : sofar z 0 = [] := by unfold sofar; rw [HG.out false rfl, Bn.dig0_zero]; rfl
      rw [e]; exact World.ownsRow_nil _ _ _ _
    go_enter Tryd.func40, Tryd.ntmps40
    go_wp2
    generalize w.alloc (.cells #[.bool false, .slice (some ⟨ba, 0, none⟩) (limbs z.natAbs).length cs] 30) = W at *
    have hbel0 : Below (w.heap.size + 1) W W := Below.refl _ _
    go_loopw [3, 4] (fun ov iv wr => ∃ (k : Nat) (i : Int), iv = .int .i64 i ∧ i = (k : Int) - 1 ∧ k ≤ (limbs z.natAbs).length ∧ wr.ownsRow (w.heap.size + 1) 5 1 ov (sofar z (z.natAbs / 1000000000 ^ k)).length (byteCells (sofar z (z.natAbs / 1000000000 ^ k))) ∧ Below (w.heap.size + 1) W wr) (fun _ iv _ => (intOf iv + 1).toNat)
    case atStart =>
      refine ⟨(limbs z.natAbs).length, _, rfl, rfl, Nat.le_refl _, ?_, hbel0⟩
      rw [Nat.div_eq_of_lt ((Bn.limbs_length_le _ _).1 (Nat.le_refl _))]; exact hown0
    case round =>
      clear hown0 hbel0
      obtain ⟨k, i, rfl, hik, hk, hown, hbel⟩ := hrel
      cases k with
      | zero =>
        obtain rfl : i = -1 := by omega
        clear hik
        have hX : z.natAbs / 1000000000 ^ 0 = z.natAbs := by simp
        rw [hX] at hown
        have hne : sofar z z.natAbs ≠ [] := fun e => by
          have h1 := emit_len (z := z) (X := z.natAbs)
          have h2 : 0 < z.natAbs := by
            rcases Nat.eq_zero_or_pos z.natAbs with h | h
            · rw [h] at hpos; simp [Bn.limbs_zero] at hpos
            · exact h
          have h3 := h1.2.2 h2
          rw [e] at h3; simp at h3
        obtain ⟨g, cap, rfl, hcell⟩ := owns_bytes hown hne
        have hconv := run_convert_bytes_back (P := Tryd.prog) wr 72 9 5 ⟨g, 0, none⟩ cap (sofar z z.natAbs) Tryd.underlying72 Tryd.underlying5 Tryd.underlying9 hcell
        have HT : Hid (sofar z z.natAbs = Lib.itoa z) := HI.out.symm
        clear hX hne hcell hown hpos
        go_wp2
        go_ret
        exact ⟨ret_string (by rw [HT.out]), cB.trans (hbel.mono (by omega))⟩
      | succ kk =>
        obtain rfl : i = (kk : Int) := by omega
        clear hik
        have hkl : kk < (limbs z.natAbs).length := by omega
        have g0 : Hid (z.natAbs / 1000000000 ^ kk = 1000000000 * (z.natAbs / 1000000000 ^ (kk + 1)) + (limbs z.natAbs)[kk]) := by rw [Bn.get_limbs hkl]; exact top_step _ _
        have g1 : ∀ o, wr.cell? ⟨ba, o, none⟩ = W.cell? ⟨ba, o, none⟩ := fun o => hbel.cell (p := ⟨ba, o, none⟩) hbaN
        have g2 : wr.cell? ⟨ba, kk, none⟩ = some (.int .i64 (((limbs z.natAbs)[kk] : Nat) : Int)) := (g1 kk).trans ((cb.out kk).trans (HC.out kk hkl))
        have g2W : W.cell? ⟨ba, kk, none⟩ = some (.int .i64 (((limbs z.natAbs)[kk] : Nat) : Int)) := (cb.out kk).trans (HC.out kk hkl)
        have g3 := Bn.limbs_get_lt hkl
        have g4 : Hid (kk + 1 < (limbs z.natAbs).length → 0 < z.natAbs / 1000000000 ^ (kk + 1)) := by
          intro h
          rcases Nat.eq_zero_or_pos (z.natAbs / 1000000000 ^ (kk + 1)) with e | e
          · have := (Bn.limbs_length_le z.natAbs (kk + 1)).2 (by rw [Nat.div_eq_zero_iff] at e; have : 0 < 1000000000 ^ (kk + 1) := Nat.pow_pos (by omega); omega)
            omega
          · exact e
        have g5 : Hid (z.natAbs / 1000000000 ^ kk < 1000000000 ^ (limbs z.natAbs).length) := Nat.lt_of_le_of_lt (Nat.div_le_self _ _) ((Bn.limbs_length_le _ _).1 (Nat.le_refl _))
        generalize (limbs z.natAbs)[kk] = p at *
        generalize hq : z.natAbs / 1000000000 ^ (kk + 1) = q at *
        generalize hy : z.natAbs / 1000000000 ^ kk = y at *
        have HY : Hid (z.natAbs / 1000000000 ^ kk = y) := hy
        have HQ : Hid (y / 1000000000 = q) := by have := g0.out; show _ = _; omega
        clear hq hy g1
        go_wp2
        have hbelw : Below (w.heap.size + 1) W wr := hbel
        go_loopw [3, 5] (fun ov uv wr => ∃ (j u X : Nat), uv = .int .i64 (u : Int) ∧ j ≤ 9 ∧ Hid (u = 10 ^ (9 - j) / 10 ∧ X = y / 10 ^ (9 - j)) ∧ wr.ownsRow (w.heap.size + 1) 5 1 ov (sofar z X).length (byteCells (sofar z X)) ∧ Below (w.heap.size + 1) W wr) (fun _ uv _ => (intOf uv).toNat)
        case atStart => exact ⟨0, 100000000, q, rfl, by omega, ⟨by decide, HQ.out.symm⟩, hown, hbel⟩
        case round =>
          clear hown hbel hbelw g2
          obtain ⟨j, u, X, rfl, hj, hH, hown, hbel⟩ := hrel
          by_cases h9 : j = 9
          · subst h9
            obtain rfl : u = 0 := by have := hH.out.1; simpa using this
            have hXy : Hid (X = z.natAbs / 1000000000 ^ kk) := by have := hH.out.2; rw [HY.out]; show X = y; simpa using this
            go_wp2
            go_roundw
            case rel => exact ⟨kk, _, rfl, rfl, by omega, by rw [← hXy.out]; exact hown, hbel⟩
            case measure => simp [intOf]
          · obtain ⟨hu0, hu1, hX1, hu2, hqX⟩ := digit_step (by omega) g0.out g3 hH.out.1 hH.out.2
            have e0 := (hbel.cell (p := ⟨w.heap.size, 0, none⟩) (Nat.lt_succ_self _)).trans c0
            have e1 := (hbel.cell (p := ⟨w.heap.size, 1, none⟩) (Nat.lt_succ_self _)).trans c1
            have e2 : wr.cell? ⟨ba, kk, none⟩ = some (.int .i64 (p : Int)) := (hbel.cell (p := ⟨ba, kk, none⟩) hbaN).trans g2W
            have hsz : w.heap.size + 1 ≤ wr.heap.size := by have := hbel.size; omega
            have hXle : X ≤ y := by rw [hH.out.2]; exact Nat.div_le_self _ _
            have hn : (sofar z X).length ≤ 9000001 := by have := sofar_le (z := z) (X := X) (Nat.lt_of_le_of_lt hXle g5.out); omega
            obtain ⟨t, ht⟩ : ∃ t : Nat, t = p / u := ⟨_, rfl⟩
            have ht1 : (p : Int) / (u : Int) = (t : Int) := by rw [ht]; rfl
            have htp : t ≤ 999999999 := by rw [ht]; have := Nat.div_le_self p u; omega
            rw [← ht] at hX1
            have T := emit_len (z := z) (X := X)
            have HT : Hid ((1 < (sofar z X).length → 0 < X) ∧ ((sofar z X).length = 1 → ¬ z < 0 → 0 < X) ∧ (0 < X → 1 < (sofar z X).length ∨ ((sofar z X).length = 1 ∧ ¬ z < 0)) ∧ (kk + 1 < (limbs z.natAbs).length → 0 < X)) := ⟨T.1, T.2.1, T.2.2, fun h => Nat.lt_of_lt_of_le (g4.out h) hqX⟩
            have HX1 : Hid (u / 10 = 10 ^ (9 - (j + 1)) / 10 ∧ 10 * X + t % 10 = y / 10 ^ (9 - (j + 1))) := ⟨hu2, hX1.symm⟩
            have HU : Hid (j + 1 ≤ 9) := by show _ ≤ _; omega
            have hkL : (kk : Int) < ((limbs z.natAbs).length : Int) := by omega
            obtain ⟨a0, cp, hv⟩ := own_form hown
            subst hv
            clear T hX1 hu2 ht hH hXle hqX hj h9
            go_wp2_with (at_builtin; refine append_one wr rfl _ _ 72 rfl (w.heap.size + 1) 5 i0 .u8 1 Tryd.underlying72 hi hz0 hz1 hz2 _ _ _ (by rfl) hown _ _ rfl (by rfl) (by omega) (by decide) hsz ?_; intro v' w1 hown1 hgrow)
            all_goals
              first
              | (have hk := hown1
                 have R := text_rel (z := z) (X := X) (d := t % 10) (by omega) (by have h1 := HT.out; have h2 := HD.out; simp at h2; omega) (by omega) hown hbel hsz hown1 hgrow
                 go_roundw
                 case rel => exact ⟨j + 1, u / 10, 10 * X + t % 10, by go_num, HU.out, HX1.out, R.1, R.2⟩
                 case measure => simp [intOf]; omega)
              | (have hk : X = 0 ∧ t % 10 = 0 := by have h1 := HT.out; have h2 := HD.out; simp at h2; omega
                 have hk2 : X = y / 10 ^ (9 - (j + 1)) := by have := HX1.out.2; omega
                 go_roundw
                 case rel => exact ⟨j + 1, u / 10, X, by go_num, HU.out, ⟨HX1.out.1, hk2⟩, hown, hbel⟩
                 case measure => simp [intOf]; omega)
  · have c0 : (w.alloc (.cells #[.bool true, .slice (some ⟨ba, 0, none⟩) (limbs z.natAbs).length cs] 30)).cell? ⟨w.heap.size, 0, none⟩ = some (.bool true) := by simp
    have c1 : (w.alloc (.cells #[.bool true, .slice (some ⟨ba, 0, none⟩) (limbs z.natAbs).length cs] 30)).cell? ⟨w.heap.size, 1, none⟩ = some (.slice (some ⟨ba, 0, none⟩) (limbs z.natAbs).length cs) := by simp
    have cb : Hid (∀ o, (w.alloc (.cells #[.bool true, .slice (some ⟨ba, 0, none⟩) (limbs z.natAbs).length cs] 30)).cell? ⟨ba, o, none⟩ = w.cell? ⟨ba, o, none⟩) := fun o => World.cell?_alloc_past _ ba o hba
    have cB : Below w.heap.size w (w.alloc (.cells #[.bool true, .slice (some ⟨ba, 0, none⟩) (limbs z.natAbs).length cs] 30)) := (Below.refl _ _).alloc (Nat.le_refl _) _
    have cS : (w.alloc (.cells #[.bool true, .slice (some ⟨ba, 0, none⟩) (limbs z.natAbs).length cs] 30)).heap.size = w.heap.size + 1 := by simp
    have e : sofar z 0 = [45] := by unfold sofar; rw [HG.out true rfl, Bn.dig0_zero]; rfl
    have HE : Hid (sofar z 0 = [45]) := e
    clear e
    go_enter Tryd.func40, Tryd.ntmps40
    go_wp2_with (at_builtin; refine append_one (w.alloc (.cells #[.bool true, .slice (some ⟨ba, 0, none⟩) (limbs z.natAbs).length cs] 30)) rfl _ _ 72 rfl (w.heap.size + 1) 5 i0 .u8 1 Tryd.underlying72 hi hz0 hz1 hz2 (.slice none 0 0) 0 [] (by rfl) (World.ownsRow_nil _ _ _ _) 45 (w.heap.size + 1) (by simp) (by rfl) (by omega) (by decide) (by simp) ?_; intro v' w1 hown1 hgrow; have hbel0 := ((Below.refl (w.heap.size + 1) (w.alloc (.cells #[.bool true, .slice (some ⟨ba, 0, none⟩) (limbs z.natAbs).length cs] 30))).alloc (by simp) _).grown hgrow (by simp) (fun k hk => by cases hk); have e1 : w1.cell? ⟨w.heap.size, 1, none⟩ = some (.slice (some ⟨ba, 0, none⟩) (limbs z.natAbs).length cs) := (hbel0.cell (p := ⟨w.heap.size, 1, none⟩) (by simp)).trans c1)
    have hown0 : w1.ownsRow (w.heap.size + 1) 5 1 v' (sofar z 0).length (byteCells (sofar z 0)) := by rw [HE.out]; exact hown1
    clear hown1 hgrow e1
    generalize w.alloc (.cells #[.bool true, .slice (some ⟨ba, 0, none⟩) (limbs z.natAbs).length cs] 30) = W at *
    go_loopw [3, 4] (fun ov iv wr => ∃ (k : Nat) (i : Int), iv = .int .i64 i ∧ i = (k : Int) - 1 ∧ k ≤ (limbs z.natAbs).length ∧ wr.ownsRow (w.heap.size + 1) 5 1 ov (sofar z (z.natAbs / 1000000000 ^ k)).length (byteCells (sofar z (z.natAbs / 1000000000 ^ k))) ∧ Below (w.heap.size + 1) W wr) (fun _ iv _ => (intOf iv + 1).toNat)
    case atStart =>
      refine ⟨(limbs z.natAbs).length, _, rfl, rfl, Nat.le_refl _, ?_, hbel0⟩
      rw [Nat.div_eq_of_lt ((Bn.limbs_length_le _ _).1 (Nat.le_refl _))]; exact hown0
    case round =>
      clear hown0 hbel0
      obtain ⟨k, i, rfl, hik, hk, hown, hbel⟩ := hrel
      cases k with
      | zero =>
        obtain rfl : i = -1 := by omega
        clear hik
        have hX : z.natAbs / 1000000000 ^ 0 = z.natAbs := by simp
        rw [hX] at hown
        have hne : sofar z z.natAbs ≠ [] := fun e => by
          have h1 := emit_len (z := z) (X := z.natAbs)
          have h2 : 0 < z.natAbs := by
            rcases Nat.eq_zero_or_pos z.natAbs with h | h
            · rw [h] at hpos; simp [Bn.limbs_zero] at hpos
            · exact h
          have h3 := h1.2.2 h2
          rw [e] at h3; simp at h3
        obtain ⟨g, cap, rfl, hcell⟩ := owns_bytes hown hne
        have hconv := run_convert_bytes_back (P := Tryd.prog) wr 72 9 5 ⟨g, 0, none⟩ cap (sofar z z.natAbs) Tryd.underlying72 Tryd.underlying5 Tryd.underlying9 hcell
        have HT : Hid (sofar z z.natAbs = Lib.itoa z) := HI.out.symm
        clear hX hne hcell hown hpos
        go_wp2
        go_ret
        exact ⟨ret_string (by rw [HT.out]), cB.trans (hbel.mono (by omega))⟩
      | succ kk =>
        obtain rfl : i = (kk : Int) := by omega
        clear hik
        have hkl : kk < (limbs z.natAbs).length := by omega
        have g0 : Hid (z.natAbs / 1000000000 ^ kk = 1000000000 * (z.natAbs / 1000000000 ^ (kk + 1)) + (limbs z.natAbs)[kk]) := by rw [Bn.get_limbs hkl]; exact top_step _ _
        have g1 : ∀ o, wr.cell? ⟨ba, o, none⟩ = W.cell? ⟨ba, o, none⟩ := fun o => hbel.cell (p := ⟨ba, o, none⟩) hbaN
        have g2 : wr.cell? ⟨ba, kk, none⟩ = some (.int .i64 (((limbs z.natAbs)[kk] : Nat) : Int)) := (g1 kk).trans ((cb.out kk).trans (HC.out kk hkl))
        have g2W : W.cell? ⟨ba, kk, none⟩ = some (.int .i64 (((limbs z.natAbs)[kk] : Nat) : Int)) := (cb.out kk).trans (HC.out kk hkl)
        have g3 := Bn.limbs_get_lt hkl
        have g4 : Hid (kk + 1 < (limbs z.natAbs).length → 0 < z.natAbs / 1000000000 ^ (kk + 1)) := by
          intro h
          rcases Nat.eq_zero_or_pos (z.natAbs / 1000000000 ^ (kk + 1)) with e | e
          · have := (Bn.limbs_length_le z.natAbs (kk + 1)).2 (by rw [Nat.div_eq_zero_iff] at e; have : 0 < 1000000000 ^ (kk + 1) := Nat.pow_pos (by omega); omega)
            omega
          · exact e
        have g5 : Hid (z.natAbs / 1000000000 ^ kk < 1000000000 ^ (limbs z.natAbs).length) := Nat.lt_of_le_of_lt (Nat.div_le_self _ _) ((Bn.limbs_length_le _ _).1 (Nat.le_refl _))
        generalize (limbs z.natAbs)[kk] = p at *
        generalize hq : z.natAbs / 1000000000 ^ (kk + 1) = q at *
        generalize hy : z.natAbs / 1000000000 ^ kk = y at *
        have HY : Hid (z.natAbs / 1000000000 ^ kk = y) := hy
        have HQ : Hid (y / 1000000000 = q) := by have := g0.out; show _ = _; omega
        clear hq hy g1
        go_wp2
        have hbelw : Below (w.heap.size + 1) W wr := hbel
        go_loopw [3, 5] (fun ov uv wr => ∃ (j u X : Nat), uv = .int .i64 (u : Int) ∧ j ≤ 9 ∧ Hid (u = 10 ^ (9 - j) / 10 ∧ X = y / 10 ^ (9 - j)) ∧ wr.ownsRow (w.heap.size + 1) 5 1 ov (sofar z X).length (byteCells (sofar z X)) ∧ Below (w.heap.size + 1) W wr) (fun _ uv _ => (intOf uv).toNat)
        case atStart => exact ⟨0, 100000000, q, rfl, by omega, ⟨by decide, HQ.out.symm⟩, hown, hbel⟩
        case round =>
          clear hown hbel hbelw g2
          obtain ⟨j, u, X, rfl, hj, hH, hown, hbel⟩ := hrel
          by_cases h9 : j = 9
          · subst h9
            obtain rfl : u = 0 := by have := hH.out.1; simpa using this
            have hXy : Hid (X = z.natAbs / 1000000000 ^ kk) := by have := hH.out.2; rw [HY.out]; show X = y; simpa using this
            go_wp2
            go_roundw
            case rel => exact ⟨kk, _, rfl, rfl, by omega, by rw [← hXy.out]; exact hown, hbel⟩
            case measure => simp [intOf]
          · obtain ⟨hu0, hu1, hX1, hu2, hqX⟩ := digit_step (by omega) g0.out g3 hH.out.1 hH.out.2
            have e0 := (hbel.cell (p := ⟨w.heap.size, 0, none⟩) (Nat.lt_succ_self _)).trans c0
            have e1 := (hbel.cell (p := ⟨w.heap.size, 1, none⟩) (Nat.lt_succ_self _)).trans c1
            have e2 : wr.cell? ⟨ba, kk, none⟩ = some (.int .i64 (p : Int)) := (hbel.cell (p := ⟨ba, kk, none⟩) hbaN).trans g2W
            have hsz : w.heap.size + 1 ≤ wr.heap.size := by have := hbel.size; omega
            have hXle : X ≤ y := by rw [hH.out.2]; exact Nat.div_le_self _ _
            have hn : (sofar z X).length ≤ 9000001 := by have := sofar_le (z := z) (X := X) (Nat.lt_of_le_of_lt hXle g5.out); omega
            obtain ⟨t, ht⟩ : ∃ t : Nat, t = p / u := ⟨_, rfl⟩
            have ht1 : (p : Int) / (u : Int) = (t : Int) := by rw [ht]; rfl
            have htp : t ≤ 999999999 := by rw [ht]; have := Nat.div_le_self p u; omega
            rw [← ht] at hX1
            have T := emit_len (z := z) (X := X)
            have HT : Hid ((1 < (sofar z X).length → 0 < X) ∧ ((sofar z X).length = 1 → ¬ z < 0 → 0 < X) ∧ (0 < X → 1 < (sofar z X).length ∨ ((sofar z X).length = 1 ∧ ¬ z < 0)) ∧ (kk + 1 < (limbs z.natAbs).length → 0 < X)) := ⟨T.1, T.2.1, T.2.2, fun h => Nat.lt_of_lt_of_le (g4.out h) hqX⟩
            have HX1 : Hid (u / 10 = 10 ^ (9 - (j + 1)) / 10 ∧ 10 * X + t % 10 = y / 10 ^ (9 - (j + 1))) := ⟨hu2, hX1.symm⟩
            have HU : Hid (j + 1 ≤ 9) := by show _ ≤ _; omega
            have hkL : (kk : Int) < ((limbs z.natAbs).length : Int) := by omega
            obtain ⟨a0, cp, hv⟩ := own_form hown
            subst hv
            clear T hX1 hu2 ht hH hXle hqX hj h9
            go_wp2_with (at_builtin; refine append_one wr rfl _ _ 72 rfl (w.heap.size + 1) 5 i0 .u8 1 Tryd.underlying72 hi hz0 hz1 hz2 _ _ _ (by rfl) hown _ _ rfl (by rfl) (by omega) (by decide) hsz ?_; intro v' w1 hown1 hgrow)
            all_goals
              first
              | (have hk := hown1
                 have R := text_rel (z := z) (X := X) (d := t % 10) (by omega) (by have h1 := HT.out; have h2 := HD.out; simp at h2; omega) (by omega) hown hbel hsz hown1 hgrow
                 go_roundw
                 case rel => exact ⟨j + 1, u / 10, 10 * X + t % 10, by go_num, HU.out, HX1.out, R.1, R.2⟩
                 case measure => simp [intOf]; omega)
              | (have hk : X = 0 ∧ t % 10 = 0 := by have h1 := HT.out; have h2 := HD.out; simp at h2; omega
                 have hk2 : X = y / 10 ^ (9 - (j + 1)) := by have := HX1.out.2; omega
                 go_roundw
                 case rel => exact ⟨j + 1, u / 10, X, by go_num, HU.out, ⟨HX1.out.1, hk2⟩, hown, hbel⟩
                 case measure => simp [intOf]; omega)

end Go.Proofs.YtangepgiamhenaaDoor
