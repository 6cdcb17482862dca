/-
  Package big: appendLimb, strconv.AppendUint; the digits of limbs.
-/
import Derived.Test.YtjffbndiecjkjaaGreatDoorRefAll
import Derived.Test.YtjffbndiecjkjaaGreatDoorBack
import Derived.Test.YtjffbndiecjkjaaGreatDoorIs
import Derived.Test.YtjffbndiecjkjaaGreatDoorSettled
import Derived.Lib.OthersKept
namespace Go.Proofs.YtjffbndiecjkjaaGreatDoor
open Go.RowKit Go.Shelf
open Bn (limbs)
open Go.Lib (byteCells OthersKept)

/-- k digits, noughts in front too. -/
def padK : Nat → Nat → List UInt8
  | 0, _ => []
  | k + 1, x => padK k (x / 10) ++ [UInt8.ofNat (48 + x % 10)]
theorem padK_length : ∀ k x, (padK k x).length = k
  | 0, _ => rfl
  | k + 1, x => by simp [padK, padK_length k]
theorem decDigits_pad : ∀ (k x p : Nat), 0 < x → p < 10 ^ k → Lib.decDigits (x * 10 ^ k + p) = Lib.decDigits x ++ padK k p
  | 0, x, p, _, hp => by
    have : p = 0 := by simpa using hp
    subst this; simp [padK]
  | k + 1, x, p, hx, hp => by
    have h1 : p / 10 < 10 ^ k := by rw [Nat.pow_succ] at hp; omega
    have h2 := decDigits_pad k x (p / 10) hx h1
    have e : x * 10 ^ (k + 1) + p = 10 * (x * 10 ^ k + p / 10) + p % 10 := by
      rw [Nat.pow_succ, ← Nat.mul_assoc]; omega
    have hpos : 0 < x * 10 ^ k + p / 10 := by have := Nat.mul_pos hx (Nat.pow_pos (n := k) (show 0 < 10 by omega)); omega
    rw [e, Bn.decDigits_step hpos (by omega), h2, List.append_assoc]
    rfl

/-- The digits of all limbs of zs that lie at the places pre. -/
def padAll (zs : List Nat) (pre : List (Fin zs.length)) : List UInt8 := pre.flatMap fun i => padK 9 zs[i]
theorem padAll_snoc (zs : List Nat) (pre : List (Fin zs.length)) (x : Fin zs.length) : padAll zs (pre ++ [x]) = padAll zs pre ++ padK 9 zs[x] := by simp [padAll]
theorem padAll_take (zs : List Nat) (top : Nat) (htop : 0 < top) (hz : ∀ d ∈ zs, d < 1000000000) : ∀ k, k ≤ zs.length → Lib.decDigits (Bn.val (zs.drop (zs.length - k) ++ [top])) = Lib.decDigits top ++ padAll zs ((backF zs.length).take k)
  | 0, _ => by simp [padAll, Bn.val]
  | k + 1, hk => by
    rw [backF_take _ _ (by omega), padAll_snoc, ← List.append_assoc, ← padAll_take zs top htop hz k (by omega)]
    have hl : zs.length - 1 - k < zs.length := by omega
    have e : zs.drop (zs.length - (k + 1)) = zs[zs.length - 1 - k] :: zs.drop (zs.length - k) := by
      rw [show zs.length - (k + 1) = zs.length - 1 - k from by omega, List.drop_eq_getElem_cons hl, show zs.length - 1 - k + 1 = zs.length - k from by omega]
    rw [e]
    simp only [List.cons_append, Bn.val, Fin.getElem_fin]
    have hp := hz _ (List.getElem_mem hl)
    have hpos : 0 < Bn.val (zs.drop (zs.length - k) ++ [top]) := by
      rw [Bn.val_append]; simp only [Bn.val]
      have := Nat.mul_pos (Nat.pow_pos (n := (zs.drop (zs.length - k)).length) (show 0 < 1000000000 by omega)) (show 0 < top + 1000000000 * 0 by omega)
      omega
    rw [show zs[zs.length - 1 - k] + 1000000000 * Bn.val (zs.drop (zs.length - k) ++ [top]) = Bn.val (zs.drop (zs.length - k) ++ [top]) * 10 ^ 9 + zs[zs.length - 1 - k] from by omega]
    exact decDigits_pad 9 _ _ hpos (by omega)
theorem padAll_all (zs : List Nat) (top : Nat) (htop : 0 < top) (hz : ∀ d ∈ zs, d < 1000000000) : Lib.decDigits (Bn.val (zs ++ [top])) = Lib.decDigits top ++ padAll zs (backF zs.length) := by
  have := padAll_take zs top htop hz zs.length (Nat.le_refl _)
  rw [backF_all] at this
  simpa using this
theorem padAll_length (zs : List Nat) (pre : List (Fin zs.length)) : (padAll zs pre).length = 9 * pre.length := by
  induction pre with
  | nil => rfl
  | cons x l ih => simp only [padAll, List.flatMap_cons, List.length_append, padK_length] at ih ⊢; rw [ih]; simp; omega

/-- strconv.AppendUint at base 10. -/
theorem appendUint_any (B n u : Nat) (hu64 : u < 18446744073709551616) (sv : Value) (xs : List Value) (w : World) (hown : w.ownsRow B 5 1 sv n xs) (hBw : B ≤ w.heap.size) (hlim : n + 20 ≤ 140737488355328) (ht : Tab w) :
    Calls Tryz.prog 72 #[sv, .int .u64 (u : Int), .int .i64 10] w fun e w' => ∃ v', e = .returned v' ∧ w'.ownsRow B 5 1 v' (n + (Lib.decDigits u).length) (xs ++ byteCells (Lib.decDigits u)) ∧ Below B w w' ∧ OthersKept 5 none w w' := by
  have hC : Calls Tryz.prog 99 #[sv, .int .u64 (u : Int), .int .i64 10] w fun e w' => ∃ v', e = .returned v' ∧ w'.ownsRow B 5 1 v' (n + (Lib.decDigits u).length) (xs ++ byteCells (Lib.decDigits u)) ∧ Below B w w' ∧ OthersKept 5 none w w' := by
    by_cases h : u < 100
    · exact Tryz.internal_strconv_AppendUint_10_small B n u h sv xs w hown hBw hlim
    · exact Tryz.internal_strconv_AppendUint_10_big B n u (by omega) hu64 sv xs w hown hBw hlim ht.1
  have HC : Hid (Calls Tryz.prog 99 #[sv, .int .u64 (u : Int), .int .i64 10] w fun e w' => ∃ v', e = .returned v' ∧ w'.ownsRow B 5 1 v' (n + (Lib.decDigits u).length) (xs ++ byteCells (Lib.decDigits u)) ∧ Below B w w' ∧ OthersKept 5 none w w') := hC
  clear hC hown ht
  go_enter Tryz.func72, Tryz.ntmps72
  go_wp2_with fail
  refine HC.out.mono ?_
  rintro e w' ⟨v', rfl, h1, h2, h3⟩
  go_wp2
  go_ret
  exact ⟨_, rfl, h1, h2, h3⟩

theorem bytes_rel {W wr w1 : World} {B G : Nat} {v v' : Value} {bs : List UInt8} {c : Int} {o : Obj} (hG : G < 10) (hc : c = 48 + (G : Int)) (hown : wr.ownsRow B 5 1 v bs.length (byteCells bs)) (hbel : Below B W wr) (hok : OthersKept 5 none W wr)
    (hown1 : w1.ownsRow B 5 1 v' (bs.length + 1) (byteCells bs ++ [.int .u8 c])) (hg : (wr.alloc o).grownBy w1 v.ownBlock) (hB : B ≤ wr.heap.size) :
    w1.ownsRow B 5 1 v' (bs ++ [UInt8.ofNat (48 + G)]).length (byteCells (bs ++ [UInt8.ofNat (48 + G)])) ∧ Below B W w1 ∧ OthersKept 5 none W w1 := by
  refine ⟨?_, ?_, ?_⟩
  · rw [byteCells_snoc _ _ hG, List.length_append, ← hc]; exact hown1
  · exact (hbel.alloc hB o).grown hg (by simp; omega) (fun g hg => (hown.lt g hg).1)
  · refine (hok.alloc o).grown hg (fun g e => ?_)
    obtain ⟨_, h | ⟨g', cap, cur, hv, _, hh, _⟩⟩ := hown
    · rw [h.1] at e; cases e
    · rw [hv] at e
      simp only [Value.ownBlock, Option.some.injEq] at e
      subst e
      exact ⟨cur, (0, 0), (Below.heap_alloc wr o _ (by have := (Array.getElem?_eq_some_iff.1 hh).1; exact this)).trans hh⟩

set_option maxHeartbeats 400000 in
set_option maxRecDepth 100000 in
/-- appendLimb. -/
theorem appendLimb_any (B p : Nat) (bs : List UInt8) (v : Value) (w : World) (hown : w.ownsRow B 5 1 v bs.length (byteCells bs)) (hBw : B ≤ w.heap.size) (hlen : bs.length ≤ 100000000) (hp : p < 1000000000) :
    Calls Tryz.prog 74 #[v, .int .u32 (p : Int)] w fun e w' => ∃ v', e = .returned v' ∧ w'.ownsRow B 5 1 v' (bs ++ padK 9 p).length (byteCells (bs ++ padK 9 p)) ∧ Below B w w' ∧ OthersKept 5 none w w' := by
  obtain ⟨i0, hi, hz0, hz1, hz2⟩ := info_parts Tryz.info5
  go_enter Tryz.func74, Tryz.ntmps74
  go_wp2
  go_loopw [0, 5] (fun ov uv wr => ∃ (j u X : Nat), uv = .int .u32 (u : Int) ∧ j ≤ 9 ∧ Hid (u = 10 ^ (9 - j) / 10 ∧ X = p / 10 ^ (9 - j)) ∧ wr.ownsRow B 5 1 ov (bs ++ padK j X).length (byteCells (bs ++ padK j X)) ∧ Below B w wr ∧ OthersKept 5 none w wr) (fun _ uv _ => (intOf uv).toNat)
  case atStart => exact ⟨0, 100000000, 0, rfl, by omega, ⟨by decide, by rw [Nat.div_eq_of_lt (by omega)]⟩, by simpa [padK] using hown, Below.refl _ _, OthersKept.refl _ _ _⟩
  case round =>
    clear hown
    obtain ⟨j, u, X, rfl, hj, hH, hown, hbel, hok⟩ := hrel
    by_cases h9 : j = 9
    · subst h9
      obtain rfl : u = 0 := by have := hH.out.1; simpa using this
      have hX : Hid (X = p) := by have := hH.out.2; show X = p; simpa using this
      go_wp2
      go_ret
      exact ⟨_, rfl, by rw [← hX.out]; rw [List.length_append] at hown; exact hown, hbel, hok⟩
    · obtain ⟨hu0, hu1, hX1, hu2, _⟩ := digit_step (y := p) (p := p) (q := 0) (by omega) (by omega) hp hH.out.1 hH.out.2
      have hsw : B ≤ wr.heap.size := Nat.le_trans hBw hbel.size
      have hn : (bs ++ padK j X).length ≤ 100000009 := by rw [List.length_append, padK_length]; omega
      obtain ⟨t, ht⟩ : ∃ t : Nat, t = p / u := ⟨_, rfl⟩
      have ht1 : (p : Int) / (u : Int) = (t : Int) := by rw [ht]; rfl
      have htp : t ≤ 999999999 := by rw [ht]; have := Nat.div_le_self p u; omega
      rw [← ht] at hX1
      have HE : Hid (bs ++ padK (j + 1) (10 * X + t % 10) = bs ++ padK j X ++ [UInt8.ofNat (48 + t % 10)]) := by
        show _ = _
        simp only [padK]
        rw [show (10 * X + t % 10) / 10 = X from by omega, show (10 * X + t % 10) % 10 = t % 10 from by omega, List.append_assoc]
      have HX1 : Hid (u / 10 = 10 ^ (9 - (j + 1)) / 10 ∧ 10 * X + t % 10 = p / 10 ^ (9 - (j + 1))) := ⟨hu2, hX1.symm⟩
      have HU : Hid (j + 1 ≤ 9) := by show _ ≤ _; omega
      obtain ⟨a0, cp, hv⟩ := own_form hown
      subst hv
      clear hX1 hu2 ht hH hj h9
      go_wp2_with (at_builtin; refine append_one wr rfl _ _ 101 rfl B 5 i0 .u8 1 Tryz.underlying101 hi hz0 hz1 hz2 _ _ _ (by rfl) hown _ _ rfl (by rfl) (by omega) (by decide) hsw ?_; intro v' w1 hown1 hgrow)
      have R := bytes_rel (G := t % 10) (by omega) (by omega) hown hbel hok hown1 hgrow hsw
      rw [← HE.out] at R
      clear hown1 hgrow hown hbel hok
      go_roundw
      case rel => exact ⟨j + 1, u / 10, 10 * X + t % 10, by go_num, HU.out, HX1.out, R.1, R.2.1, R.2.2⟩
      case measure => simp [intOf]; omega

end Go.Proofs.YtjffbndiecjkjaaGreatDoor
