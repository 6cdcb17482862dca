/-
  The document's side of package model: what each kind asks of values.
-/
import Derived.Test.YtmhfabnpfkkbcaaGreatMdRefAB
import Derived.Test.YtmhfabnpfkkbcaaGreatMdTable
namespace Go.Proofs.YtmhfabnpfkkbcaaGreat
open Go.RowKit

set_option maxRecDepth 10000 in
set_option maxHeartbeats 2000000 in
theorem different_any (vx vv : Value) (xs vs : List Int) (w : World) (hx : IntsAt w vx xs) (hv : IntsAt w vv vs) (hx0 : 0 < xs.length) (hx64 : xs.length ≤ 64) (hin : ∀ x ∈ xs, 0 ≤ x ∧ x < vs.length) :
    Calls Tryz.prog 73 #[vx, vv] w fun e w' => e = .returned (.bool (Md.diffB (xs.map (Md.val vs)))) ∧ Below w.heap.size w w' := by
  have hn0 : 0 < vs.length := by have := hin _ (List.getElem_mem hx0); omega
  obtain ⟨bx, ox, xc, rfl, hbx, hmx, hxc⟩ := hx.open2 hx0
  obtain ⟨bv, ov, vc, rfl, hbv, hmv, hvc⟩ := hv.open hn0
  unfold maxLen at hmx hmv
  have HXC : Hid (∀ w', Below w.heap.size w w' → ∀ m (hm : m < xs.length), w'.cell? ⟨bx, ox + m, none⟩ = some (.int .i64 xs[m])) := fun w' hb m hm => (hb.cell (p := ⟨bx, ox + m, none⟩) hbx).trans (hxc m hm)
  have HVC : Hid (∀ w', Below w.heap.size w w' → ∀ m : Nat, m < vs.length → w'.cell? ⟨bv, ov + m, none⟩ = some (.int .i64 (Md.val vs (m : Int)))) := fun w' hb m hm => (hb.cell (p := ⟨bv, ov + m, none⟩) hbv).trans (hvc m hm)
  have HIN : Hid (∀ x ∈ xs, 0 ≤ x ∧ x < vs.length) := hin
  obtain ⟨L, hL⟩ : ∃ L, xs.map (Md.val vs) = L := ⟨_, rfl⟩
  have HL : Hid (L.length = xs.length ∧ ∀ j (h1 : j < L.length) (h2 : j < xs.length), L[j] = Md.val vs xs[j]) := by
    subst hL
    exact ⟨by simp, fun j h1 h2 => by simp⟩
  rw [hL]
  clear hx hv hxc hvc hin hL
  go_enter Tryz.func73, Tryz.ntmps73
  go_wp2
  go_loopw [5] (fun iv wr => ∃ k : Nat, iv = .int .i64 (k : Int) ∧ k ≤ xs.length ∧ Hid (∀ i (hi : i < L.length), i < k → ∀ j (hj : j < i), L[j] ≠ L[i]) ∧ Hid (Below w.heap.size w wr)) (fun iv _ => xs.length - (intOf iv).toNat)
  case atStart => exact ⟨0, rfl, Nat.zero_le _, fun i _ h => absurd h (Nat.not_lt_zero _), Below.refl _ _⟩
  case round =>
    obtain ⟨k, rfl, hk, hA, hB⟩ := hrel
    by_cases hlt : k < xs.length
    · have hkI : (k : Int) < (xs.length : Int) := by omega
      obtain ⟨m, hm, hl⟩ := nat_of (HIN.out _ (List.getElem_mem hlt))
      have hlI : (m : Int) < (vs.length : Int) := by omega
      have hLk : Hid (∀ h : k < L.length, L[k] = Md.val vs (m : Int)) := fun h => by rw [HL.out.2 k h hlt, hm]
      have HXK : Hid (∀ w', Below w.heap.size w w' → w'.cell? ⟨bx, ox + k, none⟩ = some (.int .i64 (m : Int))) := fun w' hb => by rw [← hm]; exact HXC.out w' hb k hlt
      clear hm
      go_wp2
      go_loopw [6] (fun jv wq => ∃ j : Nat, jv = .int .i64 (j : Int) ∧ j ≤ k ∧ Hid (∀ i (hi : i < L.length), i < j → L[i] ≠ Md.val vs (m : Int)) ∧ Hid (Below w.heap.size w wq)) (fun jv _ => k - (intOf jv).toNat)
      case atStart => exact ⟨0, rfl, Nat.zero_le _, fun i _ h => absurd h (Nat.not_lt_zero _), hB⟩
      case round =>
        obtain ⟨j, rfl, hj, hJ, hQ⟩ := hrel
        by_cases hjk : j < k
        · have hjI : (j : Int) < (k : Int) := by omega
          have hjx : j < xs.length := by omega
          have hjxI : (j : Int) < (xs.length : Int) := by omega
          obtain ⟨q, hq, hlq⟩ := nat_of (HIN.out _ (List.getElem_mem hjx))
          have hlqI : (q : Int) < (vs.length : Int) := by omega
          have xj := HXC.out _ hQ.out j hjx
          have xk := HXK.out _ hQ.out
          have dq := HVC.out _ hQ.out q hlq
          have dm := HVC.out _ hQ.out m hl
          have hLj : Hid (∀ h : j < L.length, L[j] = Md.val vs (q : Int)) := fun h => by rw [HL.out.2 j h hjx, hq]
          rw [hq] at xj
          clear hq
          by_cases he : Md.val vs (q : Int) = Md.val vs (m : Int)
          · have hkL : k < L.length := by have := HL.out.1; omega
            have hd : Hid (Md.diffB L = false) := Md.diff_stop hkL hjk (by rw [hLk.out hkL, hLj.out (by omega), he])
            rw [he] at dq
            clear he
            go_wp2
            go_quiet (fail)
            go_wp2
            go_ret
            exact ⟨ret_bool (by rw [hd.out]), below_drewN hQ.out _⟩
          · have heB : (Md.val vs (q : Int) == Md.val vs (m : Int)) = false := by simpa using he
            have hnx : Hid (∀ i (hi : i < L.length), i < j + 1 → L[i] ≠ Md.val vs (m : Int)) := fun i hi h => by
              by_cases hij : i < j
              · exact hJ.out i hi hij
              · obtain rfl : i = j := by omega
                rw [hLj.out hi]; exact he
            clear he
            go_wp2
            go_quiet (fail)
            go_wp2
            go_roundw
            case rel => exact ⟨j + 1, by go_num, by omega, hnx, below_drewN hQ.out _⟩
            case measure => simp [intOf]; omega
        · have hjI : ¬ (j : Int) < (k : Int) := by omega
          have hnx : Hid (∀ i (hi : i < L.length), i < k + 1 → ∀ j (hj : j < i), L[j] ≠ L[i]) := fun i hi h j' hj' => by
            by_cases hik : i < k
            · exact hA.out i hi hik j' hj'
            · obtain rfl : i = k := by omega
              rw [hLk.out hi]; exact hJ.out j' (by omega) (by omega)
          go_wp2
          go_roundw
          case rel => exact ⟨k + 1, by go_num, by omega, hnx, hQ⟩
          case measure => simp [intOf]; omega
    · have hkI : ¬ (k : Int) < (xs.length : Int) := by omega
      have hd : Hid (Md.diffB L = true) := Md.diff_done (fun i hi j hj => hA.out i hi (by have := HL.out.1; omega) j hj)
      go_wp2
      go_ret
      exact ⟨ret_bool (by rw [hd.out]), hB.out⟩

set_option maxRecDepth 10000 in
set_option maxHeartbeats 2000000 in
theorem bestMax_any (y : Int) (vx vv : Value) (xs vs : List Int) (w : World) (hx : IntsAt w vx xs) (hv : IntsAt w vv vs) (hx0 : 0 < xs.length) (hx64 : xs.length ≤ 64) (hin : ∀ x ∈ xs, 0 ≤ x ∧ x < vs.length) (hn : vs.all Md.numB = true) (hy : -1000000000 ≤ y ∧ y ≤ 1000000000) :
    Calls Tryz.prog 74 #[.int .i64 y, vx, vv, .int .i64 1] w fun e w' => e = .returned (.bool (xs.all (fun x => decide (Md.val vs x ≤ y)) && xs.any (fun x => decide (Md.val vs x = y)))) ∧ w' = w := by
  have hn0 : 0 < vs.length := by have := hin _ (List.getElem_mem hx0); omega
  obtain ⟨bx, ox, xc, rfl, hbx, hmx, hxc⟩ := hx.open2 hx0
  obtain ⟨bv, ov, vc, rfl, hbv, hmv, hvc⟩ := hv.open hn0
  unfold maxLen at hmx hmv
  have HXC : Hid (∀ m (hm : m < xs.length), w.cell? ⟨bx, ox + m, none⟩ = some (.int .i64 xs[m])) := hxc
  have HVC : Hid (∀ m : Nat, m < vs.length → w.cell? ⟨bv, ov + m, none⟩ = some (.int .i64 (Md.val vs (m : Int)))) := hvc
  have HIN : Hid (∀ x ∈ xs, 0 ≤ x ∧ x < vs.length) := hin
  have HN : Hid (vs.all Md.numB = true) := hn
  obtain ⟨p, hp⟩ : ∃ p : Int → Bool, (fun x => decide (Md.val vs x ≤ y)) = p := ⟨_, rfl⟩
  obtain ⟨q, hq⟩ : ∃ q : Int → Bool, (fun x => decide (Md.val vs x = y)) = q := ⟨_, rfl⟩
  have HP : Hid ((fun x => decide (Md.val vs x ≤ y)) = p) := hp
  have HQ : Hid ((fun x => decide (Md.val vs x = y)) = q) := hq
  rw [hp, hq]
  clear hx hv hxc hvc hin hn hp hq
  go_enter Tryz.func74, Tryz.ntmps74
  go_wp2
  go_loop [9, 10] (fun bv iv => ∃ k : Nat, iv = .int .i64 (k : Int) ∧ k ≤ xs.length ∧ Hid ((xs.take k).all p = true) ∧ bv = .bool ((xs.take k).any q)) (fun _ iv => xs.length - (intOf iv).toNat)
  case atStart => exact ⟨0, rfl, Nat.zero_le _, (show _ = _ by simp), by simp⟩
  case round =>
    obtain ⟨k, rfl, hk, hA, rfl⟩ := hrel
    by_cases hlt : k < xs.length
    · have hkI : (k : Int) < (xs.length : Int) := by omega
      obtain ⟨m, hm, hl⟩ := nat_of (HIN.out _ (List.getElem_mem hlt))
      have hlI : (m : Int) < (vs.length : Int) := by omega
      have dm := HVC.out m hl
      have xk := HXC.out k hlt
      have hb1 := Md.val_mem HN.out (m : Int)
      have hpk : p xs[k] = (fun x => decide (Md.val vs x ≤ y)) (m : Int) := by rw [← HP.out, hm]
      have hqk : q xs[k] = decide (Md.val vs (m : Int) = y) := by rw [← HQ.out, hm]
      rw [hm] at xk
      have hnq : Hid ((xs.take (k + 1)).any q = ((xs.take k).any q || decide (Md.val vs (m : Int) = y))) := by show _ = _; rw [Md.any_next hlt, hqk]
      by_cases hst : y < Md.val vs (m : Int)
      · have hres : Hid ((xs.all p && xs.any q) = false) := by
          have : xs.all p = false := Md.all_stop hlt (by rw [hpk]; simp; omega)
          show _ = _
          rw [this]; rfl
        clear hm hpk hqk hnq
        generalize Md.val vs (m : Int) = z at *
        go_wp2
        go_ret
        exact ⟨ret_bool hres.out.symm, rfl⟩
      · have hnp : Hid ((xs.take (k + 1)).all p = true) := Md.all_next hA.out hlt (by rw [hpk]; simp; omega)
        clear hm hpk hqk
        generalize Md.val vs (m : Int) = z at *
        cases hbq : (xs.take k).any q
        · rw [hbq] at hnq
          go_wp2
          go_round
          case rel => exact ⟨k + 1, by go_num, by omega, hnp, by rw [hnq.out]; congr 1⟩
          case measure => simp [intOf]; omega
        · rw [hbq] at hnq
          go_wp2
          go_round
          case rel => exact ⟨k + 1, by go_num, by omega, hnp, by rw [hnq.out]; first | done | simp⟩
          case measure => simp [intOf]; omega
    · have hkI : ¬ (k : Int) < (xs.length : Int) := by omega
      have hres : Hid ((xs.all p && xs.any q) = (xs.take k).any q) := by
        show _ = _
        rw [Md.all_done hA.out (by omega), List.take_of_length_le (by omega)]; rfl
      go_wp2
      go_ret
      exact ⟨ret_bool hres.out.symm, rfl⟩

set_option maxRecDepth 10000 in
set_option maxHeartbeats 2000000 in
theorem bestMin_any (y : Int) (vx vv : Value) (xs vs : List Int) (w : World) (hx : IntsAt w vx xs) (hv : IntsAt w vv vs) (hx0 : 0 < xs.length) (hx64 : xs.length ≤ 64) (hin : ∀ x ∈ xs, 0 ≤ x ∧ x < vs.length) (hn : vs.all Md.numB = true) (hy : -1000000000 ≤ y ∧ y ≤ 1000000000) :
    Calls Tryz.prog 74 #[.int .i64 y, vx, vv, .int .i64 (-1)] w fun e w' => e = .returned (.bool (xs.all (fun x => decide (y ≤ Md.val vs x)) && xs.any (fun x => decide (Md.val vs x = y)))) ∧ w' = w := by
  have hn0 : 0 < vs.length := by have := hin _ (List.getElem_mem hx0); omega
  obtain ⟨bx, ox, xc, rfl, hbx, hmx, hxc⟩ := hx.open2 hx0
  obtain ⟨bv, ov, vc, rfl, hbv, hmv, hvc⟩ := hv.open hn0
  unfold maxLen at hmx hmv
  have HXC : Hid (∀ m (hm : m < xs.length), w.cell? ⟨bx, ox + m, none⟩ = some (.int .i64 xs[m])) := hxc
  have HVC : Hid (∀ m : Nat, m < vs.length → w.cell? ⟨bv, ov + m, none⟩ = some (.int .i64 (Md.val vs (m : Int)))) := hvc
  have HIN : Hid (∀ x ∈ xs, 0 ≤ x ∧ x < vs.length) := hin
  have HN : Hid (vs.all Md.numB = true) := hn
  obtain ⟨p, hp⟩ : ∃ p : Int → Bool, (fun x => decide (y ≤ Md.val vs x)) = p := ⟨_, rfl⟩
  obtain ⟨q, hq⟩ : ∃ q : Int → Bool, (fun x => decide (Md.val vs x = y)) = q := ⟨_, rfl⟩
  have HP : Hid ((fun x => decide (y ≤ Md.val vs x)) = p) := hp
  have HQ : Hid ((fun x => decide (Md.val vs x = y)) = q) := hq
  rw [hp, hq]
  clear hx hv hxc hvc hin hn hp hq
  go_enter Tryz.func74, Tryz.ntmps74
  go_wp2
  go_loop [9, 10] (fun bv iv => ∃ k : Nat, iv = .int .i64 (k : Int) ∧ k ≤ xs.length ∧ Hid ((xs.take k).all p = true) ∧ bv = .bool ((xs.take k).any q)) (fun _ iv => xs.length - (intOf iv).toNat)
  case atStart => exact ⟨0, rfl, Nat.zero_le _, (show _ = _ by simp), by simp⟩
  case round =>
    obtain ⟨k, rfl, hk, hA, rfl⟩ := hrel
    by_cases hlt : k < xs.length
    · have hkI : (k : Int) < (xs.length : Int) := by omega
      obtain ⟨m, hm, hl⟩ := nat_of (HIN.out _ (List.getElem_mem hlt))
      have hlI : (m : Int) < (vs.length : Int) := by omega
      have dm := HVC.out m hl
      have xk := HXC.out k hlt
      have hb1 := Md.val_mem HN.out (m : Int)
      have hpk : p xs[k] = (fun x => decide (y ≤ Md.val vs x)) (m : Int) := by rw [← HP.out, hm]
      have hqk : q xs[k] = decide (Md.val vs (m : Int) = y) := by rw [← HQ.out, hm]
      rw [hm] at xk
      have hnq : Hid ((xs.take (k + 1)).any q = ((xs.take k).any q || decide (Md.val vs (m : Int) = y))) := by show _ = _; rw [Md.any_next hlt, hqk]
      by_cases hst : Md.val vs (m : Int) < y
      · have hres : Hid ((xs.all p && xs.any q) = false) := by
          have : xs.all p = false := Md.all_stop hlt (by rw [hpk]; simp; omega)
          show _ = _
          rw [this]; rfl
        clear hm hpk hqk hnq
        generalize Md.val vs (m : Int) = z at *
        go_wp2
        go_ret
        exact ⟨ret_bool hres.out.symm, rfl⟩
      · have hnp : Hid ((xs.take (k + 1)).all p = true) := Md.all_next hA.out hlt (by rw [hpk]; simp; omega)
        clear hm hpk hqk
        generalize Md.val vs (m : Int) = z at *
        cases hbq : (xs.take k).any q
        · rw [hbq] at hnq
          go_wp2
          go_round
          case rel => exact ⟨k + 1, by go_num, by omega, hnp, by rw [hnq.out]; congr 1⟩
          case measure => simp [intOf]; omega
        · rw [hbq] at hnq
          go_wp2
          go_round
          case rel => exact ⟨k + 1, by go_num, by omega, hnp, by rw [hnq.out]; first | done | simp⟩
          case measure => simp [intOf]; omega
    · have hkI : ¬ (k : Int) < (xs.length : Int) := by omega
      have hres : Hid ((xs.all p && xs.any q) = (xs.take k).any q) := by
        show _ = _
        rw [Md.all_done hA.out (by omega), List.take_of_length_le (by omega)]; rfl
      go_wp2
      go_ret
      exact ⟨ret_bool hres.out.symm, rfl⟩
end Go.Proofs.YtmhfabnpfkkbcaaGreat
