/-
  A word that is a number.
-/
import Derived.Test.YthohnmplbjhjaaaGreatDoorJ21
namespace Go.Proofs.YthohnmplbjhjaaaGreatDoor
open Go Go.RowKit Go.Shelf Go.Lib

theorem txt_eq (x l : List UInt8) : ((txtOf x).toList == l) = decide (x = l) := by
  have := txt_beq x l
  rwa [show (txtOf l).toList = l by rw [Lib.toList_data, txt_list]] at this
theorem pre_minus (x : List UInt8) : Lib.hasPrefix x [45] = decide (x.headD 0 = 45) ∧ Lib.trimPrefix x [45] = if x.headD 0 = 45 then x.drop 1 else x := by
  cases x with
  | nil => exact ⟨rfl, rfl⟩
  | cons c l =>
    by_cases h : c = 45
    · subst h
      constructor
      · simp [Lib.hasPrefix]
      · simp [Lib.trimPrefix, Lib.hasPrefix]
    · constructor
      · have hp : [45].isPrefixOf (c :: l) = false := by simp [List.isPrefixOf]; exact fun e => h e.symm
        simp [Lib.hasPrefix, h, hp]
      · have hp : [45].isPrefixOf (c :: l) = false := by simp [List.isPrefixOf]; exact fun e => h e.symm
        simp [Lib.trimPrefix, Lib.hasPrefix, h, hp]
theorem num_step (d : List UInt8) (k : Nat) (h : k < d.length) : numT (d.take (k + 1)) = min (10 * numT (d.take k) + ((d[k].toNat : Int) - 48)) 1000000001 := by
  unfold numT
  rw [List.take_succ_eq_append_getElem h, List.foldl_append]
  rfl
theorem num_bd (d : List UInt8) (h : d.all digT = true) : 0 ≤ numT d ∧ numT d ≤ 1000000001 := by
  suffices ∀ (d : List UInt8) (n : Int), (d.all digT = true) → 0 ≤ n → n ≤ 1000000001 → 0 ≤ d.foldl (fun n c => min (10 * n + ((c.toNat : Int) - 48)) 1000000001) n ∧ d.foldl (fun n c => min (10 * n + ((c.toNat : Int) - 48)) 1000000001) n ≤ 1000000001 from this d 0 h (by omega) (by omega)
  intro d
  induction d with
  | nil => intro n _ h0 h1; exact ⟨h0, h1⟩
  | cons c l ih =>
    intro n ha h0 h1
    simp only [List.all_cons, Bool.and_eq_true, digT, decide_eq_true_eq] at ha
    rw [List.foldl_cons]
    exact ih _ (by simpa [digT] using ha.2) (by omega) (by omega)

/-- The digits of a word. -/
def digsT (w : List UInt8) : List UInt8 := if w.headD 0 = 45 then w.drop 1 else w
theorem whole_a {x : List UInt8} (h : digsT x = []) : wholeT x = (0, false) := by unfold wholeT; unfold digsT at h; simp only [h]; rfl
theorem whole_b {x : List UInt8} (h : (digsT x).headD 0 = 48) (h2 : x ≠ [48]) : wholeT x = (0, false) := by unfold wholeT; unfold digsT at h; simp only; rw [if_pos (.inr ⟨h, h2⟩)]
theorem whole_c {x : List UInt8} (h0 : digsT x ≠ []) (h : ¬ ((digsT x).headD 0 = 48 ∧ x ≠ [48])) (ha : (digsT x).all digT = false) : wholeT x = (0, false) := by
  unfold wholeT; unfold digsT at h h0 ha; simp only
  rw [if_neg (fun e => e.elim h0 h), if_neg (by rw [ha]; decide)]
theorem whole_d {x : List UInt8} (h0 : digsT x ≠ []) (h : ¬ ((digsT x).headD 0 = 48 ∧ x ≠ [48])) (ha : (digsT x).all digT = true) : wholeT x = (if x.headD 0 = 45 then -(numT (digsT x)) else numT (digsT x), true) := by
  unfold wholeT; unfold digsT at h h0 ha ⊢; simp only
  rw [if_neg (fun e => e.elim h0 h), if_pos ha]

theorem wrap_ten {n c : Int} (h0 : 0 ≤ n) (h1 : n ≤ 1000000001) (h2 : 48 ≤ c) (h3 : c ≤ 57) : IntKind.i64.wrap (10 * n) = 10 * n ∧ IntKind.u8.wrap (c - 48) = c - 48 ∧ IntKind.i64.wrap (c - 48) = c - 48 ∧ IntKind.i64.wrap (10 * n + (c - 48)) = 10 * n + (c - 48) := by
  refine ⟨?_, ?_, ?_, ?_⟩
  · rw [IntKind.wrap_i64]; omega
  · rw [IntKind.wrap_u8]; omega
  · rw [IntKind.wrap_i64]; omega
  · rw [IntKind.wrap_i64]; omega

set_option maxRecDepth 10000 in
set_option maxHeartbeats 2000000 in
theorem wholeOf_any (x : List UInt8) (w : World) (hx : x.length ≤ 70000) : Calls Tryz.prog 185 #[.string (txtOf x)] w fun e w' => e = .returned (.tuple #[.int .i64 (wholeT x).1, .bool (wholeT x).2]) ∧ w' = w := by
  obtain ⟨p1, p2⟩ := pre_minus x
  obtain ⟨d, hd⟩ : ∃ d, digsT x = d := ⟨_, rfl⟩
  obtain ⟨bw, hbw⟩ : ∃ bw, decide (x.headD 0 = 45) = bw := ⟨_, rfl⟩
  obtain ⟨D, hD⟩ : ∃ D, txtOf d = D := ⟨_, rfl⟩
  have HC : Hid (Calls Tryz.prog 190 #[.string (txtOf x), .string ⟨#[45]⟩] w fun e w' => e = .returned (.tuple #[.string D, .bool bw]) ∧ w' = w) := by
    have := Tryz.strings_CutPrefix (txtOf x) ⟨#[45]⟩ w
    rw [txt_list] at this
    have e1 : (⟨(Lib.trimPrefix x [45]).toArray⟩ : ByteArray) = D := by rw [p2, ← hD, ← hd]; rfl
    have e2 : Lib.hasPrefix x [45] = bw := by rw [p1, hbw]
    rw [← e1, ← e2]
    exact this
  have hDs : D.size = d.length := by rw [← hD]; exact txt_size d
  have hDl : D.data.toList = d := by rw [← hD]; exact txt_list d
  have hdl : d.length ≤ 70000 := by
    rw [← hd]; unfold digsT
    split
    · simp; omega
    · exact hx
  have hq := txt_eq x [48]
  obtain ⟨X, hX⟩ : ∃ X, txtOf x = X := ⟨_, rfl⟩
  rw [hX] at HC hq ⊢
  clear p1 p2 hX hD
  by_cases h0 : d = []
  · have HR : Hid (wholeT x = (0, false)) := whole_a (hd.trans h0)
    have hem : D.toList.isEmpty = true := by rw [Lib.toList_data, hDl, h0]; rfl
    rw [HR.out]
    clear hq
    go_enter Tryz.func185, Tryz.ntmps185
    go_wp2_with fail
    refine calls_at HC.out (by with_reducible rfl) (by with_reducible rfl) ?_
    rintro e w' ⟨rfl, hww⟩
    rw [hww]
    clear hww
    go_wp2_with fail
    go_ret2
    exact ⟨rfl, rfl⟩
  · have hem : D.toList.isEmpty = false := by
      rw [Lib.toList_data, hDl]
      cases d with
      | nil => exact absurd rfl h0
      | cons _ _ => rfl
    have hpos : 0 < D.size := by rw [hDs]; exact List.length_pos_iff.2 h0
    have hposI : (0 : Int) < (D.size : Int) := by omega
    have hh : d.headD 0 = D[0] := by
      have := at_list D hpos
      rw [hDl] at this
      cases d with
      | nil => exact absurd rfl h0
      | cons a l => simpa using this
    have hc48 : ((D[0].toNat : Int) == 48) = decide (d.headD 0 = 48) := by
      rw [hh]
      by_cases h : D[0] = 48
      · rw [h]; rfl
      · rw [decide_eq_false h]
        have h1 : D[0].toNat ≠ 48 := fun e => h (UInt8.toNat_inj.1 e)
        simp; omega
    by_cases h1 : d.headD 0 = 48 ∧ x ≠ [48]
    · have HR : Hid (wholeT x = (0, false)) := whole_b (by rw [hd]; exact h1.1) h1.2
      rw [HR.out]
      rw [decide_eq_true h1.1] at hc48
      rw [decide_eq_false h1.2] at hq
      clear h1 hh
      go_enter Tryz.func185, Tryz.ntmps185
      go_wp2_with fail
      refine calls_at HC.out (by with_reducible rfl) (by with_reducible rfl) ?_
      rintro e w' ⟨rfl, hww⟩
      rw [hww]
      clear hww
      go_wp2_with fail
      go_ret2
      exact ⟨rfl, rfl⟩
    · have hgd : (decide (d.headD 0 = 48) && !decide (x = [48])) = false := by
        by_cases a : d.headD 0 = 48
        · by_cases b : x = [48]
          · rw [decide_eq_true b]; simp
          · exact absurd ⟨a, b⟩ h1
        · rw [decide_eq_false a]; rfl
      have HNb : Hid (¬ ((digsT x).headD 0 = 48 ∧ x ≠ [48])) := by rw [hd]; exact h1
      have HN0 : Hid (digsT x ≠ []) := by rw [hd]; exact h0
      have HA0 : Hid ((d.take 0).all digT = true) := by show _ = _; simp
      have HN : Hid (∀ k, (d.take k).all digT = true → 0 ≤ numT (d.take k) ∧ numT (d.take k) ≤ 1000000001) := fun k h => num_bd _ h
      have HS : Hid (∀ k (h : k < d.length), numT (d.take (k + 1)) = min (10 * numT (d.take k) + ((d[k].toNat : Int) - 48)) 1000000001) := fun k h => num_step d k h
      have HDk : Hid (∀ k (h : k < d.length), ∃ h' : k < D.size, D[k] = d[k]) := fun k h => by
        have h' : k < D.size := by omega
        refine ⟨h', ?_⟩
        have := at_list D h'
        rw [hDl, List.getElem?_eq_getElem h] at this
        injection this with this
        exact this.symm
      have HBw : Hid (decide (x.headD 0 = 45) = bw) := hbw
      have HDd : Hid (digsT x = d) := hd
      have key : ∀ a b : Bool, decide (d.headD 0 = 48) = a → decide (x = [48]) = b → Calls Tryz.prog 185 #[.string X] w fun e w' => e = .returned (.tuple #[.int .i64 (wholeT x).1, .bool (wholeT x).2]) ∧ w' = w := by
        intro a b ea eb
        rw [ea, eb] at hgd
        rw [ea] at hc48
        rw [eb] at hq
        have main : ∀ (hgd : (a && !b) = false), Calls Tryz.prog 185 #[.string X] w fun e w' => e = .returned (.tuple #[.int .i64 (wholeT x).1, .bool (wholeT x).2]) ∧ w' = w := by
          intro _
          have HDs : Hid (D.size = d.length) := hDs
          have E0 : Hid (numT (d.take 0) = 0) := rfl
          clear ea eb h1 hh hbw hd hDl h0 hDs
          cases a <;> cases b <;> first | (exfalso; simp at hgd; done) | skip
          all_goals
            clear hgd
            go_enter Tryz.func185, Tryz.ntmps185
            go_wp2_with fail
            refine calls_at HC.out (by with_reducible rfl) (by with_reducible rfl) ?_
            rintro e w' ⟨rfl, hww⟩
            rw [hww]
            clear hww
            go_wp2_with fail
            go_loopw [6, 26] (fun nv iv wr => ∃ k : Nat, nv = .int .i64 (numT (d.take k)) ∧ iv = .int .i64 (k : Int) ∧ k ≤ d.length ∧ Hid ((d.take k).all digT = true) ∧ w = wr) (fun _ iv _ => d.length - (RowKit.intOf iv).toNat)
            case atStart => exact ⟨0, by rw [E0.out], rfl, Nat.zero_le _, HA0, rfl⟩
            case round =>
              obtain ⟨k, rfl, rfl, hk, hA, rfl⟩ := hrel
              by_cases hlt : k < d.length
              · obtain ⟨h', hDc⟩ := HDk.out k hlt
                have hkI : (k : Int) < (D.size : Int) := by have := HDs.out; omega
                obtain ⟨c, hc⟩ : ∃ c : UInt8, d[k] = c := ⟨_, rfl⟩
                rw [hc] at hDc
                obtain ⟨n0, n1⟩ := HN.out k hA.out
                have HSk := HS.out k hlt
                rw [hc] at HSk
                obtain ⟨n, hn⟩ : ∃ n, numT (d.take k) = n := ⟨_, rfl⟩
                rw [hn] at HSk n0 n1 ⊢
                have HCi : Hid (c = D[k]) := hDc.symm
                clear hDc hn
                rw [HCi.out] at HSk
                by_cases hdg : 48 ≤ ((D[k].toNat : Nat) : Int) ∧ ((D[k].toNat : Nat) : Int) ≤ 57
                · have hcl : decide (((D[k].toNat : Nat) : Int) < 48) = false := decide_eq_false (by omega)
                  have hcr : decide ((57 : Int) < ((D[k].toNat : Nat) : Int)) = false := decide_eq_false (by omega)
                  obtain ⟨q1, q2, q3, q4⟩ := wrap_ten n0 n1 hdg.1 hdg.2
                  have HT : Hid ((d.take (k + 1)).all digT = true ∧ numT (d.take (k + 1)) = min (10 * n + (((D[k].toNat : Nat) : Int) - 48)) 1000000001) := by
                    refine ⟨?_, HSk⟩
                    rw [List.take_succ_eq_append_getElem hlt, List.all_append, hA.out, hc]
                    simp only [List.all_cons, List.all_nil, Bool.and_true, Bool.true_and, digT, decide_eq_true_eq]
                    rw [HCi.out]
                    omega
                  have HQ : Hid (numT (d.take (k + 1)) = min (wrap64 (wrap64 (10 * n) + (((D[k].toNat : Nat) : Int) - 48) % 256)) 1000000001) := by
                    have := HT.out.2
                    show _ = _
                    rw [this]
                    unfold wrap64
                    omega
                  clear hc HSk hdg q1 q2 q3 q4 n0 n1 hc48 hq
                  go_wp2_with fail
                  go_roundw
                  case rel => exact ⟨k + 1, by rw [HQ.out], rfl, by omega, HT.out.1, by first | rfl | trivial⟩
                  case measure => simp [RowKit.intOf]; omega
                · have HR : Hid (wholeT x = (0, false)) := by
                    refine whole_c HN0.out HNb.out ?_
                    rw [HDd.out, List.all_eq_false]
                    refine ⟨c, hc ▸ List.getElem_mem hlt, ?_⟩
                    simp only [digT, decide_eq_true_eq]
                    rw [HCi.out]
                    omega
                  clear hc HSk n0 n1 hc48 hq
                  by_cases hb : ((D[k].toNat : Nat) : Int) < 48
                  · have hcl : decide (((D[k].toNat : Nat) : Int) < 48) = true := decide_eq_true hb
                    clear hb hdg
                    go_wp2_with fail
                    go_ret2
                    exact ⟨by rw [HR.out]; rfl, rfl⟩
                  · have hcl : decide (((D[k].toNat : Nat) : Int) < 48) = false := decide_eq_false hb
                    have hcr : decide ((57 : Int) < ((D[k].toNat : Nat) : Int)) = true := decide_eq_true (by omega)
                    clear hb hdg
                    go_wp2_with fail
                    go_ret2
                    exact ⟨by rw [HR.out]; rfl, rfl⟩
              · have hkI : ¬ (k : Int) < (D.size : Int) := by have := HDs.out; omega
                have HA : Hid (d.all digT = true) := by
                  have := hA.out
                  rwa [List.take_of_length_le (by omega)] at this
                have he : d.take k = d := List.take_of_length_le (by omega)
                have HR : Hid (wholeT x = (if bw = true then -(numT d) else numT d, true)) := by
                  have := whole_d HN0.out HNb.out (by rw [HDd.out]; exact HA.out)
                  show _ = _
                  rw [this, HDd.out, ← HBw.out]
                  simp only [decide_eq_true_eq]
                have hbd := num_bd d HA.out
                obtain ⟨n, hn⟩ : ∃ n, numT d = n := ⟨_, rfl⟩
                rw [hn] at HR hbd
                rw [he, hn]
                have HQ : Hid (wrap64 (-n) = -n) := by show wrap64 (-n) = -n; unfold wrap64; omega
                clear he hn hc48 hq hbd
                cases bw with
                | true =>
                  go_wp2_with fail
                  go_ret2
                  exact ⟨by rw [HR.out, HQ.out]; rfl, rfl⟩
                | false =>
                  go_wp2_with fail
                  go_ret2
                  exact ⟨by rw [HR.out]; rfl, rfl⟩
        exact main hgd
      exact key _ _ rfl rfl
end Go.Proofs.YthohnmplbjhjaaaGreatDoor
