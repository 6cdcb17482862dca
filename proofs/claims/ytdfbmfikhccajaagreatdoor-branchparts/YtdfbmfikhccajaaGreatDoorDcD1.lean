/-
  Names and variables: the document's.
-/
import Derived.Test.YtdfbmfikhccajaaGreatDoorJ22
namespace Go.Proofs.YtdfbmfikhccajaaGreatDoor.Doc
open Go.RowKit

theorem ltr_dig {n : Int} (h : Md.ltrI n = true) : Md.digI n = false := by
  simp [Md.ltrI, Md.digI] at *
  omega
theorem nm_ltr {s : ByteArray} (h1 : 0 < s.size) (h : Md.ltrI ((s[0]).toNat : Int) = false) : Md.nameB s.data.toList = false := by
  cases hd : Md.digI ((s[0]).toNat : Int)
  · exact nm_stop h1 (by simp [Md.wordB, Md.byteI, h, hd])
  · exact nm_dig h1 hd

set_option maxRecDepth 10000 in
set_option maxHeartbeats 1000000 in
theorem name_any (s : ByteArray) (w : World) (hs : s.size ≤ maxLen) : Calls Tryz.prog 75 #[.string s] w fun e w' => e = .returned (.bool (Md.nameB s.data.toList)) ∧ w' = w := by
  unfold maxLen at hs
  by_cases h0 : s.size < 1
  · have hres : Hid (Md.nameB s.data.toList = false) := nm_len (.inl h0)
    have h0I : (s.size : Int) < 1 := by omega
    go_enter Tryz.func75, Tryz.ntmps75
    go_wp2
    go_ret
    exact ⟨ret_bool hres.out.symm, rfl⟩
  have h0I : ¬ (s.size : Int) < 1 := by omega
  by_cases h1 : 16 < s.size
  · have hres : Hid (Md.nameB s.data.toList = false) := nm_len (.inr h1)
    have hI : (16 : Int) < (s.size : Int) := by omega
    go_enter Tryz.func75, Tryz.ntmps75
    go_wp2
    go_ret
    exact ⟨ret_bool hres.out.symm, rfl⟩
  have hI : ¬ (16 : Int) < (s.size : Int) := by omega
  have h00 : 0 < s.size := by omega
  have hI0 : (0 : Int) < (s.size : Int) := by omega
  cases hd : Md.ltrI ((s[0]).toNat : Int)
  · have hres : Hid (Md.nameB s.data.toList = false) := nm_ltr h00 hd
    go_enter Tryz.func75, Tryz.ntmps75
    go_wp2_with (go_at_call 95; refine (letter_any _ _).mono ?_; rintro e w' ⟨rfl, hww⟩; rw [hww])
    go_ret
    exact ⟨ret_bool hres.out.symm, rfl⟩
  have HD : Hid (Md.digI ((s[0]).toNat : Int) = false) := ltr_dig hd
  have H1 : Hid ((s.data.toList.take 1).all Md.wordB = true) := nm_next h00 (by simp) (by simp [Md.wordB, Md.byteI, hd])
  go_enter Tryz.func75, Tryz.ntmps75
  go_wp2_with (go_at_call 95; refine (letter_any _ _).mono ?_; rintro e w' ⟨rfl, hww⟩; rw [hww])
  clear hd
  go_loop [3] (fun iv => ∃ k : Nat, iv = .int .i64 (k : Int) ∧ k ≤ s.size ∧ Hid ((s.data.toList.take k).all Md.wordB = true)) (fun iv => s.size - (intOf iv).toNat)
  case atStart => exact ⟨1, rfl, h00, H1⟩
  case round =>
    obtain ⟨k, rfl, hk, hA⟩ := hrel
    by_cases hlt : k < s.size
    · have hkI : (k : Int) < (s.size : Int) := by omega
      cases hL : Md.ltrI ((s[k]).toNat : Int)
      · cases hG : Md.digI ((s[k]).toNat : Int)
        · have hres : Hid (Md.nameB s.data.toList = false) := nm_stop hlt (by simp [Md.wordB, Md.byteI, hL, hG])
          have hG' : ¬ (48 ≤ ((s[k]).toNat : Int) ∧ ((s[k]).toNat : Int) ≤ 57) := by simpa [Md.digI] using hG
          clear hG
          go_wp2_with (go_at_call 95; refine (letter_any _ _).mono ?_; rintro e w' ⟨rfl, hww⟩; rw [hww])
          all_goals first
            | (go_ret; exact ⟨ret_bool hres.out.symm, rfl⟩)
            | (exfalso; omega)
        · have hnx : Hid ((s.data.toList.take (k + 1)).all Md.wordB = true) := nm_next hlt hA.out (by simp [Md.wordB, Md.byteI, hG])
          obtain ⟨g1, g2⟩ : 48 ≤ ((s[k]).toNat : Int) ∧ ((s[k]).toNat : Int) ≤ 57 := by simpa [Md.digI] using hG
          have g3 : ¬ ((s[k]).toNat : Int) < 48 := by omega
          have g4 : ¬ 57 < ((s[k]).toNat : Int) := by omega
          clear hG
          go_wp2_with (go_at_call 95; refine (letter_any _ _).mono ?_; rintro e w' ⟨rfl, hww⟩; rw [hww])
          all_goals first
            | (go_round; (case rel => exact ⟨k + 1, by go_num, by omega, hnx⟩); (case measure => simp [intOf]; omega))
            | (exfalso; omega)
      · have hnx : Hid ((s.data.toList.take (k + 1)).all Md.wordB = true) := nm_next hlt hA.out (by simp [Md.wordB, Md.byteI, hL])
        go_wp2_with (go_at_call 95; refine (letter_any _ _).mono ?_; rintro e w' ⟨rfl, hww⟩; rw [hww])
        go_round
        case rel => exact ⟨k + 1, by go_num, by omega, hnx⟩
        case measure => simp [intOf]; omega
    · have hkI : ¬ (k : Int) < (s.size : Int) := by omega
      have hres : Hid (Md.nameB s.data.toList = true) := nm_done h00 (by omega) HD.out hA.out (by omega)
      go_wp2_with fail
      go_ret
      exact ⟨ret_bool hres.out.symm, rfl⟩

/-- What vars answers. -/
def varsE (l : List Md.Vr) : Int × Int :=
  if Md.fewB l.length 32 then (0, 40) else match Md.firstBad l.length (Md.vFault l) with | some i => ((i : Int), Md.vFault l i) | none => (0, 0)
theorem ve_few {l : List Md.Vr} (h : Md.fewB l.length 32 = true) : varsE l = (0, 40) := by unfold varsE; rw [if_pos h]
theorem ve_bad {l : List Md.Vr} {i : Nat} (h : Md.fewB l.length 32 = false) (hi : i < l.length) (hb : Md.vFault l i ≠ 0) (ha : ∀ j, j < i → Md.vFault l j = 0) : varsE l = ((i : Int), Md.vFault l i) := by
  unfold varsE
  rw [if_neg (by simp [h]), Md.firstBad_some hi hb ha]
theorem ve_ok {l : List Md.Vr} (h : Md.fewB l.length 32 = false) (ha : ∀ j, j < l.length → Md.vFault l j = 0) : varsE l = (0, 0) := by
  unfold varsE
  rw [if_neg (by simp [h]), Md.firstBad_none ha]

set_option maxRecDepth 10000 in
set_option maxHeartbeats 4000000 in
theorem refVars_any (va : Value) (l : List Md.Vr) (w : World) (h : VarsAt w va l) : Calls Tryz.prog 55 #[va] w fun e w' => e = .returned (.tuple #[.int .i64 (varsE l).1, .int .i64 (varsE l).2]) ∧ Below w.heap.size w w' := by
  obtain ⟨a, cap, rfl, hm, hn, hc⟩ := h
  unfold maxLen at hm
  have HNM : Hid (∀ x ∈ l, x.name.size ≤ maxLen) := hn
  have HC : Hid (0 < l.length → ∃ b off, a = some ⟨b, off, none⟩ ∧ b < w.heap.size ∧ ∀ j (h : j < l.length), w.cell? ⟨b, off + j * 3, none⟩ = some (.string l[j].name) ∧ w.cell? ⟨b, off + j * 3 + 1, none⟩ = some (.int .i64 l[j].lo) ∧ w.cell? ⟨b, off + j * 3 + 2, none⟩ = some (.int .i64 l[j].hi)) := hc
  clear hn hc
  by_cases hn0 : l.length < 1
  · have hres : Hid (varsE l = (0, 40)) := ve_few (decide_eq_true (.inl hn0))
    have hI : (l.length : Int) < 1 := by omega
    go_enter Tryz.func55, Tryz.ntmps55
    go_wp2
    go_ret2
    exact ⟨ret_pair hres.out.symm, Below.refl _ _⟩
  have hI0 : ¬ (l.length : Int) < 1 := by omega
  by_cases hn1 : 32 < l.length
  · have hres : Hid (varsE l = (0, 40)) := ve_few (decide_eq_true (.inr hn1))
    have hI : (32 : Int) < (l.length : Int) := by omega
    go_enter Tryz.func55, Tryz.ntmps55
    go_wp2
    go_ret2
    exact ⟨ret_pair hres.out.symm, Below.refl _ _⟩
  have hI1 : ¬ (32 : Int) < (l.length : Int) := by omega
  have HF : Hid (Md.fewB l.length 32 = false) := decide_eq_false (by omega)
  go_enter Tryz.func55, Tryz.ntmps55
  go_wp2
  go_loopw [4] (fun iv wr => ∃ k : Nat, iv = .int .i64 (k : Int) ∧ k ≤ l.length ∧ Hid (∀ j, j < k → Md.vFault l j = 0) ∧ Hid (Below w.heap.size w wr)) (fun iv _ => l.length - (intOf iv).toNat)
  case atStart => exact ⟨0, rfl, Nat.zero_le _, fun j h => absurd h (Nat.not_lt_zero _), Below.refl _ _⟩
  case round =>
    obtain ⟨k, rfl, hk, hA, hR⟩ := hrel
    rename World => wk
    by_cases hlt : k < l.length
    · have hkI : (k : Int) < (l.length : Int) := by omega
      obtain ⟨b, off, rfl, hb, hc⟩ := HC.out (by omega)
      obtain ⟨d0, d1, d2⟩ := hc k hlt
      have HD0 : Hid (w.cell? ⟨b, off + k * 3, none⟩ = some (.string l[k].name)) := d0
      have HD1 : Hid (w.cell? ⟨b, off + k * 3 + 1, none⟩ = some (.int .i64 l[k].lo)) := d1
      have HD2 : Hid (w.cell? ⟨b, off + k * 3 + 2, none⟩ = some (.int .i64 l[k].hi)) := d2
      have e0 := (hR.out.cell (p := ⟨b, off + k * 3, none⟩) hb).trans d0
      have HG : Hid (Md.vFault l k = Md.varFault l[k] (l.take k)) := Md.vFault_get hlt
      have HV : Hid ((l[k]).name.size ≤ maxLen) := HNM.out _ (List.getElem_mem hlt)
      have HCJ : Hid (∀ j, (h : j < l.length) → w.cell? ⟨b, off + j * 3, none⟩ = some (.string l[j].name)) := fun j h => (hc j h).1
      clear hc d0 d1 d2
      generalize hv : l[k] = v at *
      clear hv
      have HBad : Hid (∀ r, Md.varFault v (l.take k) = r → r ≠ 0 → varsE l = ((k : Int), r)) := fun r hr h0 => by
        have := ve_bad HF.out hlt (by rw [HG.out, hr]; exact h0) hA.out
        rw [HG.out, hr] at this; exact this
      cases h1 : Md.nameB v.name.data.toList
      · have hres : Hid (varsE l = ((k : Int), 41)) := HBad.out 41 (by simp [Md.varFault, h1]) (by decide)
        go_wp2_with (go_at_call 75; refine (name_any _ _ HV.out).mono ?_; rintro e w' ⟨rfl, hww⟩; rw [hww])
        go_ret2
        exact ⟨ret_pair hres.out.symm, hR.out⟩
      have H1 : Hid (Md.nameB v.name.data.toList = true) := h1
      go_wp2_with (go_at_call 75; refine (name_any _ _ HV.out).mono ?_; rintro e w' ⟨rfl, hww⟩; rw [hww]; clear hww)
      clear h1
      go_loopw [5] (fun iv wr => ∃ i : Nat, iv = .int .i64 (i : Int) ∧ i ≤ k ∧ Hid (Md.seenB (l.take i) v.name = false) ∧ Hid (Below w.heap.size w wr)) (fun iv _ => k - (intOf iv).toNat)
      case atStart => exact ⟨0, rfl, Nat.zero_le _, (show _ = _ by simp [Md.seenB]), hR⟩
      case round =>
        obtain ⟨i, rfl, hi, hS, hT⟩ := hrel
        clear e0
        by_cases hik : i < k
        · have hiI : (i : Int) < (k : Int) := by omega
          have hiL : (i : Int) < (l.length : Int) := by omega
          have hil : i < l.length := by omega
          have g0 := (hT.out.cell (p := ⟨b, off + k * 3, none⟩) hb).trans HD0.out
          have g1 := (hT.out.cell (p := ⟨b, off + i * 3, none⟩) hb).trans (HCJ.out i hil)
          cases hp : (l[i].name.toList == v.name.toList)
          · have hnx : Hid (Md.seenB (l.take (i + 1)) v.name = false) := Md.seen_next hil hS.out hp
            generalize l[i] = u at *
            go_wp2_with fail
            go_quiet (fail)
            go_wp2
            go_roundw
            case rel => exact ⟨i + 1, by go_num, by omega, hnx, below_drewN hT.out _⟩
            case measure => simp [intOf]; omega
          · have hsn : Md.seenB (l.take k) v.name = true := by
              unfold Md.seenB
              refine Md.any_stop (k := i) (by simp; omega) ?_
              rw [List.getElem_take]; exact hp
            have hres : Hid (varsE l = ((k : Int), 41)) := HBad.out 41 (by simp [Md.varFault, hsn]) (by decide)
            clear hsn
            generalize l[i] = u at *
            go_wp2_with fail
            go_quiet (fail)
            go_wp2
            go_ret2
            exact ⟨ret_pair hres.out.symm, below_drewN hT.out _⟩
        · have hiI : ¬ (i : Int) < (k : Int) := by omega
          have hik' : i = k := by omega
          have HS : Hid (Md.seenB (l.take k) v.name = false) := by have := hS.out; rw [hik'] at this; exact this
          have g1 := (hT.out.cell (p := ⟨b, off + k * 3 + 1, none⟩) hb).trans HD1.out
          have g2 := (hT.out.cell (p := ⟨b, off + k * 3 + 2, none⟩) hb).trans HD2.out
          clear hik'
          rename World => wi
          cases hb2 : Md.boundsB v.lo v.hi
          · have hres : Hid (varsE l = ((k : Int), 42)) := HBad.out 42 (by simp [Md.varFault, H1.out, HS.out, hb2]) (by decide)
            go_wp2_with fail
            go_quiet ((go_at_call 76; exact Calls.quiet_of_same (bounds_any _ _ _)))
            go_wp2
            go_ret2
            exact ⟨ret_pair hres.out.symm, below_drewN hT.out _⟩
          · have hz : Hid (Md.vFault l k = 0) := by show _ = _; rw [HG.out]; simp [Md.varFault, H1.out, HS.out, hb2]
            go_wp2_with fail
            go_quiet ((go_at_call 76; exact Calls.quiet_of_same (bounds_any _ _ _)))
            go_wp2
            go_roundw
            case rel => exact ⟨k + 1, by go_num, by omega, all_succ hA.out hz.out, below_drewN hT.out _⟩
            case measure => simp [intOf]; omega
    · have hkI : ¬ (k : Int) < (l.length : Int) := by omega
      have hres : Hid (varsE l = (0, 0)) := ve_ok HF.out (fun j hj => hA.out j (by omega))
      go_wp2_with fail
      go_ret2
      exact ⟨ret_pair hres.out.symm, hR.out⟩
end Go.Proofs.YtdfbmfikhccajaaGreatDoor.Doc
