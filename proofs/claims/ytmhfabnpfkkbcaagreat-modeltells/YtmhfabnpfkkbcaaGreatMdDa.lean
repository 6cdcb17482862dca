/-
  Put together: MdD1, MdD2, MdD3.
-/
import Derived.Test.YtmhfabnpfkkbcaaGreatMdVb
import Derived.Test.YtmhfabnpfkkbcaaGreatMdVc
import Derived.Test.YtmhfabnpfkkbcaaGreatMdForeign
namespace Go.Proofs.YtmhfabnpfkkbcaaGreat
open Go.RowKit

theorem ltr_dig {n : Int} (h : Md.ltrI n = true) : Md.digI n = false := by
  simp [Md.ltrI, Md.digI] at *
  omega
theorem nm_ltr {s : ByteArray} (h1 : 0 < s.size) (h : Md.ltrI ((s[0]).toNat : Int) = false) : Md.nameB s.data.toList = false := by
  cases hd : Md.digI ((s[0]).toNat : Int)
  · exact nm_stop h1 (by simp [Md.wordB, Md.byteI, h, hd])
  · exact nm_dig h1 hd

set_option maxRecDepth 10000 in
set_option maxHeartbeats 1000000 in
theorem name_any (s : ByteArray) (w : World) (hs : s.size ≤ maxLen) : Calls Tryz.prog 83 #[.string s] w fun e w' => e = .returned (.bool (Md.nameB s.data.toList)) ∧ w' = w := by
  unfold maxLen at hs
  by_cases h0 : s.size < 1
  · have hres : Hid (Md.nameB s.data.toList = false) := nm_len (.inl h0)
    have h0I : (s.size : Int) < 1 := by omega
    go_enter Tryz.func83, Tryz.ntmps83
    go_wp2
    go_ret
    exact ⟨ret_bool hres.out.symm, rfl⟩
  have h0I : ¬ (s.size : Int) < 1 := by omega
  by_cases h1 : 16 < s.size
  · have hres : Hid (Md.nameB s.data.toList = false) := nm_len (.inr h1)
    have hI : (16 : Int) < (s.size : Int) := by omega
    go_enter Tryz.func83, Tryz.ntmps83
    go_wp2
    go_ret
    exact ⟨ret_bool hres.out.symm, rfl⟩
  have hI : ¬ (16 : Int) < (s.size : Int) := by omega
  have h00 : 0 < s.size := by omega
  have hI0 : (0 : Int) < (s.size : Int) := by omega
  cases hd : Md.ltrI ((s[0]).toNat : Int)
  · have hres : Hid (Md.nameB s.data.toList = false) := nm_ltr h00 hd
    go_enter Tryz.func83, Tryz.ntmps83
    go_wp2_with (go_at_call 112; refine (letter_any _ _).mono ?_; rintro e w' ⟨rfl, hww⟩; rw [hww])
    go_ret
    exact ⟨ret_bool hres.out.symm, rfl⟩
  have HD : Hid (Md.digI ((s[0]).toNat : Int) = false) := ltr_dig hd
  have H1 : Hid ((s.data.toList.take 1).all Md.wordB = true) := nm_next h00 (by simp) (by simp [Md.wordB, Md.byteI, hd])
  go_enter Tryz.func83, Tryz.ntmps83
  go_wp2_with (go_at_call 112; refine (letter_any _ _).mono ?_; rintro e w' ⟨rfl, hww⟩; rw [hww])
  clear hd
  go_loop [3] (fun iv => ∃ k : Nat, iv = .int .i64 (k : Int) ∧ k ≤ s.size ∧ Hid ((s.data.toList.take k).all Md.wordB = true)) (fun iv => s.size - (intOf iv).toNat)
  case atStart => exact ⟨1, rfl, h00, H1⟩
  case round =>
    obtain ⟨k, rfl, hk, hA⟩ := hrel
    by_cases hlt : k < s.size
    · have hkI : (k : Int) < (s.size : Int) := by omega
      cases hL : Md.ltrI ((s[k]).toNat : Int)
      · cases hG : Md.digI ((s[k]).toNat : Int)
        · have hres : Hid (Md.nameB s.data.toList = false) := nm_stop hlt (by simp [Md.wordB, Md.byteI, hL, hG])
          have hG' : ¬ (48 ≤ ((s[k]).toNat : Int) ∧ ((s[k]).toNat : Int) ≤ 57) := by simpa [Md.digI] using hG
          clear hG
          go_wp2_with (go_at_call 112; refine (letter_any _ _).mono ?_; rintro e w' ⟨rfl, hww⟩; rw [hww])
          all_goals first
            | (go_ret; exact ⟨ret_bool hres.out.symm, rfl⟩)
            | (exfalso; omega)
        · have hnx : Hid ((s.data.toList.take (k + 1)).all Md.wordB = true) := nm_next hlt hA.out (by simp [Md.wordB, Md.byteI, hG])
          obtain ⟨g1, g2⟩ : 48 ≤ ((s[k]).toNat : Int) ∧ ((s[k]).toNat : Int) ≤ 57 := by simpa [Md.digI] using hG
          have g3 : ¬ ((s[k]).toNat : Int) < 48 := by omega
          have g4 : ¬ 57 < ((s[k]).toNat : Int) := by omega
          clear hG
          go_wp2_with (go_at_call 112; refine (letter_any _ _).mono ?_; rintro e w' ⟨rfl, hww⟩; rw [hww])
          all_goals first
            | (go_round; (case rel => exact ⟨k + 1, by go_num, by omega, hnx⟩); (case measure => simp [intOf]; omega))
            | (exfalso; omega)
      · have hnx : Hid ((s.data.toList.take (k + 1)).all Md.wordB = true) := nm_next hlt hA.out (by simp [Md.wordB, Md.byteI, hL])
        go_wp2_with (go_at_call 112; refine (letter_any _ _).mono ?_; rintro e w' ⟨rfl, hww⟩; rw [hww])
        go_round
        case rel => exact ⟨k + 1, by go_num, by omega, hnx⟩
        case measure => simp [intOf]; omega
    · have hkI : ¬ (k : Int) < (s.size : Int) := by omega
      have hres : Hid (Md.nameB s.data.toList = true) := nm_done h00 (by omega) HD.out hA.out (by omega)
      go_wp2_with fail
      go_ret
      exact ⟨ret_bool hres.out.symm, rfl⟩

/-- What vars answers. -/
def varsE (l : List Md.Vr) : Int × Int :=
  if Md.fewB l.length 32 then (0, 40) else match Md.firstBad l.length (Md.vFault l) with | some i => ((i : Int), Md.vFault l i) | none => (0, 0)
theorem ve_few {l : List Md.Vr} (h : Md.fewB l.length 32 = true) : varsE l = (0, 40) := by unfold varsE; rw [if_pos h]
theorem ve_bad {l : List Md.Vr} {i : Nat} (h : Md.fewB l.length 32 = false) (hi : i < l.length) (hb : Md.vFault l i ≠ 0) (ha : ∀ j, j < i → Md.vFault l j = 0) : varsE l = ((i : Int), Md.vFault l i) := by
  unfold varsE
  rw [if_neg (by simp [h]), Md.firstBad_some hi hb ha]
theorem ve_ok {l : List Md.Vr} (h : Md.fewB l.length 32 = false) (ha : ∀ j, j < l.length → Md.vFault l j = 0) : varsE l = (0, 0) := by
  unfold varsE
  rw [if_neg (by simp [h]), Md.firstBad_none ha]

set_option maxRecDepth 10000 in
set_option maxHeartbeats 4000000 in
theorem refVars_any (va : Value) (l : List Md.Vr) (w : World) (h : VarsAt w va l) : Calls Tryz.prog 34 #[va] w fun e w' => e = .returned (.tuple #[.int .i64 (varsE l).1, .int .i64 (varsE l).2]) ∧ Below w.heap.size w w' := by
  obtain ⟨a, cap, rfl, hm, hn, hc⟩ := h
  unfold maxLen at hm
  have HNM : Hid (∀ x ∈ l, x.name.size ≤ maxLen) := hn
  have HC : Hid (0 < l.length → ∃ b off, a = some ⟨b, off, none⟩ ∧ b < w.heap.size ∧ ∀ j (h : j < l.length), w.cell? ⟨b, off + j * 3, none⟩ = some (.string l[j].name) ∧ w.cell? ⟨b, off + j * 3 + 1, none⟩ = some (.int .i64 l[j].lo) ∧ w.cell? ⟨b, off + j * 3 + 2, none⟩ = some (.int .i64 l[j].hi)) := hc
  clear hn hc
  by_cases hn0 : l.length < 1
  · have hres : Hid (varsE l = (0, 40)) := ve_few (decide_eq_true (.inl hn0))
    have hI : (l.length : Int) < 1 := by omega
    go_enter Tryz.func34, Tryz.ntmps34
    go_wp2
    go_ret2
    exact ⟨ret_pair hres.out.symm, Below.refl _ _⟩
  have hI0 : ¬ (l.length : Int) < 1 := by omega
  by_cases hn1 : 32 < l.length
  · have hres : Hid (varsE l = (0, 40)) := ve_few (decide_eq_true (.inr hn1))
    have hI : (32 : Int) < (l.length : Int) := by omega
    go_enter Tryz.func34, Tryz.ntmps34
    go_wp2
    go_ret2
    exact ⟨ret_pair hres.out.symm, Below.refl _ _⟩
  have hI1 : ¬ (32 : Int) < (l.length : Int) := by omega
  have HF : Hid (Md.fewB l.length 32 = false) := decide_eq_false (by omega)
  go_enter Tryz.func34, Tryz.ntmps34
  go_wp2
  go_loopw [4] (fun iv wr => ∃ k : Nat, iv = .int .i64 (k : Int) ∧ k ≤ l.length ∧ Hid (∀ j, j < k → Md.vFault l j = 0) ∧ Hid (Below w.heap.size w wr)) (fun iv _ => l.length - (intOf iv).toNat)
  case atStart => exact ⟨0, rfl, Nat.zero_le _, fun j h => absurd h (Nat.not_lt_zero _), Below.refl _ _⟩
  case round =>
    obtain ⟨k, rfl, hk, hA, hR⟩ := hrel
    rename World => wk
    by_cases hlt : k < l.length
    · have hkI : (k : Int) < (l.length : Int) := by omega
      obtain ⟨b, off, rfl, hb, hc⟩ := HC.out (by omega)
      obtain ⟨d0, d1, d2⟩ := hc k hlt
      have HD0 : Hid (w.cell? ⟨b, off + k * 3, none⟩ = some (.string l[k].name)) := d0
      have HD1 : Hid (w.cell? ⟨b, off + k * 3 + 1, none⟩ = some (.int .i64 l[k].lo)) := d1
      have HD2 : Hid (w.cell? ⟨b, off + k * 3 + 2, none⟩ = some (.int .i64 l[k].hi)) := d2
      have e0 := (hR.out.cell (p := ⟨b, off + k * 3, none⟩) hb).trans d0
      have HG : Hid (Md.vFault l k = Md.varFault l[k] (l.take k)) := Md.vFault_get hlt
      have HV : Hid ((l[k]).name.size ≤ maxLen) := HNM.out _ (List.getElem_mem hlt)
      have HCJ : Hid (∀ j, (h : j < l.length) → w.cell? ⟨b, off + j * 3, none⟩ = some (.string l[j].name)) := fun j h => (hc j h).1
      clear hc d0 d1 d2
      generalize hv : l[k] = v at *
      clear hv
      have HBad : Hid (∀ r, Md.varFault v (l.take k) = r → r ≠ 0 → varsE l = ((k : Int), r)) := fun r hr h0 => by
        have := ve_bad HF.out hlt (by rw [HG.out, hr]; exact h0) hA.out
        rw [HG.out, hr] at this; exact this
      cases h1 : Md.nameB v.name.data.toList
      · have hres : Hid (varsE l = ((k : Int), 41)) := HBad.out 41 (by simp [Md.varFault, h1]) (by decide)
        go_wp2_with (go_at_call 83; refine (name_any _ _ HV.out).mono ?_; rintro e w' ⟨rfl, hww⟩; rw [hww])
        go_ret2
        exact ⟨ret_pair hres.out.symm, hR.out⟩
      have H1 : Hid (Md.nameB v.name.data.toList = true) := h1
      go_wp2_with (go_at_call 83; refine (name_any _ _ HV.out).mono ?_; rintro e w' ⟨rfl, hww⟩; rw [hww]; clear hww)
      clear h1
      go_loopw [5] (fun iv wr => ∃ i : Nat, iv = .int .i64 (i : Int) ∧ i ≤ k ∧ Hid (Md.seenB (l.take i) v.name = false) ∧ Hid (Below w.heap.size w wr)) (fun iv _ => k - (intOf iv).toNat)
      case atStart => exact ⟨0, rfl, Nat.zero_le _, (show _ = _ by simp [Md.seenB]), hR⟩
      case round =>
        obtain ⟨i, rfl, hi, hS, hT⟩ := hrel
        clear e0
        by_cases hik : i < k
        · have hiI : (i : Int) < (k : Int) := by omega
          have hiL : (i : Int) < (l.length : Int) := by omega
          have hil : i < l.length := by omega
          have g0 := (hT.out.cell (p := ⟨b, off + k * 3, none⟩) hb).trans HD0.out
          have g1 := (hT.out.cell (p := ⟨b, off + i * 3, none⟩) hb).trans (HCJ.out i hil)
          cases hp : (l[i].name.toList == v.name.toList)
          · have hnx : Hid (Md.seenB (l.take (i + 1)) v.name = false) := Md.seen_next hil hS.out hp
            generalize l[i] = u at *
            go_wp2_with fail
            go_quiet (fail)
            go_wp2
            go_roundw
            case rel => exact ⟨i + 1, by go_num, by omega, hnx, below_drewN hT.out _⟩
            case measure => simp [intOf]; omega
          · have hsn : Md.seenB (l.take k) v.name = true := by
              unfold Md.seenB
              refine Md.any_stop (k := i) (by simp; omega) ?_
              rw [List.getElem_take]; exact hp
            have hres : Hid (varsE l = ((k : Int), 41)) := HBad.out 41 (by simp [Md.varFault, hsn]) (by decide)
            clear hsn
            generalize l[i] = u at *
            go_wp2_with fail
            go_quiet (fail)
            go_wp2
            go_ret2
            exact ⟨ret_pair hres.out.symm, below_drewN hT.out _⟩
        · have hiI : ¬ (i : Int) < (k : Int) := by omega
          have hik' : i = k := by omega
          have HS : Hid (Md.seenB (l.take k) v.name = false) := by have := hS.out; rw [hik'] at this; exact this
          have g1 := (hT.out.cell (p := ⟨b, off + k * 3 + 1, none⟩) hb).trans HD1.out
          have g2 := (hT.out.cell (p := ⟨b, off + k * 3 + 2, none⟩) hb).trans HD2.out
          clear hik'
          rename World => wi
          cases hb2 : Md.boundsB v.lo v.hi
          · have hres : Hid (varsE l = ((k : Int), 42)) := HBad.out 42 (by simp [Md.varFault, H1.out, HS.out, hb2]) (by decide)
            go_wp2_with fail
            go_quiet ((go_at_call 84; exact Calls.quiet_of_same (bounds_any _ _ _)))
            go_wp2
            go_ret2
            exact ⟨ret_pair hres.out.symm, below_drewN hT.out _⟩
          · have hz : Hid (Md.vFault l k = 0) := by show _ = _; rw [HG.out]; simp [Md.varFault, H1.out, HS.out, hb2]
            go_wp2_with fail
            go_quiet ((go_at_call 84; exact Calls.quiet_of_same (bounds_any _ _ _)))
            go_wp2
            go_roundw
            case rel => exact ⟨k + 1, by go_num, by omega, all_succ hA.out hz.out, below_drewN hT.out _⟩
            case measure => simp [intOf]; omega
    · have hkI : ¬ (k : Int) < (l.length : Int) := by omega
      have hres : Hid (varsE l = (0, 0)) := ve_ok HF.out (fun j hj => hA.out j (by omega))
      go_wp2_with fail
      go_ret2
      exact ⟨ret_pair hres.out.symm, hR.out⟩
end Go.Proofs.YtmhfabnpfkkbcaaGreat

namespace Go.Proofs.YtmhfabnpfkkbcaaGreat
open Go.RowKit

theorem ve_check {m : Md.Mo} (h : (varsE m.vars).2 ≠ 0) : Md.check m = varsE m.vars := by
  unfold Md.check
  unfold varsE at h ⊢
  split
  · rfl
  · rename_i h1
    rw [if_neg h1] at h
    split
    · rename_i i hi
      rw [hi]
    · rename_i hi
      rw [hi] at h
      exact absurd rfl h
theorem ve_zero {l : List Md.Vr} (h : (varsE l).2 = 0) : Md.fewB l.length 32 = false ∧ ∀ j, j < l.length → Md.vFault l j = 0 := by
  unfold varsE at h
  split at h
  · cases h
  rename_i h1
  refine ⟨by simpa using h1, ?_⟩
  split at h
  · rename_i i hi
    unfold Md.firstBad at hi
    have := List.find?_some hi
    simp at this
    exact absurd h this
  · rename_i hi
    exact Md.firstBad_none_iff hi
theorem te_goal {m : Md.Mo} (h1 : m.has = true) (h2 : Md.fewB m.goal.length 64 = false) : Md.goalFault m = termsE m.goal m.vars.length := by
  unfold termsE
  cases h3 : (m.goal.all fun t => Md.plB m.vars.length t.2)
  · rw [gf_d h1 h2 h3]; rfl
  · cases h4 : Md.coefsB m.goal
    · rw [gf_e h1 h2 h3 h4]; rfl
    · rw [gf_f h1 h2 h3 h4]; rfl

set_option maxRecDepth 10000 in
set_option maxHeartbeats 4000000 in
theorem refCheck_any (m : Md.Mo) (vv vc vg : Value) (w : World) (h : MoAt w m vv vc vg) : Calls Tryz.prog 8 #[moVal m vv vc vg] w fun e w' => e = .returned (.tuple #[.int .i64 (Md.check m).1, .int .i64 (Md.check m).2]) ∧ Below w.heap.size w w' := by
  obtain ⟨W, hW⟩ : ∃ W, w.alloc (.cells #[vv, vc, .bool m.has, vg] 26) = W := ⟨_, rfl⟩
  have hbW : Below w.heap.size w W := by rw [← hW]; exact (Below.refl _ _).alloc (Nat.le_refl _) _
  have hN : W.heap[w.heap.size]? = some (.cells #[vv, vc, .bool m.has, vg] 26) := by rw [← hW]; exact heap_alloc_new w _
  have HB : Hid (Below w.heap.size w W) := hbW
  have HM : Hid (∀ w', Below W.heap.size W w' → MoAt w' m vv vc vg) := fun w' hb => (h.below hbW).below hb
  have HN : Hid (∀ w', Below W.heap.size W w' → w'.heap[w.heap.size]? = some (.cells #[vv, vc, .bool m.has, vg] 26)) := fun w' hb => (hb.block _ (Array.getElem?_eq_some_iff.1 hN).1).trans hN
  have HNL : Hid (w.heap.size < W.heap.size) := (Array.getElem?_eq_some_iff.1 hN).1
  obtain ⟨va, vp, rfl, hvm⟩ := h.v.form
  obtain ⟨ca, cp, rfl, hcm⟩ := h.c.form
  obtain ⟨ga, gp, rfl, hgm⟩ := h.g.form
  unfold maxLen at hvm hcm hgm
  obtain ⟨⟨p0, p1, p2, p3⟩, _⟩ := box4 hN
  obtain ⟨a', c', hce, _, hco⟩ := id h.c
  injection hce with e1 e2 e3
  subst e1 e3
  have HCO : Hid (0 < m.cons.length → ∃ b off, ca = some ⟨b, off, none⟩ ∧ b < w.heap.size ∧ ∀ j (h : j < m.cons.length), ∃ vt vx vb vr, CnAt w m.cons[j] vt vx vb vr ∧ CnCells w b (off + j * 10) m.cons[j] vt vx vb vr) := hco
  obtain ⟨r1, hr1⟩ : ∃ r, (varsE m.vars).1 = r := ⟨_, rfl⟩
  obtain ⟨r2, hr2⟩ : ∃ r, (varsE m.vars).2 = r := ⟨_, rfl⟩
  have H34 : Hid (Calls Tryz.prog 34 #[.slice va m.vars.length vp] W fun e w' => e = .returned (.tuple #[.int .i64 r1, .int .i64 r2]) ∧ Below W.heap.size W w') := by rw [← hr1, ← hr2]; exact refVars_any _ m.vars W (HM.out W (Below.refl _ _)).v
  have HE : Hid (varsE m.vars = (r1, r2)) := by show _ = _; rw [← hr1, ← hr2]
  unfold moVal
  clear h hbW hN hco hr1 hr2 e2
  by_cases hz : r2 = 0
  rotate_left
  · have hres : Hid (Md.check m = (r1, r2)) := by show _ = _; rw [← HE.out]; exact ve_check (by rw [HE.out]; exact hz)
    have hzB : (r2 != 0) = true := by simpa using hz
    go_enter Tryz.func8, Tryz.ntmps8
    go_wp2_with (go_at_call 34; refine calls_at H34.out (by with_reducible rfl) (by with_reducible rfl) ?_; rintro e w1 ⟨rfl, hb1⟩)
    go_ret2
    exact ⟨ret_pair hres.out.symm, HB.out.trans (hb1.mono HB.out.size)⟩
  subst hz
  have HZ : Hid (Md.fewB m.vars.length 32 = false ∧ ∀ j, j < m.vars.length → Md.vFault m.vars j = 0) := ve_zero (by rw [HE.out])
  clear HE
  have hv32 : m.vars.length ≤ 32 := by
    have := of_decide_eq_false HZ.out.1
    omega
  have hv32I : (m.vars.length : Int) ≤ 32 := by omega
  by_cases hc64 : 64 < m.cons.length
  · have hcI : (64 : Int) < (m.cons.length : Int) := by omega
    have hres : Hid (Md.check m = ((m.vars.length : Int), 49)) := ck_cons HZ.out.1 HZ.out.2 hc64
    go_enter Tryz.func8, Tryz.ntmps8
    go_wp2_with (go_at_call 34; refine calls_at H34.out (by with_reducible rfl) (by with_reducible rfl) ?_; rintro e w1 ⟨rfl, hb1⟩; have HB1 : Hid (Below W.heap.size W w1) := hb1; clear hb1 p0 p1 p2 p3; obtain ⟨⟨p0, p1, p2, p3⟩, _⟩ := box4 (HN.out _ HB1.out))
    go_ret2
    exact ⟨ret_pair hres.out.symm, HB.out.trans (HB1.out.mono HB.out.size)⟩
  have hcI : ¬ (64 : Int) < (m.cons.length : Int) := by omega
  go_enter Tryz.func8, Tryz.ntmps8
  go_wp2_with (go_at_call 34; refine calls_at H34.out (by with_reducible rfl) (by with_reducible rfl) ?_; rintro e w1 ⟨rfl, hb1⟩; have HB1 : Hid (Below W.heap.size W w1) := hb1; clear hb1 p0 p1 p2 p3; obtain ⟨⟨p0, p1, p2, p3⟩, _⟩ := box4 (HN.out _ HB1.out))
  go_loopw [7] (fun iv wr => ∃ k : Nat, iv = .int .i64 (k : Int) ∧ k ≤ m.cons.length ∧ Hid (∀ j, j < k → Md.cFault m.cons m.vars.length j = 0) ∧ Hid (Below W.heap.size W wr)) (fun iv _ => m.cons.length - (intOf iv).toNat)
  case atStart => exact ⟨0, rfl, Nat.zero_le _, fun j h => absurd h (Nat.not_lt_zero _), HB1⟩
  case round =>
    obtain ⟨i, rfl, hi, hP, hT⟩ := hrel
    clear p0 p1 p2 p3
    obtain ⟨⟨p0, p1, p2, p3⟩, _⟩ := box4 (HN.out _ hT.out)
    by_cases hit : i < m.cons.length
    · have hiI : (i : Int) < (m.cons.length : Int) := by omega
      obtain ⟨b, off, rfl, hb, hc⟩ := HCO.out (by omega)
      obtain ⟨vt, vx, vb, vr, hcn, hcl⟩ := hc i hit
      have hbw : Below w.heap.size w wr := HB.out.trans (hT.out.mono HB.out.size)
      obtain ⟨e0, e1, e2, e3, e4, e5, e6, e7, e8, e9⟩ := hcl.below hbw
      have HCN : Hid (CnAt wr m.cons[i] vt vx vb vr) := hcn.below hbw
      have HG : Hid (Md.cFault m.cons m.vars.length i = Md.fault m.cons[i] m.vars.length) := Md.cFault_get hit
      obtain ⟨ta, tc, rfl, _⟩ := hcn.t.form
      obtain ⟨xa, xc, rfl, _⟩ := hcn.x.form
      obtain ⟨ba, bc, rfl, _⟩ := hcn.b.form
      obtain ⟨ra, rc, rfl, _⟩ := hcn.r.form
      clear hc hcn hcl hbw
      generalize hx : m.cons[i] = c at *
      clear hx
      obtain ⟨r, hr⟩ : ∃ r, Md.fault c m.vars.length = r := ⟨_, rfl⟩
      have HGR : Hid (Md.cFault m.cons m.vars.length i = r) := HG.out.trans hr
      have H35 : Hid (Calls Tryz.prog 35 #[cnVal c (.slice ta c.terms.length tc) (.slice xa c.xs.length xc) (.slice ba c.table.length bc) (.slice ra c.rows.length rc), .int .i64 (m.vars.length : Int)] wr fun e w' => e = .returned (.int .i64 r) ∧ Below wr.heap.size wr w') := by rw [← hr]; exact refCon_any foreign_ok c _ _ _ _ (m.vars.length : Int) wr HCN.out
      unfold cnVal at H35
      clear hr HG HCN
      by_cases hz : r = 0
      · subst hz
        go_wp2_with (go_at_call 35; refine calls_at H35.out (by with_reducible rfl) (by with_reducible rfl) ?_; rintro e w2 ⟨rfl, hb2⟩; have HF2 : Hid (Below W.heap.size W w2) := hT.out.trans (hb2.mono hT.out.size); clear hb2)
        go_roundw
        case rel => exact ⟨i + 1, by go_num, by omega, all_succ hP.out HGR.out, HF2⟩
        case measure => simp [intOf]; omega
      · have hzB : (r != 0) = true := by simpa using hz
        have hres : Hid (Md.check m = ((m.vars.length : Int) + (i : Int), r)) := by show _ = _; rw [← HGR.out]; exact ck_con HZ.out.1 HZ.out.2 hc64 hit (by rw [HGR.out]; exact hz) hP.out
        go_wp2_with (go_at_call 35; refine calls_at H35.out (by with_reducible rfl) (by with_reducible rfl) ?_; rintro e w2 ⟨rfl, hb2⟩; have HF2 : Hid (Below W.heap.size W w2) := hT.out.trans (hb2.mono hT.out.size); clear hb2)
        go_ret2
        exact ⟨ret_pair hres.out.symm, HB.out.trans (HF2.out.mono HB.out.size)⟩
    · have hiI : ¬ (i : Int) < (m.cons.length : Int) := by omega
      have HCl : Hid (∀ j, j < m.cons.length → Md.cFault m.cons m.vars.length j = 0) := fun j hj => hP.out j (by omega)
      have HBad : Hid (∀ r, Md.goalFault m = r → r ≠ 0 → Md.check m = ((m.vars.length : Int) + (m.cons.length : Int), r)) := fun r hr h0 => by rw [← hr]; exact ck_goal HZ.out.1 HZ.out.2 hc64 HCl.out (by rw [hr]; exact h0)
      have HOk : Hid (Md.goalFault m = 0 → Md.check m = (0, 0)) := fun hr => ck_ok HZ.out.1 HZ.out.2 hc64 HCl.out hr
      have HEnd : Hid (Below w.heap.size w wr) := HB.out.trans (hT.out.mono HB.out.size)
      cases hh : m.has
      · rw [hh] at p2
        by_cases hg : 0 < m.goal.length
        · have hres : Hid (Md.check m = ((m.vars.length : Int) + (m.cons.length : Int), 48)) := HBad.out 48 (gf_a hh hg) (by decide)
          have hgI : (0 : Int) < (m.goal.length : Int) := by omega
          go_wp2_with fail
          go_ret2
          exact ⟨ret_pair hres.out.symm, HEnd.out⟩
        · have hres : Hid (Md.check m = (0, 0)) := HOk.out (gf_b hh hg)
          have hgI : ¬ (0 : Int) < (m.goal.length : Int) := by omega
          go_wp2_with fail
          go_ret2
          exact ⟨ret_pair hres.out.symm, HEnd.out⟩
      rw [hh] at p2
      have HH : Hid (m.has = true) := hh
      clear hh
      cases hf : Md.fewB m.goal.length 64
      rotate_left
      · have hres : Hid (Md.check m = ((m.vars.length : Int) + (m.cons.length : Int), 47)) := HBad.out 47 (gf_c HH.out hf) (by decide)
        go_wp2_with (go_at_call 36; refine (many_any m.goal.length _).mono ?_; rintro e w' ⟨rfl, hww⟩; rw [hww]; clear hww)
        go_ret2
        exact ⟨ret_pair hres.out.symm, HEnd.out⟩
      have HTG : Hid (Md.goalFault m = termsE m.goal m.vars.length) := te_goal HH.out hf
      have H37 : Hid (Calls Tryz.prog 37 #[.slice ga m.goal.length gp, .int .i64 (m.vars.length : Int)] wr fun e w' => e = .returned (.int .i64 (termsE m.goal m.vars.length)) ∧ w' = wr) := terms_any _ m.goal (m.vars.length : Int) wr (HM.out _ hT.out).g
      obtain ⟨r, hr⟩ : ∃ r, termsE m.goal m.vars.length = r := ⟨_, rfl⟩
      rw [hr] at HTG H37
      clear hr
      by_cases hz : r = 0
      · subst hz
        have hres : Hid (Md.check m = (0, 0)) := HOk.out HTG.out
        go_wp2_with (first | (go_at_call 36; refine (many_any m.goal.length _).mono ?_; rintro e w' ⟨rfl, hww⟩; rw [hww]; clear hww) | (go_at_call 37; refine calls_at H37.out (by with_reducible rfl) (by with_reducible rfl) ?_; rintro e w' ⟨rfl, hww⟩; rw [hww]; clear hww))
        go_ret2
        exact ⟨ret_pair hres.out.symm, HEnd.out⟩
      · have hzB : (r != 0) = true := by simpa using hz
        have hres : Hid (Md.check m = ((m.vars.length : Int) + (m.cons.length : Int), r)) := HBad.out r HTG.out hz
        go_wp2_with (first | (go_at_call 36; refine (many_any m.goal.length _).mono ?_; rintro e w' ⟨rfl, hww⟩; rw [hww]; clear hww) | (go_at_call 37; refine calls_at H37.out (by with_reducible rfl) (by with_reducible rfl) ?_; rintro e w' ⟨rfl, hww⟩; rw [hww]; clear hww))
        go_ret2
        exact ⟨ret_pair hres.out.symm, HEnd.out⟩

set_option maxRecDepth 10000 in
set_option maxHeartbeats 400000 in
theorem refRight_any (m : Md.Mo) (vv vc vg : Value) (w : World) (h : MoAt w m vv vc vg) : Calls Tryz.prog 38 #[moVal m vv vc vg] w fun e w' => e = .returned (.bool (Md.rightB m)) ∧ Below w.heap.size w w' := by
  obtain ⟨W, hW⟩ : ∃ W, w.alloc (.cells #[vv, vc, .bool m.has, vg] 26) = W := ⟨_, rfl⟩
  have hbW : Below w.heap.size w W := by rw [← hW]; exact (Below.refl _ _).alloc (Nat.le_refl _) _
  have hN : W.heap[w.heap.size]? = some (.cells #[vv, vc, .bool m.has, vg] 26) := by rw [← hW]; exact heap_alloc_new w _
  have HB : Hid (Below w.heap.size w W) := hbW
  have HM : Hid (∀ w', Below W.heap.size W w' → MoAt w' m vv vc vg) := fun w' hb => (h.below hbW).below hb
  have HN : Hid (∀ w', Below W.heap.size W w' → w'.heap[w.heap.size]? = some (.cells #[vv, vc, .bool m.has, vg] 26)) := fun w' hb => (hb.block _ (Array.getElem?_eq_some_iff.1 hN).1).trans hN
  have HNL : Hid (w.heap.size < W.heap.size) := (Array.getElem?_eq_some_iff.1 hN).1
  obtain ⟨va, vp, rfl, hvm⟩ := h.v.form
  obtain ⟨ca, cp, rfl, hcm⟩ := h.c.form
  obtain ⟨ga, gp, rfl, hgm⟩ := h.g.form
  unfold maxLen at hvm hcm hgm
  obtain ⟨⟨p0, p1, p2, p3⟩, _⟩ := box4 hN
  have H8 : Hid (Calls Tryz.prog 8 #[.agg #[.slice va m.vars.length vp, .slice ca m.cons.length cp, .bool m.has, .slice ga m.goal.length gp]] W fun e w' => e = .returned (.tuple #[.int .i64 (Md.check m).1, .int .i64 (Md.check m).2]) ∧ Below W.heap.size W w') := refCheck_any m _ _ _ W (HM.out W (Below.refl _ _))
  unfold moVal
  clear h hbW hN
  obtain ⟨r, hr⟩ : ∃ r, (Md.check m).2 = r := ⟨_, rfl⟩
  have hres : Hid (Md.rightB m = (r == 0)) := by show _ = _; unfold Md.rightB; rw [hr]
  rw [hr] at H8
  clear hr
  go_enter Tryz.func38, Tryz.ntmps38
  go_wp2_with (go_at_call 8; refine calls_at H8.out (by with_reducible rfl) (by with_reducible rfl) ?_; rintro e w1 ⟨rfl, hb1⟩)
  go_ret
  exact ⟨ret_bool hres.out.symm, HB.out.trans (hb1.mono HB.out.size)⟩

set_option maxRecDepth 10000 in
set_option maxHeartbeats 1000000 in
theorem refWorth_any (m : Md.Mo) (vv vc vg vx : Value) (vs : List Int) (w : World) (h : MoAt w m vv vc vg) (hx : IntsAt w vx vs) : Calls Tryz.prog 19 #[moVal m vv vc vg, vx] w fun e w' => e = .returned (.int .i64 (Md.worth m vs)) ∧ Below w.heap.size w w' := by
  obtain ⟨W, hW⟩ : ∃ W, w.alloc (.cells #[vv, vc, .bool m.has, vg] 26) = W := ⟨_, rfl⟩
  have hbW : Below w.heap.size w W := by rw [← hW]; exact (Below.refl _ _).alloc (Nat.le_refl _) _
  have hN : W.heap[w.heap.size]? = some (.cells #[vv, vc, .bool m.has, vg] 26) := by rw [← hW]; exact heap_alloc_new w _
  have HB : Hid (Below w.heap.size w W) := hbW
  have HM : Hid (∀ w', Below W.heap.size W w' → MoAt w' m vv vc vg) := fun w' hb => (h.below hbW).below hb
  have HN : Hid (∀ w', Below W.heap.size W w' → w'.heap[w.heap.size]? = some (.cells #[vv, vc, .bool m.has, vg] 26)) := fun w' hb => (hb.block _ (Array.getElem?_eq_some_iff.1 hN).1).trans hN
  have HNL : Hid (w.heap.size < W.heap.size) := (Array.getElem?_eq_some_iff.1 hN).1
  obtain ⟨va, vp, rfl, hvm⟩ := h.v.form
  obtain ⟨ca, cp, rfl, hcm⟩ := h.c.form
  obtain ⟨ga, gp, rfl, hgm⟩ := h.g.form
  unfold maxLen at hvm hcm hgm
  obtain ⟨⟨p0, p1, p2, p3⟩, _⟩ := box4 hN
  have H38 : Hid (Calls Tryz.prog 38 #[.agg #[.slice va m.vars.length vp, .slice ca m.cons.length cp, .bool m.has, .slice ga m.goal.length gp]] W fun e w' => e = .returned (.bool (Md.rightB m)) ∧ Below W.heap.size W w') := refRight_any m _ _ _ W (HM.out W (Below.refl _ _))
  have HX : Hid (∀ w', Below W.heap.size W w' → IntsAt w' vx vs) := fun w' hb => (hx.below hbW).below hb
  obtain ⟨xa, xc, rfl, hxm⟩ := hx.form
  unfold moVal
  clear h hbW hN hx
  cases hr : Md.rightB m
  · have hres : Hid (Md.worth m vs = 0) := Md.worth_no (.inl hr)
    rw [hr] at H38
    clear hr
    go_enter Tryz.func19, Tryz.ntmps19
    go_wp2_with (go_at_call 38; refine calls_at H38.out (by with_reducible rfl) (by with_reducible rfl) ?_; rintro e w1 ⟨rfl, hb1⟩)
    go_ret
    exact ⟨ret_int hres.out.symm, HB.out.trans (hb1.mono HB.out.size)⟩
  have HR : Hid (Md.rightB m = true) := hr
  rw [hr] at H38
  clear hr
  by_cases hl : vs.length = m.vars.length
  rotate_left
  · have hres : Hid (Md.worth m vs = 0) := Md.worth_no (.inr (.inl hl))
    have hlI : ((vs.length : Int) != (m.vars.length : Int)) = true := by rw [bne_iff_ne]; omega
    go_enter Tryz.func19, Tryz.ntmps19
    go_wp2_with (go_at_call 38; refine calls_at H38.out (by with_reducible rfl) (by with_reducible rfl) ?_; rintro e w1 ⟨rfl, hb1⟩; have HB1 : Hid (Below W.heap.size W w1) := hb1; clear hb1 p0 p1 p2 p3; obtain ⟨⟨p0, p1, p2, p3⟩, _⟩ := box4 (HN.out _ HB1.out))
    go_ret
    exact ⟨ret_int hres.out.symm, HB.out.trans (HB1.out.mono HB.out.size)⟩
  have hlI : ((vs.length : Int) != (m.vars.length : Int)) = false := by rw [bne_eq_false_iff_eq]; omega
  have HL : Hid (vs.length = m.vars.length) := hl
  clear hl
  go_enter Tryz.func19, Tryz.ntmps19
  go_wp2_with (first | (go_at_call 38; refine calls_at H38.out (by with_reducible rfl) (by with_reducible rfl) ?_; rintro e w1 ⟨rfl, hb1⟩; have HB1 : Hid (Below W.heap.size W w1) := hb1; clear hb1 p0 p1 p2 p3; obtain ⟨⟨p0, p1, p2, p3⟩, _⟩ := box4 (HN.out _ HB1.out)) | fail)
  refine (numbers_any _ vs _ (HX.out _ HB1.out)).mono ?_
  rintro e w' ⟨rfl, hww⟩
  rw [hww]
  clear hww
  cases hn : vs.all Md.numB
  · have hres : Hid (Md.worth m vs = 0) := Md.worth_no (.inr (.inr hn))
    clear hn
    go_wp2_with fail
    go_ret
    exact ⟨ret_int hres.out.symm, HB.out.trans (HB1.out.mono HB.out.size)⟩
  have hres : Hid (Md.worth m vs = Md.sum m.goal vs) := Md.worth_yes HR.out HL.out hn
  have hg := Md.goal_of (Md.rightB_of HR.out).goal
  have H54 : Hid (Calls Tryz.prog 54 #[.slice ga m.goal.length gp, .slice xa vs.length xc] w1 fun e w' => e = .returned (.int .i64 (Md.sum m.goal vs)) ∧ Below w1.heap.size w1 w') := refSum_any _ _ m.goal vs w1 (HM.out _ HB1.out).g (HX.out _ HB1.out) hn (fun x hx => by rw [HL.out]; exact hg.2.2.1 x hx) (fun x hx => (hg.2.2.2 x hx).2) hg.2.1
  clear hn hg
  go_wp2_with (go_at_call 54; refine calls_at H54.out (by with_reducible rfl) (by with_reducible rfl) ?_; rintro e w2 ⟨rfl, hb2⟩)
  go_ret
  exact ⟨ret_int hres.out.symm, (HB.out.trans (HB1.out.mono HB.out.size)).trans (hb2.mono (HB.out.trans (HB1.out.mono HB.out.size)).size)⟩
end Go.Proofs.YtmhfabnpfkkbcaaGreat

namespace Go.Proofs.YtmhfabnpfkkbcaaGreat
open Go.RowKit

theorem Md.product_small {m : Md.Mo} {most : Int} (h : Md.rightB m = true) (hm : most < 1) : Md.product m most = (0, false) := by
  rw [Md.product_yes h]
  have hr := Md.rightB_of h
  cases hv : m.vars with
  | nil => have := hr.nv.1; rw [hv] at this; simp at this
  | cons v l =>
    have hb := Md.bounds_of (hr.var v (by rw [hv]; simp)).2
    have hs : 0 < v.hi - v.lo + 1 := by omega
    have hle : most.tdiv (v.hi - v.lo + 1) < 1 := by
      rcases Int.lt_or_le (most.tdiv (v.hi - v.lo + 1)) 1 with h1 | h1
      · exact h1
      · have := tdiv_mul hs (Int.le_refl 1) h1
        omega
    simp only [Md.prod, if_pos hle]
    rfl

set_option maxRecDepth 10000 in
set_option maxHeartbeats 2000000 in
theorem refProduct_any (m : Md.Mo) (vv vc vg : Value) (most : Int) (w : World) (h : MoAt w m vv vc vg) (hmo0 : -9223372036854775808 ≤ most) (hmo : most ≤ 9223372036854775807) : Calls Tryz.prog 9 #[moVal m vv vc vg, .int .i64 most] w fun e w' => e = .returned (.tuple #[.int .i64 (Md.product m most).1, .bool (Md.product m most).2]) ∧ Below w.heap.size w w' := by
  obtain ⟨W, hW⟩ : ∃ W, w.alloc (.cells #[vv, vc, .bool m.has, vg] 26) = W := ⟨_, rfl⟩
  have hbW : Below w.heap.size w W := by rw [← hW]; exact (Below.refl _ _).alloc (Nat.le_refl _) _
  have hN : W.heap[w.heap.size]? = some (.cells #[vv, vc, .bool m.has, vg] 26) := by rw [← hW]; exact heap_alloc_new w _
  have HB : Hid (Below w.heap.size w W) := hbW
  have HM : Hid (∀ w', Below W.heap.size W w' → MoAt w' m vv vc vg) := fun w' hb => (h.below hbW).below hb
  have HN : Hid (∀ w', Below W.heap.size W w' → w'.heap[w.heap.size]? = some (.cells #[vv, vc, .bool m.has, vg] 26)) := fun w' hb => (hb.block _ (Array.getElem?_eq_some_iff.1 hN).1).trans hN
  have HNL : Hid (w.heap.size < W.heap.size) := (Array.getElem?_eq_some_iff.1 hN).1
  obtain ⟨va, vp, rfl, hvm⟩ := h.v.form
  obtain ⟨ca, cp, rfl, hcm⟩ := h.c.form
  obtain ⟨ga, gp, rfl, hgm⟩ := h.g.form
  unfold maxLen at hvm hcm hgm
  obtain ⟨⟨p0, p1, p2, p3⟩, _⟩ := box4 hN
  have H38 : Hid (Calls Tryz.prog 38 #[.agg #[.slice va m.vars.length vp, .slice ca m.cons.length cp, .bool m.has, .slice ga m.goal.length gp]] W fun e w' => e = .returned (.bool (Md.rightB m)) ∧ Below W.heap.size W w') := refRight_any m _ _ _ W (HM.out W (Below.refl _ _))
  have HMO : Hid (most ≤ 9223372036854775807) := hmo
  have HMO0 : Hid (-9223372036854775808 ≤ most) := hmo0
  unfold moVal
  clear hbW hN hmo hmo0
  cases hr : Md.rightB m
  · have hres : Hid (Md.product m most = (0, false)) := Md.product_no hr
    rw [hr] at H38
    clear hr h
    go_enter Tryz.func9, Tryz.ntmps9
    go_wp2_with (go_at_call 38; refine calls_at H38.out (by with_reducible rfl) (by with_reducible rfl) ?_; rintro e w1 ⟨rfl, hb1⟩)
    go_ret2
    exact ⟨ret_pairB hres.out.symm, HB.out.trans (hb1.mono HB.out.size)⟩
  have HR : Hid (Md.Right m) := Md.rightB_of hr
  by_cases hm1 : most < 1
  · have hres : Hid (Md.product m most = (0, false)) := Md.product_small hr hm1
    rw [hr] at H38
    clear hr h
    go_enter Tryz.func9, Tryz.ntmps9
    go_wp2_with (go_at_call 38; refine calls_at H38.out (by with_reducible rfl) (by with_reducible rfl) ?_; rintro e w1 ⟨rfl, hb1⟩)
    all_goals first
      | (go_ret2; exact ⟨ret_pairB hres.out.symm, HB.out.trans (hb1.mono HB.out.size)⟩)
      | (exfalso; omega)
  have hres : Hid (Md.product m most = prodR (Md.prod m.vars most 1)) := Md.product_yes hr
  rw [hr] at H38
  obtain ⟨a', c', hve, _, _, hvo⟩ := h.v
  injection hve with e1 e2 e3
  subst e1 e3
  have HVO : Hid (0 < m.vars.length → ∃ b off, va = some ⟨b, off, none⟩ ∧ b < w.heap.size ∧ ∀ j (h : j < m.vars.length), w.cell? ⟨b, off + j * 3, none⟩ = some (.string m.vars[j].name) ∧ w.cell? ⟨b, off + j * 3 + 1, none⟩ = some (.int .i64 m.vars[j].lo) ∧ w.cell? ⟨b, off + j * 3 + 2, none⟩ = some (.int .i64 m.vars[j].hi)) := hvo
  have HV : Hid (∀ v ∈ m.vars, Md.boundsB v.lo v.hi = true) := fun v hv => (HR.out.var v hv).2
  clear hr h hvo e2
  go_enter Tryz.func9, Tryz.ntmps9
  go_wp2_with (go_at_call 38; refine calls_at H38.out (by with_reducible rfl) (by with_reducible rfl) ?_; rintro e w1 ⟨rfl, hb1⟩; have HB1 : Hid (Below W.heap.size W w1) := hb1; clear hb1 p0 p1 p2 p3; obtain ⟨⟨p0, p1, p2, p3⟩, _⟩ := box4 (HN.out _ HB1.out))
  go_loopw [6, 7] (fun sv iv wr => ∃ (k : Nat) (n : Int), iv = .int .i64 (k : Int) ∧ k ≤ m.vars.length ∧ sv = .int .i64 n ∧ 1 ≤ n ∧ Hid (n = 1 ∨ n ≤ most) ∧ Hid (Md.prod m.vars most 1 = Md.prod (m.vars.drop k) most n) ∧ Hid (Below W.heap.size W wr)) (fun _ iv _ => m.vars.length - (intOf iv).toNat)
  case atStart => exact ⟨0, 1, rfl, Nat.zero_le _, rfl, by decide, .inl rfl, (show _ = _ by rw [List.drop_zero]), HB1⟩
  case round =>
    obtain ⟨k, n, rfl, hk, rfl, hn1, hnm, hP, hT⟩ := hrel
    clear p0 p1 p2 p3
    obtain ⟨⟨p0, p1, p2, p3⟩, _⟩ := box4 (HN.out _ hT.out)
    by_cases hlt : k < m.vars.length
    · have hkI : (k : Int) < (m.vars.length : Int) := by omega
      obtain ⟨b, off, rfl, hb, hc⟩ := HVO.out (by omega)
      obtain ⟨c0, c1, c2⟩ := hc k hlt
      have hbw : Below w.heap.size w wr := HB.out.trans (hT.out.mono HB.out.size)
      have d1 := (hbw.cell (p := ⟨b, off + k * 3 + 1, none⟩) hb).trans c1
      have d2 := (hbw.cell (p := ⟨b, off + k * 3 + 2, none⟩) hb).trans c2
      obtain ⟨⟨b1, b2⟩, ⟨b3, b4⟩, b5, b6⟩ := Md.bounds_of (HV.out _ (List.getElem_mem hlt))
      have hnx : Hid (Md.prod m.vars most 1 = if most.tdiv (m.vars[k].hi - m.vars[k].lo + 1) < n then none else Md.prod (m.vars.drop (k + 1)) most (n * (m.vars[k].hi - m.vars[k].lo + 1))) := by show _ = _; rw [hP.out, Md.prod_next hlt]
      clear hc c0 c1 c2
      generalize m.vars[k] = v at *
      have hs1 : 0 < v.hi - v.lo + 1 := by omega
      have hw1 : IntKind.i64.wrap (v.hi - v.lo) = v.hi - v.lo := wrap_ok (by omega) (by omega)
      have hw2 : IntKind.i64.wrap (v.hi - v.lo + 1) = v.hi - v.lo + 1 := wrap_ok (by omega) (by omega)
      have HWE : Hid (wrap64 (most.tdiv (v.hi - v.lo + 1)) = most.tdiv (v.hi - v.lo + 1)) := tdiv_wrap hs1 HMO0.out HMO.out
      clear hbw
      by_cases hq : wrap64 (most.tdiv (v.hi - v.lo + 1)) < n
      · have hfin : Hid (Md.product m most = (0, false)) := by show _ = _; rw [hres.out, hnx.out, if_pos (by rw [← HWE.out]; exact hq)]; rfl
        clear hnx
        go_wp2_with fail
        go_quiet (fail)
        go_wp2_with fail
        all_goals first
          | (go_ret2; exact ⟨ret_pairB hfin.out.symm, below_drewN (HB.out.trans (hT.out.mono HB.out.size)) _⟩)
          | (exfalso; omega)
      · have hle : n * (v.hi - v.lo + 1) ≤ most := tdiv_mul hs1 hn1 (by rw [← HWE.out]; omega)
        have hge : 1 ≤ n * (v.hi - v.lo + 1) := by
          have := Int.mul_le_mul hn1 (show 1 ≤ v.hi - v.lo + 1 by omega) (by decide) (by omega)
          simpa using this
        have HLE : Hid (n * (v.hi - v.lo + 1) ≤ most) := hle
        have HGE : Hid (1 ≤ n * (v.hi - v.lo + 1)) := hge
        have HW : Hid (wrap64 (n * (v.hi - v.lo + 1)) = n * (v.hi - v.lo + 1)) := wrap64_ok (by omega) (Int.le_trans hle HMO.out)
        have HNX : Hid (Md.prod m.vars most 1 = Md.prod (m.vars.drop (k + 1)) most (n * (v.hi - v.lo + 1))) := by show _ = _; rw [hnx.out, if_neg (by rw [← HWE.out]; exact hq)]
        clear hnx hle hge
        go_wp2_with fail
        go_quiet (fail)
        go_wp2_with fail
        all_goals first
          | (exfalso; omega)
          | (refine ⟨⟨k + 1, n * (v.hi - v.lo + 1), by go_num, by omega, by rw [HW.out], HGE.out, .inr HLE.out, HNX, below_drewN hT.out _⟩, ?_⟩; simp [intOf]; omega)
    · have hkI : ¬ (k : Int) < (m.vars.length : Int) := by omega
      have hfin : Hid (Md.product m most = (n, true)) := by
        show _ = _
        rw [hres.out, hP.out, List.drop_eq_nil_of_le (by omega)]; rfl
      go_wp2_with fail
      go_ret2
      exact ⟨ret_pairB hfin.out.symm, HB.out.trans (hT.out.mono HB.out.size)⟩

set_option maxRecDepth 10000 in
set_option maxHeartbeats 4000000 in
theorem refSolution_any (m : Md.Mo) (vv vc vg vx : Value) (vs : List Int) (w : World) (h : MoAt w m vv vc vg) (hx : IntsAt w vx vs) : Calls Tryz.prog 17 #[moVal m vv vc vg, vx] w fun e w' => e = .returned (.bool (Md.solution m vs)) ∧ Below w.heap.size w w' := by
  obtain ⟨W, hW⟩ : ∃ W, w.alloc (.cells #[vv, vc, .bool m.has, vg] 26) = W := ⟨_, rfl⟩
  have hbW : Below w.heap.size w W := by rw [← hW]; exact (Below.refl _ _).alloc (Nat.le_refl _) _
  have hN : W.heap[w.heap.size]? = some (.cells #[vv, vc, .bool m.has, vg] 26) := by rw [← hW]; exact heap_alloc_new w _
  have HB : Hid (Below w.heap.size w W) := hbW
  have HM : Hid (∀ w', Below W.heap.size W w' → MoAt w' m vv vc vg) := fun w' hb => (h.below hbW).below hb
  have HN : Hid (∀ w', Below W.heap.size W w' → w'.heap[w.heap.size]? = some (.cells #[vv, vc, .bool m.has, vg] 26)) := fun w' hb => (hb.block _ (Array.getElem?_eq_some_iff.1 hN).1).trans hN
  have HNL : Hid (w.heap.size < W.heap.size) := (Array.getElem?_eq_some_iff.1 hN).1
  obtain ⟨va, vp, rfl, hvm⟩ := h.v.form
  obtain ⟨ca, cp, rfl, hcm⟩ := h.c.form
  obtain ⟨ga, gp, rfl, hgm⟩ := h.g.form
  unfold maxLen at hvm hcm hgm
  obtain ⟨⟨p0, p1, p2, p3⟩, _⟩ := box4 hN
  have H38 : Hid (Calls Tryz.prog 38 #[.agg #[.slice va m.vars.length vp, .slice ca m.cons.length cp, .bool m.has, .slice ga m.goal.length gp]] W fun e w' => e = .returned (.bool (Md.rightB m)) ∧ Below W.heap.size W w') := refRight_any m _ _ _ W (HM.out W (Below.refl _ _))
  have HX : Hid (∀ w', Below W.heap.size W w' → IntsAt w' vx vs) := fun w' hb => (hx.below hbW).below hb
  obtain ⟨xa, xc, rfl, hxm, hxo⟩ := id hx
  obtain ⟨a', c', hve, _, _, hvo⟩ := id h.v
  injection hve with e1 e2 e3
  subst e1 e3
  obtain ⟨a', c', hce, _, hco⟩ := id h.c
  injection hce with e4 e5 e6
  subst e4 e6
  have HVO : Hid (0 < m.vars.length → ∃ b off, va = some ⟨b, off, none⟩ ∧ b < w.heap.size ∧ ∀ j (h : j < m.vars.length), w.cell? ⟨b, off + j * 3, none⟩ = some (.string m.vars[j].name) ∧ w.cell? ⟨b, off + j * 3 + 1, none⟩ = some (.int .i64 m.vars[j].lo) ∧ w.cell? ⟨b, off + j * 3 + 2, none⟩ = some (.int .i64 m.vars[j].hi)) := hvo
  have HXO : Hid (0 < vs.length → ∃ b off, xa = some ⟨b, off, none⟩ ∧ b < w.heap.size ∧ ∀ j (h : j < vs.length), w.cell? ⟨b, off + j, none⟩ = some (.int .i64 vs[j])) := hxo
  have HCO : Hid (0 < m.cons.length → ∃ b off, ca = some ⟨b, off, none⟩ ∧ b < w.heap.size ∧ ∀ j (h : j < m.cons.length), ∃ vt vx vb vr, CnAt w m.cons[j] vt vx vb vr ∧ CnCells w b (off + j * 10) m.cons[j] vt vx vb vr) := hco
  unfold maxLen at hxm
  unfold moVal
  clear h hbW hN hx hvo hxo hco e2 e5
  cases hr : Md.rightB m
  · have hres : Hid (Md.solution m vs = false) := Md.sol_r hr
    rw [hr] at H38
    clear hr
    go_enter Tryz.func17, Tryz.ntmps17
    go_wp2_with (go_at_call 38; refine calls_at H38.out (by with_reducible rfl) (by with_reducible rfl) ?_; rintro e w1 ⟨rfl, hb1⟩)
    go_ret
    exact ⟨ret_bool hres.out.symm, HB.out.trans (hb1.mono HB.out.size)⟩
  have HR : Hid (Md.rightB m = true) := hr
  rw [hr] at H38
  clear hr
  by_cases hl : vs.length = m.vars.length
  rotate_left
  · have hres : Hid (Md.solution m vs = false) := Md.sol_i (Md.inside_no (.inl hl))
    have hlI : ((vs.length : Int) != (m.vars.length : Int)) = true := by rw [bne_iff_ne]; omega
    go_enter Tryz.func17, Tryz.ntmps17
    go_wp2_with (go_at_call 38; refine calls_at H38.out (by with_reducible rfl) (by with_reducible rfl) ?_; rintro e w1 ⟨rfl, hb1⟩; have HB1 : Hid (Below W.heap.size W w1) := hb1; clear hb1 p0 p1 p2 p3; obtain ⟨⟨p0, p1, p2, p3⟩, _⟩ := box4 (HN.out _ HB1.out))
    go_ret
    exact ⟨ret_bool hres.out.symm, HB.out.trans (HB1.out.mono HB.out.size)⟩
  have hlI : ((vs.length : Int) != (m.vars.length : Int)) = false := by rw [bne_eq_false_iff_eq]; omega
  have HL : Hid (vs.length = m.vars.length) := hl
  clear hl
  go_enter Tryz.func17, Tryz.ntmps17
  go_wp2_with (go_at_call 38; refine calls_at H38.out (by with_reducible rfl) (by with_reducible rfl) ?_; rintro e w1 ⟨rfl, hb1⟩; have HB1 : Hid (Below W.heap.size W w1) := hb1; clear hb1 p0 p1 p2 p3; obtain ⟨⟨p0, p1, p2, p3⟩, _⟩ := box4 (HN.out _ HB1.out))
  go_loopw [5] (fun iv wr => ∃ k : Nat, iv = .int .i64 (k : Int) ∧ k ≤ vs.length ∧ Hid (∀ j (h1 : j < m.vars.length) (h2 : j < vs.length), j < k → m.vars[j].lo ≤ vs[j] ∧ vs[j] ≤ m.vars[j].hi) ∧ Hid (Below W.heap.size W wr)) (fun iv _ => vs.length - (intOf iv).toNat)
  case atStart => exact ⟨0, rfl, Nat.zero_le _, fun j _ _ h => absurd h (Nat.not_lt_zero _), HB1⟩
  case round =>
    obtain ⟨k, rfl, hk, hA, hT⟩ := hrel
    clear p0 p1 p2 p3
    obtain ⟨⟨p0, p1, p2, p3⟩, _⟩ := box4 (HN.out _ hT.out)
    rename World => wk
    by_cases hlt : k < vs.length
    · have hkI : (k : Int) < (vs.length : Int) := by omega
      have hkv : k < m.vars.length := by have := HL.out; omega
      have hkvI : (k : Int) < (m.vars.length : Int) := by omega
      obtain ⟨b, off, rfl, hb, hc⟩ := HVO.out (by omega)
      obtain ⟨b2, o2, rfl, hb2, hc2⟩ := HXO.out (by omega)
      obtain ⟨d0, d1, d2⟩ := hc k hkv
      have hbw : Below w.heap.size w wk := HB.out.trans (hT.out.mono HB.out.size)
      have e1 := (hbw.cell (p := ⟨b, off + k * 3 + 1, none⟩) hb).trans d1
      have e2 := (hbw.cell (p := ⟨b, off + k * 3 + 2, none⟩) hb).trans d2
      have e3 := (hbw.cell (p := ⟨b2, o2 + k, none⟩) hb2).trans (hc2 k hlt)
      have HEnd : Hid (Below w.heap.size w wk) := hbw
      clear hc d0 d1 d2 hc2 hbw
      have HNo : Hid (¬ (m.vars[k].lo ≤ vs[k] ∧ vs[k] ≤ m.vars[k].hi) → Md.solution m vs = false) := fun h => Md.sol_i (Md.inside_no (.inr ⟨k, hkv, hlt, h⟩))
      have HYes : Hid (m.vars[k].lo ≤ vs[k] ∧ vs[k] ≤ m.vars[k].hi → ∀ j (h1 : j < m.vars.length) (h2 : j < vs.length), j < k + 1 → m.vars[j].lo ≤ vs[j] ∧ vs[j] ≤ m.vars[j].hi) := fun h j h1 h2 hj => by
        by_cases hjk : j < k
        · exact hA.out j h1 h2 hjk
        · obtain rfl : j = k := by omega
          exact h
      generalize m.vars[k] = v at *
      generalize vs[k] = x at *
      by_cases h1 : x < v.lo
      · have hres : Hid (Md.solution m vs = false) := HNo.out (by omega)
        have h1B : decide (x < v.lo) = true := by simpa using h1
        go_wp2_with fail
        go_quiet (fail)
        go_wp2
        go_ret
        exact ⟨ret_bool hres.out.symm, below_drewN HEnd.out _⟩
      have h1B : decide (x < v.lo) = false := by simpa using h1
      by_cases h2 : v.hi < x
      · have hres : Hid (Md.solution m vs = false) := HNo.out (by omega)
        have h2B : decide (v.hi < x) = true := by simpa using h2
        go_wp2_with fail
        go_quiet (fail)
        go_wp2
        go_ret
        exact ⟨ret_bool hres.out.symm, below_drewN HEnd.out _⟩
      · have h2B : decide (v.hi < x) = false := by simpa using h2
        have HNX : Hid (∀ j (h1 : j < m.vars.length) (h2 : j < vs.length), j < k + 1 → m.vars[j].lo ≤ vs[j] ∧ vs[j] ≤ m.vars[j].hi) := HYes.out ⟨by omega, by omega⟩
        go_wp2_with fail
        go_quiet (fail)
        go_wp2
        go_roundw
        case rel => exact ⟨k + 1, by go_num, by omega, HNX, below_drewN hT.out _⟩
        case measure => simp [intOf]; omega
    · have hkI : ¬ (k : Int) < (vs.length : Int) := by omega
      have hin : Md.insideB m.vars vs = true := Md.inside_iff.2 ⟨HL.out, fun j h1 h2 => hA.out j h1 h2 (by omega)⟩
      have HS : Hid (Md.solution m vs = m.cons.all fun c => Md.hold c vs) := Md.sol_h HR.out hin
      have HNum : Hid (vs.length = m.vars.length ∧ vs.all Md.numB = true) := Md.inside_num (Md.rightB_of HR.out) hin
      clear hin
      go_wp2_with fail
      go_loopw [6] (fun iv wr => ∃ i : Nat, iv = .int .i64 (i : Int) ∧ i ≤ m.cons.length ∧ Hid ((m.cons.take i).all (fun c => Md.hold c vs) = true) ∧ Hid (Below W.heap.size W wr)) (fun iv _ => m.cons.length - (intOf iv).toNat)
      case atStart => exact ⟨0, rfl, Nat.zero_le _, (show _ = _ by simp), hT⟩
      case round =>
        obtain ⟨i, rfl, hi, hP, hU⟩ := hrel
        clear p0 p1 p2 p3
        obtain ⟨⟨p0, p1, p2, p3⟩, _⟩ := box4 (HN.out _ hU.out)
        by_cases hit : i < m.cons.length
        · have hiI : (i : Int) < (m.cons.length : Int) := by omega
          obtain ⟨b, off, rfl, hb, hc⟩ := HCO.out (by omega)
          obtain ⟨vt, vx, vb, vr, hcn, hcl⟩ := hc i hit
          have hbw : Below w.heap.size w wr := HB.out.trans (hU.out.mono HB.out.size)
          obtain ⟨e0, e1, e2, e3, e4, e5, e6, e7, e8, e9⟩ := hcl.below hbw
          have HCN : Hid (CnAt wr m.cons[i] vt vx vb vr) := hcn.below hbw
          have HF0 : Hid (Md.holds m.cons[i] vs = Md.hold m.cons[i] vs) := by
            show _ = _
            unfold Md.holds
            rw [HNum.out.2, HNum.out.1, (Md.rightB_of HR.out).con _ (List.getElem_mem hit)]; simp
          have HNo : Hid (Md.hold m.cons[i] vs = false → Md.solution m vs = false) := fun h => by rw [HS.out]; exact Md.all_stop hit h
          have HYes : Hid (Md.hold m.cons[i] vs = true → (m.cons.take (i + 1)).all (fun c => Md.hold c vs) = true) := fun h => Md.all_next hP.out hit h
          obtain ⟨ta, tc, rfl, _⟩ := hcn.t.form
          obtain ⟨xa', xc', rfl, _⟩ := hcn.x.form
          obtain ⟨ba, bc, rfl, _⟩ := hcn.b.form
          obtain ⟨ra, rc, rfl, _⟩ := hcn.r.form
          clear hc hcn hcl hbw
          generalize m.cons[i] = c at *
          have H24 : Hid (Calls Tryz.prog 24 #[cnVal c (.slice ta c.terms.length tc) (.slice xa' c.xs.length xc') (.slice ba c.table.length bc) (.slice ra c.rows.length rc), .slice xa vs.length xc] wr fun e w' => e = .returned (.bool (Md.hold c vs)) ∧ Below wr.heap.size wr w') := by rw [← HF0.out]; exact refHolds_any foreign_ok c _ _ _ _ _ vs wr HCN.out (HX.out _ hU.out)
          unfold cnVal at H24
          cases hp : Md.hold c vs
          · rw [hp] at H24
            have hres : Hid (Md.solution m vs = false) := HNo.out hp
            clear hp
            go_wp2_with (go_at_call 24; refine calls_at H24.out (by with_reducible rfl) (by with_reducible rfl) ?_; rintro e w2 ⟨rfl, hb2⟩; have HF2 : Hid (Below W.heap.size W w2) := hU.out.trans (hb2.mono hU.out.size); clear hb2)
            go_ret
            exact ⟨ret_bool hres.out.symm, HB.out.trans (HF2.out.mono HB.out.size)⟩
          · rw [hp] at H24
            have hnx := HYes.out hp
            have HNX : Hid ((m.cons.take (i + 1)).all (fun c => Md.hold c vs) = true) := hnx
            clear hp hnx
            go_wp2_with (go_at_call 24; refine calls_at H24.out (by with_reducible rfl) (by with_reducible rfl) ?_; rintro e w2 ⟨rfl, hb2⟩; have HF2 : Hid (Below W.heap.size W w2) := hU.out.trans (hb2.mono hU.out.size); clear hb2)
            go_roundw
            case rel => exact ⟨i + 1, by go_num, by omega, HNX, HF2⟩
            case measure => simp [intOf]; omega
        · have hiI : ¬ (i : Int) < (m.cons.length : Int) := by omega
          have hres : Hid (Md.solution m vs = true) := by show _ = _; rw [HS.out]; exact Md.all_done hP.out (by omega)
          go_wp2_with fail
          go_ret
          exact ⟨ret_bool hres.out.symm, HB.out.trans (hU.out.mono HB.out.size)⟩
end Go.Proofs.YtmhfabnpfkkbcaaGreat
