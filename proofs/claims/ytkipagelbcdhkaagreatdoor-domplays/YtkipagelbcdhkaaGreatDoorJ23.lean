/-
  Put together: DcD1, DcD2.
-/
import Derived.Test.YtkipagelbcdhkaaGreatDoorJ21
import Derived.Test.YtkipagelbcdhkaaGreatDoorJ17
namespace Go.Proofs.YtkipagelbcdhkaaGreatDoor.Doc
open Go.RowKit

theorem ltr_dig {n : Int} (h : Md.ltrI n = true) : Md.digI n = false := by
  simp [Md.ltrI, Md.digI] at *
  omega
theorem nm_ltr {s : ByteArray} (h1 : 0 < s.size) (h : Md.ltrI ((s[0]).toNat : Int) = false) : Md.nameB s.data.toList = false := by
  cases hd : Md.digI ((s[0]).toNat : Int)
  · exact nm_stop h1 (by simp [Md.wordB, Md.byteI, h, hd])
  · exact nm_dig h1 hd

set_option maxRecDepth 10000 in
set_option maxHeartbeats 1000000 in
theorem name_any (s : ByteArray) (w : World) (hs : s.size ≤ maxLen) : Calls Tryz.prog 89 #[.string s] w fun e w' => e = .returned (.bool (Md.nameB s.data.toList)) ∧ w' = w := by
  unfold maxLen at hs
  by_cases h0 : s.size < 1
  · have hres : Hid (Md.nameB s.data.toList = false) := nm_len (.inl h0)
    have h0I : (s.size : Int) < 1 := by omega
    go_enter Tryz.func89, Tryz.ntmps89
    go_wp2
    go_ret
    exact ⟨ret_bool hres.out.symm, rfl⟩
  have h0I : ¬ (s.size : Int) < 1 := by omega
  by_cases h1 : 16 < s.size
  · have hres : Hid (Md.nameB s.data.toList = false) := nm_len (.inr h1)
    have hI : (16 : Int) < (s.size : Int) := by omega
    go_enter Tryz.func89, Tryz.ntmps89
    go_wp2
    go_ret
    exact ⟨ret_bool hres.out.symm, rfl⟩
  have hI : ¬ (16 : Int) < (s.size : Int) := by omega
  have h00 : 0 < s.size := by omega
  have hI0 : (0 : Int) < (s.size : Int) := by omega
  cases hd : Md.ltrI ((s[0]).toNat : Int)
  · have hres : Hid (Md.nameB s.data.toList = false) := nm_ltr h00 hd
    go_enter Tryz.func89, Tryz.ntmps89
    go_wp2_with (go_at_call 109; refine (letter_any _ _).mono ?_; rintro e w' ⟨rfl, hww⟩; rw [hww])
    go_ret
    exact ⟨ret_bool hres.out.symm, rfl⟩
  have HD : Hid (Md.digI ((s[0]).toNat : Int) = false) := ltr_dig hd
  have H1 : Hid ((s.data.toList.take 1).all Md.wordB = true) := nm_next h00 (by simp) (by simp [Md.wordB, Md.byteI, hd])
  go_enter Tryz.func89, Tryz.ntmps89
  go_wp2_with (go_at_call 109; refine (letter_any _ _).mono ?_; rintro e w' ⟨rfl, hww⟩; rw [hww])
  clear hd
  go_loop [3] (fun iv => ∃ k : Nat, iv = .int .i64 (k : Int) ∧ k ≤ s.size ∧ Hid ((s.data.toList.take k).all Md.wordB = true)) (fun iv => s.size - (intOf iv).toNat)
  case atStart => exact ⟨1, rfl, h00, H1⟩
  case round =>
    obtain ⟨k, rfl, hk, hA⟩ := hrel
    by_cases hlt : k < s.size
    · have hkI : (k : Int) < (s.size : Int) := by omega
      cases hL : Md.ltrI ((s[k]).toNat : Int)
      · cases hG : Md.digI ((s[k]).toNat : Int)
        · have hres : Hid (Md.nameB s.data.toList = false) := nm_stop hlt (by simp [Md.wordB, Md.byteI, hL, hG])
          have hG' : ¬ (48 ≤ ((s[k]).toNat : Int) ∧ ((s[k]).toNat : Int) ≤ 57) := by simpa [Md.digI] using hG
          clear hG
          go_wp2_with (go_at_call 109; refine (letter_any _ _).mono ?_; rintro e w' ⟨rfl, hww⟩; rw [hww])
          all_goals first
            | (go_ret; exact ⟨ret_bool hres.out.symm, rfl⟩)
            | (exfalso; omega)
        · have hnx : Hid ((s.data.toList.take (k + 1)).all Md.wordB = true) := nm_next hlt hA.out (by simp [Md.wordB, Md.byteI, hG])
          obtain ⟨g1, g2⟩ : 48 ≤ ((s[k]).toNat : Int) ∧ ((s[k]).toNat : Int) ≤ 57 := by simpa [Md.digI] using hG
          have g3 : ¬ ((s[k]).toNat : Int) < 48 := by omega
          have g4 : ¬ 57 < ((s[k]).toNat : Int) := by omega
          clear hG
          go_wp2_with (go_at_call 109; refine (letter_any _ _).mono ?_; rintro e w' ⟨rfl, hww⟩; rw [hww])
          all_goals first
            | (go_round; (case rel => exact ⟨k + 1, by go_num, by omega, hnx⟩); (case measure => simp [intOf]; omega))
            | (exfalso; omega)
      · have hnx : Hid ((s.data.toList.take (k + 1)).all Md.wordB = true) := nm_next hlt hA.out (by simp [Md.wordB, Md.byteI, hL])
        go_wp2_with (go_at_call 109; refine (letter_any _ _).mono ?_; rintro e w' ⟨rfl, hww⟩; rw [hww])
        go_round
        case rel => exact ⟨k + 1, by go_num, by omega, hnx⟩
        case measure => simp [intOf]; omega
    · have hkI : ¬ (k : Int) < (s.size : Int) := by omega
      have hres : Hid (Md.nameB s.data.toList = true) := nm_done h00 (by omega) HD.out hA.out (by omega)
      go_wp2_with fail
      go_ret
      exact ⟨ret_bool hres.out.symm, rfl⟩

/-- What vars answers. -/
def varsE (l : List Md.Vr) : Int × Int :=
  if Md.fewB l.length 32 then (0, 40) else match Md.firstBad l.length (Md.vFault l) with | some i => ((i : Int), Md.vFault l i) | none => (0, 0)
theorem ve_few {l : List Md.Vr} (h : Md.fewB l.length 32 = true) : varsE l = (0, 40) := by unfold varsE; rw [if_pos h]
theorem ve_bad {l : List Md.Vr} {i : Nat} (h : Md.fewB l.length 32 = false) (hi : i < l.length) (hb : Md.vFault l i ≠ 0) (ha : ∀ j, j < i → Md.vFault l j = 0) : varsE l = ((i : Int), Md.vFault l i) := by
  unfold varsE
  rw [if_neg (by simp [h]), Md.firstBad_some hi hb ha]
theorem ve_ok {l : List Md.Vr} (h : Md.fewB l.length 32 = false) (ha : ∀ j, j < l.length → Md.vFault l j = 0) : varsE l = (0, 0) := by
  unfold varsE
  rw [if_neg (by simp [h]), Md.firstBad_none ha]

set_option maxRecDepth 10000 in
set_option maxHeartbeats 4000000 in
theorem refVars_any (va : Value) (l : List Md.Vr) (w : World) (h : VarsAt w va l) : Calls Tryz.prog 68 #[va] w fun e w' => e = .returned (.tuple #[.int .i64 (varsE l).1, .int .i64 (varsE l).2]) ∧ Below w.heap.size w w' := by
  obtain ⟨a, cap, rfl, hm, hn, hc⟩ := h
  unfold maxLen at hm
  have HNM : Hid (∀ x ∈ l, x.name.size ≤ maxLen) := hn
  have HC : Hid (0 < l.length → ∃ b off, a = some ⟨b, off, none⟩ ∧ b < w.heap.size ∧ ∀ j (h : j < l.length), w.cell? ⟨b, off + j * 3, none⟩ = some (.string l[j].name) ∧ w.cell? ⟨b, off + j * 3 + 1, none⟩ = some (.int .i64 l[j].lo) ∧ w.cell? ⟨b, off + j * 3 + 2, none⟩ = some (.int .i64 l[j].hi)) := hc
  clear hn hc
  by_cases hn0 : l.length < 1
  · have hres : Hid (varsE l = (0, 40)) := ve_few (decide_eq_true (.inl hn0))
    have hI : (l.length : Int) < 1 := by omega
    go_enter Tryz.func68, Tryz.ntmps68
    go_wp2
    go_ret2
    exact ⟨ret_pair hres.out.symm, Below.refl _ _⟩
  have hI0 : ¬ (l.length : Int) < 1 := by omega
  by_cases hn1 : 32 < l.length
  · have hres : Hid (varsE l = (0, 40)) := ve_few (decide_eq_true (.inr hn1))
    have hI : (32 : Int) < (l.length : Int) := by omega
    go_enter Tryz.func68, Tryz.ntmps68
    go_wp2
    go_ret2
    exact ⟨ret_pair hres.out.symm, Below.refl _ _⟩
  have hI1 : ¬ (32 : Int) < (l.length : Int) := by omega
  have HF : Hid (Md.fewB l.length 32 = false) := decide_eq_false (by omega)
  go_enter Tryz.func68, Tryz.ntmps68
  go_wp2
  go_loopw [4] (fun iv wr => ∃ k : Nat, iv = .int .i64 (k : Int) ∧ k ≤ l.length ∧ Hid (∀ j, j < k → Md.vFault l j = 0) ∧ Hid (Below w.heap.size w wr)) (fun iv _ => l.length - (intOf iv).toNat)
  case atStart => exact ⟨0, rfl, Nat.zero_le _, fun j h => absurd h (Nat.not_lt_zero _), Below.refl _ _⟩
  case round =>
    obtain ⟨k, rfl, hk, hA, hR⟩ := hrel
    rename World => wk
    by_cases hlt : k < l.length
    · have hkI : (k : Int) < (l.length : Int) := by omega
      obtain ⟨b, off, rfl, hb, hc⟩ := HC.out (by omega)
      obtain ⟨d0, d1, d2⟩ := hc k hlt
      have HD0 : Hid (w.cell? ⟨b, off + k * 3, none⟩ = some (.string l[k].name)) := d0
      have HD1 : Hid (w.cell? ⟨b, off + k * 3 + 1, none⟩ = some (.int .i64 l[k].lo)) := d1
      have HD2 : Hid (w.cell? ⟨b, off + k * 3 + 2, none⟩ = some (.int .i64 l[k].hi)) := d2
      have e0 := (hR.out.cell (p := ⟨b, off + k * 3, none⟩) hb).trans d0
      have HG : Hid (Md.vFault l k = Md.varFault l[k] (l.take k)) := Md.vFault_get hlt
      have HV : Hid ((l[k]).name.size ≤ maxLen) := HNM.out _ (List.getElem_mem hlt)
      have HCJ : Hid (∀ j, (h : j < l.length) → w.cell? ⟨b, off + j * 3, none⟩ = some (.string l[j].name)) := fun j h => (hc j h).1
      clear hc d0 d1 d2
      generalize hv : l[k] = v at *
      clear hv
      have HBad : Hid (∀ r, Md.varFault v (l.take k) = r → r ≠ 0 → varsE l = ((k : Int), r)) := fun r hr h0 => by
        have := ve_bad HF.out hlt (by rw [HG.out, hr]; exact h0) hA.out
        rw [HG.out, hr] at this; exact this
      cases h1 : Md.nameB v.name.data.toList
      · have hres : Hid (varsE l = ((k : Int), 41)) := HBad.out 41 (by simp [Md.varFault, h1]) (by decide)
        go_wp2_with (go_at_call 89; refine (name_any _ _ HV.out).mono ?_; rintro e w' ⟨rfl, hww⟩; rw [hww])
        go_ret2
        exact ⟨ret_pair hres.out.symm, hR.out⟩
      have H1 : Hid (Md.nameB v.name.data.toList = true) := h1
      go_wp2_with (go_at_call 89; refine (name_any _ _ HV.out).mono ?_; rintro e w' ⟨rfl, hww⟩; rw [hww]; clear hww)
      clear h1
      go_loopw [5] (fun iv wr => ∃ i : Nat, iv = .int .i64 (i : Int) ∧ i ≤ k ∧ Hid (Md.seenB (l.take i) v.name = false) ∧ Hid (Below w.heap.size w wr)) (fun iv _ => k - (intOf iv).toNat)
      case atStart => exact ⟨0, rfl, Nat.zero_le _, (show _ = _ by simp [Md.seenB]), hR⟩
      case round =>
        obtain ⟨i, rfl, hi, hS, hT⟩ := hrel
        clear e0
        by_cases hik : i < k
        · have hiI : (i : Int) < (k : Int) := by omega
          have hiL : (i : Int) < (l.length : Int) := by omega
          have hil : i < l.length := by omega
          have g0 := (hT.out.cell (p := ⟨b, off + k * 3, none⟩) hb).trans HD0.out
          have g1 := (hT.out.cell (p := ⟨b, off + i * 3, none⟩) hb).trans (HCJ.out i hil)
          cases hp : (l[i].name.toList == v.name.toList)
          · have hnx : Hid (Md.seenB (l.take (i + 1)) v.name = false) := Md.seen_next hil hS.out hp
            generalize l[i] = u at *
            go_wp2_with fail
            go_quiet (fail)
            go_wp2
            go_roundw
            case rel => exact ⟨i + 1, by go_num, by omega, hnx, below_drewN hT.out _⟩
            case measure => simp [intOf]; omega
          · have hsn : Md.seenB (l.take k) v.name = true := by
              unfold Md.seenB
              refine Md.any_stop (k := i) (by simp; omega) ?_
              rw [List.getElem_take]; exact hp
            have hres : Hid (varsE l = ((k : Int), 41)) := HBad.out 41 (by simp [Md.varFault, hsn]) (by decide)
            clear hsn
            generalize l[i] = u at *
            go_wp2_with fail
            go_quiet (fail)
            go_wp2
            go_ret2
            exact ⟨ret_pair hres.out.symm, below_drewN hT.out _⟩
        · have hiI : ¬ (i : Int) < (k : Int) := by omega
          have hik' : i = k := by omega
          have HS : Hid (Md.seenB (l.take k) v.name = false) := by have := hS.out; rw [hik'] at this; exact this
          have g1 := (hT.out.cell (p := ⟨b, off + k * 3 + 1, none⟩) hb).trans HD1.out
          have g2 := (hT.out.cell (p := ⟨b, off + k * 3 + 2, none⟩) hb).trans HD2.out
          clear hik'
          rename World => wi
          cases hb2 : Md.boundsB v.lo v.hi
          · have hres : Hid (varsE l = ((k : Int), 42)) := HBad.out 42 (by simp [Md.varFault, H1.out, HS.out, hb2]) (by decide)
            go_wp2_with fail
            go_quiet ((go_at_call 90; exact Calls.quiet_of_same (bounds_any _ _ _)))
            go_wp2
            go_ret2
            exact ⟨ret_pair hres.out.symm, below_drewN hT.out _⟩
          · have hz : Hid (Md.vFault l k = 0) := by show _ = _; rw [HG.out]; simp [Md.varFault, H1.out, HS.out, hb2]
            go_wp2_with fail
            go_quiet ((go_at_call 90; exact Calls.quiet_of_same (bounds_any _ _ _)))
            go_wp2
            go_roundw
            case rel => exact ⟨k + 1, by go_num, by omega, all_succ hA.out hz.out, below_drewN hT.out _⟩
            case measure => simp [intOf]; omega
    · have hkI : ¬ (k : Int) < (l.length : Int) := by omega
      have hres : Hid (varsE l = (0, 0)) := ve_ok HF.out (fun j hj => hA.out j (by omega))
      go_wp2_with fail
      go_ret2
      exact ⟨ret_pair hres.out.symm, hR.out⟩
end Go.Proofs.YtkipagelbcdhkaaGreatDoor.Doc

namespace Go.Proofs.YtkipagelbcdhkaaGreatDoor.Doc
open Go.RowKit

theorem ve_check {m : Md.Mo} (h : (varsE m.vars).2 ≠ 0) : Md.check m = varsE m.vars := by
  unfold Md.check
  unfold varsE at h ⊢
  split
  · rfl
  · rename_i h1
    rw [if_neg h1] at h
    split
    · rename_i i hi
      rw [hi]
    · rename_i hi
      rw [hi] at h
      exact absurd rfl h
theorem ve_zero {l : List Md.Vr} (h : (varsE l).2 = 0) : Md.fewB l.length 32 = false ∧ ∀ j, j < l.length → Md.vFault l j = 0 := by
  unfold varsE at h
  split at h
  · cases h
  rename_i h1
  refine ⟨by simpa using h1, ?_⟩
  split at h
  · rename_i i hi
    unfold Md.firstBad at hi
    have := List.find?_some hi
    simp at this
    exact absurd h this
  · rename_i hi
    exact Md.firstBad_none_iff hi
theorem te_goal {m : Md.Mo} (h1 : m.has = true) (h2 : Md.fewB m.goal.length 64 = false) : Md.goalFault m = termsE m.goal m.vars.length := by
  unfold termsE
  cases h3 : (m.goal.all fun t => Md.plB m.vars.length t.2)
  · rw [gf_d h1 h2 h3]; rfl
  · cases h4 : Md.coefsB m.goal
    · rw [gf_e h1 h2 h3 h4]; rfl
    · rw [gf_f h1 h2 h3 h4]; rfl

set_option maxRecDepth 10000 in
set_option maxHeartbeats 4000000 in
theorem refCheck_any (m : Md.Mo) (vv vc vg : Value) (w : World) (h : MoAt w m vv vc vg) : Calls Tryz.prog 51 #[moVal m vv vc vg] w fun e w' => e = .returned (.tuple #[.int .i64 (Md.check m).1, .int .i64 (Md.check m).2]) ∧ Below w.heap.size w w' := by
  obtain ⟨W, hW⟩ : ∃ W, w.alloc (.cells #[vv, vc, .bool m.has, vg] 26) = W := ⟨_, rfl⟩
  have hbW : Below w.heap.size w W := by rw [← hW]; exact (Below.refl _ _).alloc (Nat.le_refl _) _
  have hN : W.heap[w.heap.size]? = some (.cells #[vv, vc, .bool m.has, vg] 26) := by rw [← hW]; exact heap_alloc_new w _
  have HB : Hid (Below w.heap.size w W) := hbW
  have HM : Hid (∀ w', Below W.heap.size W w' → MoAt w' m vv vc vg) := fun w' hb => (h.below hbW).below hb
  have HN : Hid (∀ w', Below W.heap.size W w' → w'.heap[w.heap.size]? = some (.cells #[vv, vc, .bool m.has, vg] 26)) := fun w' hb => (hb.block _ (Array.getElem?_eq_some_iff.1 hN).1).trans hN
  have HNL : Hid (w.heap.size < W.heap.size) := (Array.getElem?_eq_some_iff.1 hN).1
  obtain ⟨va, vp, rfl, hvm⟩ := h.v.form
  obtain ⟨ca, cp, rfl, hcm⟩ := h.c.form
  obtain ⟨ga, gp, rfl, hgm⟩ := h.g.form
  unfold maxLen at hvm hcm hgm
  obtain ⟨⟨p0, p1, p2, p3⟩, _⟩ := box4 hN
  obtain ⟨a', c', hce, _, hco⟩ := id h.c
  injection hce with e1 e2 e3
  subst e1 e3
  have HCO : Hid (0 < m.cons.length → ∃ b off, ca = some ⟨b, off, none⟩ ∧ b < w.heap.size ∧ ∀ j (h : j < m.cons.length), ∃ vt vx vb vr, CnAt w m.cons[j] vt vx vb vr ∧ CnCells w b (off + j * 10) m.cons[j] vt vx vb vr) := hco
  obtain ⟨r1, hr1⟩ : ∃ r, (varsE m.vars).1 = r := ⟨_, rfl⟩
  obtain ⟨r2, hr2⟩ : ∃ r, (varsE m.vars).2 = r := ⟨_, rfl⟩
  have H34 : Hid (Calls Tryz.prog 68 #[.slice va m.vars.length vp] W fun e w' => e = .returned (.tuple #[.int .i64 r1, .int .i64 r2]) ∧ Below W.heap.size W w') := by rw [← hr1, ← hr2]; exact refVars_any _ m.vars W (HM.out W (Below.refl _ _)).v
  have HE : Hid (varsE m.vars = (r1, r2)) := by show _ = _; rw [← hr1, ← hr2]
  unfold moVal
  clear h hbW hN hco hr1 hr2 e2
  by_cases hz : r2 = 0
  rotate_left
  · have hres : Hid (Md.check m = (r1, r2)) := by show _ = _; rw [← HE.out]; exact ve_check (by rw [HE.out]; exact hz)
    have hzB : (r2 != 0) = true := by simpa using hz
    go_enter Tryz.func51, Tryz.ntmps51
    go_wp2_with (go_at_call 68; refine calls_at H34.out (by with_reducible rfl) (by with_reducible rfl) ?_; rintro e w1 ⟨rfl, hb1⟩)
    go_ret2
    exact ⟨ret_pair hres.out.symm, HB.out.trans (hb1.mono HB.out.size)⟩
  subst hz
  have HZ : Hid (Md.fewB m.vars.length 32 = false ∧ ∀ j, j < m.vars.length → Md.vFault m.vars j = 0) := ve_zero (by rw [HE.out])
  clear HE
  have hv32 : m.vars.length ≤ 32 := by
    have := of_decide_eq_false HZ.out.1
    omega
  have hv32I : (m.vars.length : Int) ≤ 32 := by omega
  by_cases hc64 : 64 < m.cons.length
  · have hcI : (64 : Int) < (m.cons.length : Int) := by omega
    have hres : Hid (Md.check m = ((m.vars.length : Int), 49)) := ck_cons HZ.out.1 HZ.out.2 hc64
    go_enter Tryz.func51, Tryz.ntmps51
    go_wp2_with (go_at_call 68; refine calls_at H34.out (by with_reducible rfl) (by with_reducible rfl) ?_; rintro e w1 ⟨rfl, hb1⟩; have HB1 : Hid (Below W.heap.size W w1) := hb1; clear hb1 p0 p1 p2 p3; obtain ⟨⟨p0, p1, p2, p3⟩, _⟩ := box4 (HN.out _ HB1.out))
    go_ret2
    exact ⟨ret_pair hres.out.symm, HB.out.trans (HB1.out.mono HB.out.size)⟩
  have hcI : ¬ (64 : Int) < (m.cons.length : Int) := by omega
  go_enter Tryz.func51, Tryz.ntmps51
  go_wp2_with (go_at_call 68; refine calls_at H34.out (by with_reducible rfl) (by with_reducible rfl) ?_; rintro e w1 ⟨rfl, hb1⟩; have HB1 : Hid (Below W.heap.size W w1) := hb1; clear hb1 p0 p1 p2 p3; obtain ⟨⟨p0, p1, p2, p3⟩, _⟩ := box4 (HN.out _ HB1.out))
  go_loopw [7] (fun iv wr => ∃ k : Nat, iv = .int .i64 (k : Int) ∧ k ≤ m.cons.length ∧ Hid (∀ j, j < k → Md.cFault m.cons m.vars.length j = 0) ∧ Hid (Below W.heap.size W wr)) (fun iv _ => m.cons.length - (intOf iv).toNat)
  case atStart => exact ⟨0, rfl, Nat.zero_le _, fun j h => absurd h (Nat.not_lt_zero _), HB1⟩
  case round =>
    obtain ⟨i, rfl, hi, hP, hT⟩ := hrel
    clear p0 p1 p2 p3
    obtain ⟨⟨p0, p1, p2, p3⟩, _⟩ := box4 (HN.out _ hT.out)
    by_cases hit : i < m.cons.length
    · have hiI : (i : Int) < (m.cons.length : Int) := by omega
      obtain ⟨b, off, rfl, hb, hc⟩ := HCO.out (by omega)
      obtain ⟨vt, vx, vb, vr, hcn, hcl⟩ := hc i hit
      have hbw : Below w.heap.size w wr := HB.out.trans (hT.out.mono HB.out.size)
      obtain ⟨e0, e1, e2, e3, e4, e5, e6, e7, e8, e9⟩ := hcl.below hbw
      have HCN : Hid (CnAt wr m.cons[i] vt vx vb vr) := hcn.below hbw
      have HG : Hid (Md.cFault m.cons m.vars.length i = Md.fault m.cons[i] m.vars.length) := Md.cFault_get hit
      obtain ⟨ta, tc, rfl, _⟩ := hcn.t.form
      obtain ⟨xa, xc, rfl, _⟩ := hcn.x.form
      obtain ⟨ba, bc, rfl, _⟩ := hcn.b.form
      obtain ⟨ra, rc, rfl, _⟩ := hcn.r.form
      clear hc hcn hcl hbw
      generalize hx : m.cons[i] = c at *
      clear hx
      obtain ⟨r, hr⟩ : ∃ r, Md.fault c m.vars.length = r := ⟨_, rfl⟩
      have HGR : Hid (Md.cFault m.cons m.vars.length i = r) := HG.out.trans hr
      have H35 : Hid (Calls Tryz.prog 69 #[cnVal c (.slice ta c.terms.length tc) (.slice xa c.xs.length xc) (.slice ba c.table.length bc) (.slice ra c.rows.length rc), .int .i64 (m.vars.length : Int)] wr fun e w' => e = .returned (.int .i64 r) ∧ Below wr.heap.size wr w') := by rw [← hr]; exact refCon_any foreign_ok c _ _ _ _ (m.vars.length : Int) wr HCN.out
      unfold cnVal at H35
      clear hr HG HCN
      by_cases hz : r = 0
      · subst hz
        go_wp2_with (go_at_call 69; refine calls_at H35.out (by with_reducible rfl) (by with_reducible rfl) ?_; rintro e w2 ⟨rfl, hb2⟩; have HF2 : Hid (Below W.heap.size W w2) := hT.out.trans (hb2.mono hT.out.size); clear hb2)
        go_roundw
        case rel => exact ⟨i + 1, by go_num, by omega, all_succ hP.out HGR.out, HF2⟩
        case measure => simp [intOf]; omega
      · have hzB : (r != 0) = true := by simpa using hz
        have hres : Hid (Md.check m = ((m.vars.length : Int) + (i : Int), r)) := by show _ = _; rw [← HGR.out]; exact ck_con HZ.out.1 HZ.out.2 hc64 hit (by rw [HGR.out]; exact hz) hP.out
        go_wp2_with (go_at_call 69; refine calls_at H35.out (by with_reducible rfl) (by with_reducible rfl) ?_; rintro e w2 ⟨rfl, hb2⟩; have HF2 : Hid (Below W.heap.size W w2) := hT.out.trans (hb2.mono hT.out.size); clear hb2)
        go_ret2
        exact ⟨ret_pair hres.out.symm, HB.out.trans (HF2.out.mono HB.out.size)⟩
    · have hiI : ¬ (i : Int) < (m.cons.length : Int) := by omega
      have HCl : Hid (∀ j, j < m.cons.length → Md.cFault m.cons m.vars.length j = 0) := fun j hj => hP.out j (by omega)
      have HBad : Hid (∀ r, Md.goalFault m = r → r ≠ 0 → Md.check m = ((m.vars.length : Int) + (m.cons.length : Int), r)) := fun r hr h0 => by rw [← hr]; exact ck_goal HZ.out.1 HZ.out.2 hc64 HCl.out (by rw [hr]; exact h0)
      have HOk : Hid (Md.goalFault m = 0 → Md.check m = (0, 0)) := fun hr => ck_ok HZ.out.1 HZ.out.2 hc64 HCl.out hr
      have HEnd : Hid (Below w.heap.size w wr) := HB.out.trans (hT.out.mono HB.out.size)
      cases hh : m.has
      · rw [hh] at p2
        by_cases hg : 0 < m.goal.length
        · have hres : Hid (Md.check m = ((m.vars.length : Int) + (m.cons.length : Int), 48)) := HBad.out 48 (gf_a hh hg) (by decide)
          have hgI : (0 : Int) < (m.goal.length : Int) := by omega
          go_wp2_with fail
          go_ret2
          exact ⟨ret_pair hres.out.symm, HEnd.out⟩
        · have hres : Hid (Md.check m = (0, 0)) := HOk.out (gf_b hh hg)
          have hgI : ¬ (0 : Int) < (m.goal.length : Int) := by omega
          go_wp2_with fail
          go_ret2
          exact ⟨ret_pair hres.out.symm, HEnd.out⟩
      rw [hh] at p2
      have HH : Hid (m.has = true) := hh
      clear hh
      cases hf : Md.fewB m.goal.length 64
      rotate_left
      · have hres : Hid (Md.check m = ((m.vars.length : Int) + (m.cons.length : Int), 47)) := HBad.out 47 (gf_c HH.out hf) (by decide)
        go_wp2_with (go_at_call 70; refine (many_any m.goal.length _).mono ?_; rintro e w' ⟨rfl, hww⟩; rw [hww]; clear hww)
        go_ret2
        exact ⟨ret_pair hres.out.symm, HEnd.out⟩
      have HTG : Hid (Md.goalFault m = termsE m.goal m.vars.length) := te_goal HH.out hf
      have H37 : Hid (Calls Tryz.prog 71 #[.slice ga m.goal.length gp, .int .i64 (m.vars.length : Int)] wr fun e w' => e = .returned (.int .i64 (termsE m.goal m.vars.length)) ∧ w' = wr) := terms_any _ m.goal (m.vars.length : Int) wr (HM.out _ hT.out).g
      obtain ⟨r, hr⟩ : ∃ r, termsE m.goal m.vars.length = r := ⟨_, rfl⟩
      rw [hr] at HTG H37
      clear hr
      by_cases hz : r = 0
      · subst hz
        have hres : Hid (Md.check m = (0, 0)) := HOk.out HTG.out
        go_wp2_with (first | (go_at_call 70; refine (many_any m.goal.length _).mono ?_; rintro e w' ⟨rfl, hww⟩; rw [hww]; clear hww) | (go_at_call 71; refine calls_at H37.out (by with_reducible rfl) (by with_reducible rfl) ?_; rintro e w' ⟨rfl, hww⟩; rw [hww]; clear hww))
        go_ret2
        exact ⟨ret_pair hres.out.symm, HEnd.out⟩
      · have hzB : (r != 0) = true := by simpa using hz
        have hres : Hid (Md.check m = ((m.vars.length : Int) + (m.cons.length : Int), r)) := HBad.out r HTG.out hz
        go_wp2_with (first | (go_at_call 70; refine (many_any m.goal.length _).mono ?_; rintro e w' ⟨rfl, hww⟩; rw [hww]; clear hww) | (go_at_call 71; refine calls_at H37.out (by with_reducible rfl) (by with_reducible rfl) ?_; rintro e w' ⟨rfl, hww⟩; rw [hww]; clear hww))
        go_ret2
        exact ⟨ret_pair hres.out.symm, HEnd.out⟩

end Go.Proofs.YtkipagelbcdhkaaGreatDoor.Doc
