/-
  OrderBack, as it runs.
-/
import Derived.Test.YtkgeknlmkkoobaaOdKnown
import Derived.Test.YtkgeknlmkkoobaaMdFewM
import Derived.Deep.QuietTactic
import Derived.BigQuiet
namespace Go.Proofs.Ytkgeknlmkkoobaa
open Go.RowKit

def mn (x v : Int) (i : Bool) (c r : Int) (p : Bool) : Value := .agg #[.int .i64 x, .int .i64 v, .bool i, .int .i64 c, .int .i64 r, .bool p]
theorem mn_same (x v : Int) (i : Bool) (c r : Int) (p : Bool) (w : World) : (binOp .neq 42 (.agg #[.int .i64 x, .int .i64 v, .bool i, .int .i64 c, .int .i64 r, .bool p]) (.agg #[.int .i64 x, .int .i64 v, .bool i, .int .i64 c, .int .i64 r, .bool p])).run Try.prog w = .ok (.bool false) w := (mean_same ⟨x, v, i, c, r, p⟩ w).1

set_option maxRecDepth 10000 in
set_option maxHeartbeats 8000000 in
theorem orderBack_walk (m : Md.Mo) (vv vc vg va : Value) (l : List Int) (w : World) (h : MoAt w m vv vc vg) (hl : IntsAt w va l) : Calls Try.prog 3 #[moVal m vv vc vg, va] w fun e w' => e = .returned (.bool true) ∧ Below w.heap.size w w' := by
  have hM := h
  obtain ⟨va', vp, rfl, hvm, hvn, hvo⟩ := id h.v
  obtain ⟨ca, cp, rfl, hcm, hco⟩ := id h.c
  obtain ⟨ga, gp, rfl, hgm⟩ := h.g.form
  obtain ⟨aa, ac, rfl, ham⟩ := hl.form
  obtain ⟨W, hW⟩ : ∃ W, w.alloc (.cells #[.slice va' m.vars.length vp, .slice ca m.cons.length cp, .bool m.has, .slice ga m.goal.length gp] 26) = W := ⟨_, rfl⟩
  have hbW : Below w.heap.size w W := by rw [← hW]; exact (Below.refl _ _).alloc (Nat.le_refl _) _
  have hN : W.heap[w.heap.size]? = some (.cells #[.slice va' m.vars.length vp, .slice ca m.cons.length cp, .bool m.has, .slice ga m.goal.length gp] 26) := by rw [← hW]; exact heap_alloc_new w _
  obtain ⟨W1, hW1⟩ : ∃ W1, W.alloc (.cells #[.int .i64 20000] 58) = W1 := ⟨_, rfl⟩
  have hbW1 : Below W.heap.size W W1 := by rw [← hW1]; exact (Below.refl _ _).alloc (Nat.le_refl _) _
  have hcnt : CountAt W1 W.heap.size 20000 := by rw [← hW1]; exact heap_alloc_new W _
  have HB : Hid (Below w.heap.size w W) := hbW
  have HN : Hid (∀ w', Below W.heap.size W w' → w'.heap[w.heap.size]? = some (.cells #[.slice va' m.vars.length vp, .slice ca m.cons.length cp, .bool m.has, .slice ga m.goal.length gp] 26)) := fun w' hb => (hb.block _ (Array.getElem?_eq_some_iff.1 hN).1).trans hN
  have HBw : Hid (∀ {w'}, Below W.heap.size W w' → Below w.heap.size w w') := fun hb => HB.out.trans (hb.mono HB.out.size)
  have HM : Hid (MoAt w m (.slice va' m.vars.length vp) (.slice ca m.cons.length cp) (.slice ga m.goal.length gp)) := hM
  have HL : Hid (IntsAt w (.slice aa l.length ac) l) := hl
  have HMn : Hid (Calls Try.prog 4 #[.int .i64 20000] W fun e w' => e = .returned (.pointer (some ⟨W.heap.size, 0, none⟩)) ∧ w' = W1) := by
    have := manyCount_any 20000 W
    rw [hW1] at this; exact this
  have HMo : Hid (Calls Try.prog 5 #[.pointer (some ⟨W.heap.size, 0, none⟩), .agg #[.slice va' m.vars.length vp, .slice ca m.cons.length cp, .bool m.has, .slice ga m.goal.length gp]] W1 fun e w' => e = .returned (.tuple #[]) ∧ Took W.heap.size 20000 (costM m) W1 w') :=
    model_count W.heap.size 20000 m _ _ _ W1 hcnt (by decide) (by decide) w hM (hbW.trans (hbW1.mono hbW.size)) hbW.size
  have HbW1 : Hid (Below W.heap.size W W1) := hbW1
  have Ham : Hid (l.length ≤ maxLen) := ham
  obtain ⟨⟨p0, p1, p2, p3⟩, _⟩ := box4 (HN.out W1 hbW1)
  unfold maxLen at hvm hcm hgm ham
  unfold moVal
  clear h hM hl hbW hN hbW1 hcnt hW1 hvn hvo hco
  go_enter Try.func3, Try.ntmps3
  go_wp2_with (first
    | (go_at_call 4; refine calls_at HMn.out (by with_reducible rfl) (by with_reducible rfl) ?_; rintro e w' ⟨rfl, hww⟩; rw [hww]; clear hww)
    | fail)
  refine calls_at HMo.out (by with_reducible rfl) (by with_reducible rfl) ?_
  rintro e w2 ⟨rfl, ⟨⟨l2, hC2, h21, h22, hT2⟩, hG2⟩⟩
  have HC2 : Hid (CountAt w2 W.heap.size l2) := hC2
  have HB2 : Hid (Below W.heap.size W w2) := below_grownBy HbW1.out hG2 (Nat.le_refl _)
  clear hC2 hT2 hG2 p0 p1 p2 p3 hW HMo HMn HbW1
  go_wp2_with fail
  refine calls_at (add_any W.heap.size l2 l.length _ HC2.out h21 h22 Ham.out) (by with_reducible rfl) (by with_reducible rfl) ?_
  rintro e w3 ⟨⟨b3, rfl⟩, ⟨⟨l3, hC3, h31, h32, hT3⟩, hG3⟩⟩
  have HC3 : Hid (CountAt w3 W.heap.size l3) := hC3
  have HB3 : Hid (Below W.heap.size W w3) := below_grownBy HB2.out hG3 (Nat.le_refl _)
  clear hC3 hT3 hG3 HC2
  go_wp2_with fail
  refine calls_at (ok_any W.heap.size l3 _ HC3.out) (by with_reducible rfl) (by with_reducible rfl) ?_
  rintro e w' ⟨rfl, hww⟩
  rw [hww]
  clear hww HC3
  obtain ⟨bo, hbo⟩ : ∃ b, decide (0 ≤ l3) = b := ⟨_, rfl⟩
  rw [hbo]
  clear hbo h21 h22 h31 h32
  cases bo
  · go_wp2_with fail
    go_ret
    exact ⟨rfl, HBw.out HB3.out⟩
  go_wp2_with fail
  refine calls_at (known_any w3) (by with_reducible rfl) (by with_reducible rfl) ?_
  rintro e w4 ⟨rfl, hb4⟩
  have HB4 : Hid (Below W.heap.size W w4) := HB3.out.trans (hb4.mono HB3.out.size)
  clear hb4
  have HNew : Hid (Calls Try.prog 9 #[.agg #[.slice va' m.vars.length vp, .slice ca m.cons.length cp, .bool m.has, .slice ga m.goal.length gp]] w4 (NewOut m w4)) := new_at (HM.out.below (HBw.out HB4.out)) rfl
  obtain ⟨⟨p0, p1, p2, p3⟩, _⟩ := box4 (HN.out w4 HB4.out)
  go_wp2_with fail
  refine calls_at HNew.out (by with_reducible rfl) (by with_reducible rfl) ?_
  intro e w5 hNew
  clear p0 p1 p2 p3 HNew
  by_cases hck : (Md.check m).2 = 0
  rotate_left
  · obtain ⟨h1 | h1, hb5⟩ := hNew
    · obtain ⟨_, rfl⟩ := h1
      have hckB : ((Md.check m).2 != 0) = true := by simpa using hck
      have HB5 : Hid (Below W.heap.size W w5) := HB4.out.trans (hb5.mono HB4.out.size)
      clear hb5
      go_wp2_with fail
      go_ret
      exact ⟨rfl, HBw.out HB5.out⟩
    · exact absurd h1.1 hck
  obtain ⟨s, V, M, K, B2, rfl, hMk, hb5⟩ := mk_of hNew hck
  have HB5 : Hid (Below W.heap.size W w5) := HB4.out.trans (hb5.mono HB4.out.size)
  have HMk : Hid (∀ w', Below w5.heap.size w5 w' → Mk m.vars m.cons s V M K B2 w') := fun w' hb => hMk.next hb
  have HG : Hid (Od.Good m.vars) := hMk.g
  have HGC : Hid (Od.GoodC m.vars.length m.cons) := hMk.gc
  have HR : Hid (Md.Right m) := Md.right_of hck
  have hvl : m.vars.length ≤ 32 := hMk.g.n1
  have hv0 : 1 ≤ m.vars.length := hMk.g.n0
  have hcl : m.cons.length ≤ 64 := hMk.gc.n1
  have HBr : Hid (∀ {w'}, Below w5.heap.size w5 w' → Below W.heap.size W w') := fun hb => HB5.out.trans (hb.mono HB5.out.size)
  clear hNew hMk hb5 hck HB2 HB3 HB4
  obtain ⟨_, _, hve, _, _, hvo⟩ := HM.out.v
  injection hve with e1 _ e3
  subst e1 e3
  obtain ⟨vb0, vo0, rfl, hvb, hvc⟩ := hvo (by omega)
  have HVc : Hid (∀ w', Below w5.heap.size w5 w' → VarCells w' vb0 vo0 m.vars) := fun w' hb j hj => by
    obtain ⟨c0, c1, c2⟩ := hvc j hj
    have hh := HBw.out (HBr.out hb)
    exact ⟨(hh.cell (p := ⟨vb0, vo0 + j * 3, none⟩) hvb).trans c0, (hh.cell (p := ⟨vb0, vo0 + j * 3 + 1, none⟩) hvb).trans c1, (hh.cell (p := ⟨vb0, vo0 + j * 3 + 2, none⟩) hvb).trans c2⟩
  have HLi : Hid (∀ w', Below w5.heap.size w5 w' → IntsAt w' (.slice aa l.length ac) l) := fun w' hb => HL.out.below (HBw.out (HBr.out hb))
  have HCo : Hid (∀ w', Below w5.heap.size w5 w' → ConsAt w' (.slice ca m.cons.length cp) m.cons) := fun w' hb => HM.out.c.below (HBw.out (HBr.out hb))
  clear hvo hvc
  go_wp2_with fail
  go_loopw [8, 9, 10] (fun vv nv xv wr => ∃ k : Nat, xv = .int .i64 (k : Int) ∧ k ≤ m.vars.length ∧ nv = .int .i64 (Od.aS m.vars k) ∧ Hid (wr.ownsRow w5.heap.size 3 1 vv k (insL m.vars l k)) ∧ Hid (Below w5.heap.size w5 wr)) (fun _ _ xv _ => m.vars.length - (intOf xv).toNat)
  case atStart => exact ⟨0, rfl, Nat.zero_le _, rfl, World.ownsRow_nil _ _ _ _, Below.refl _ _⟩
  case round =>
    obtain ⟨k, rfl, hk, rfl, hOw, hBk⟩ := hrel
    obtain ⟨⟨p0, p1, p2, p3⟩, _⟩ := box4 (HN.out wr (HBr.out hBk.out))
    by_cases hlt : k < m.vars.length
    · have hkI : (k : Int) < (m.vars.length : Int) := by omega
      obtain ⟨d0, d1, d2⟩ := HVc.out wr hBk.out k hlt
      have hLo := HG.out.b k hlt
      have hAb := Od.aS_bd HG.out k (by omega)
      have HAn : Hid (Od.aS m.vars (k + 1) = Od.aS m.vars k + (m.vars[k].hi - m.vars[k].lo)) := Od.aS_next hlt
      have HAt : Hid (∀ (j : Nat) (w' : World), (j : Int) < m.vars[k].hi - m.vars[k].lo → Below w5.heap.size w5 w' → Calls Try.prog 10 #[.pointer (some ⟨s.P, 0, none⟩), .int .i64 (k : Int), .int .i64 (m.vars[k].lo + 1 + (j : Int))] w' fun e w'' => e = .returned (.tuple #[.int .i64 (Od.aS m.vars k + (j : Int) + 1), .int .i64 1]) ∧ Below w'.heap.size w' w'') := fun j w' hj hb => by
        have := atLeastO_any (HMk.out w' hb) k hlt (m.vars[k].lo + 1 + (j : Int))
        rw [Od.atLeast_is hlt (by omega) (by omega), show Od.aS m.vars k + (m.vars[k].lo + 1 + (j : Int) - m.vars[k].lo) = Od.aS m.vars k + (j : Int) + 1 by omega] at this
        exact this
      have HOf : Hid (∀ (j : Nat) (w' : World), (j : Int) < m.vars[k].hi - m.vars[k].lo → Below w5.heap.size w5 w' → Calls Try.prog 11 #[.pointer (some ⟨s.P, 0, none⟩), .int .i64 (Od.aS m.vars k + (j : Int) + 1)] w' fun e w'' => e = .returned (.tuple #[.agg #[.int .i64 (k : Int), .int .i64 (m.vars[k].lo + 1 + (j : Int)), .bool false, .int .i64 0, .int .i64 0, .bool false], .bool true]) ∧ Below w'.heap.size w' w'') := fun j w' hj hb => (of_any (HMk.out w' hb) _).mono fun e w'' ⟨⟨mm, b, he, hs⟩, hb2⟩ => by
        obtain ⟨rfl, rfl⟩ := Od.of_step HG.out hs hlt (by omega) (by rw [HAn.out]; omega)
        refine ⟨?_, hb2⟩
        rw [he]
        unfold mnVal
        simp only
        rw [show m.vars[k].lo + (Od.aS m.vars k + (j : Int) + 1 - Od.aS m.vars k) = m.vars[k].lo + 1 + (j : Int) by omega]
      have HIa : Hid (∀ h2 : k < l.length, insV m.vars l k = m.vars[k].lo + plc l[k] (m.vars[k].hi - m.vars[k].lo + 1)) := fun h2 => insV_a hlt h2
      have HIb : Hid (¬ k < l.length → insV m.vars l k = m.vars[k].lo) := fun h2 => insV_b hlt h2
      generalize m.vars[k].lo = lo at *
      generalize m.vars[k].hi = hi at *
      generalize Od.aS m.vars k = as0 at *
      have hw1 : IntKind.i64.wrap (lo + 1) = lo + 1 := wrap_ok (by omega) (by omega)
      go_wp2_with fail
      go_quiet (fail)
      go_wp2_with fail
      obtain ⟨X, hX⟩ : ∃ X, wr.drewN nq = X := ⟨_, rfl⟩
      have HBX : Hid (Below w5.heap.size w5 X) := by show Below _ _ _; rw [← hX]; exact below_drewN hBk.out _
      have HOX : Hid (X.ownsRow w5.heap.size 3 1 u8 k (insL m.vars l k)) := by show World.ownsRow _ _ _ _ _ _ _; rw [← hX]; exact own_dn hOw.out _
      rw [hX]
      clear hX p0 p1 p2 p3 d0 d1 d2 hOw hBk
      go_loopw [9, 13] (fun nv kv wq => ∃ j : Nat, kv = .int .i64 (lo + 1 + (j : Int)) ∧ (j : Int) ≤ hi - lo ∧ nv = .int .i64 (as0 + (j : Int)) ∧ Hid (Below X.heap.size X wq)) (fun _ kv _ => (hi + 1 - intOf kv).toNat)
      case atStart => exact ⟨0, by simp, by have := hLo.2.2.1; omega, by simp, Below.refl _ _⟩
      case round =>
        obtain ⟨j, rfl, hj, rfl, hBj⟩ := hrel
        rename World => wq
        have HBq : Hid (Below w5.heap.size w5 wq) := HBX.out.trans (hBj.out.mono HBX.out.size)
        by_cases hjl : (j : Int) < hi - lo
        · have hjI : lo + 1 + (j : Int) ≤ hi := by omega
          have hw2 : IntKind.i64.wrap (as0 + (j : Int) + 1) = as0 + (j : Int) + 1 := wrap_ok (by omega) (by omega)
          have hw3 : IntKind.i64.wrap (lo + 1 + (j : Int) + 1) = lo + 1 + (j : Int) + 1 := wrap_ok (by omega) (by omega)
          have hneq := mn_same (k : Int) (lo + 1 + (j : Int)) false 0 0 false
          have hn2 : (as0 + (j : Int) + 1 != as0 + (j : Int) + 1) = false := by simp
          go_wp2_with fail
          refine calls_at (HAt.out j wq hjl HBq.out) (by with_reducible rfl) (by with_reducible rfl) ?_
          rintro e w7 ⟨rfl, hb7⟩
          have HB7 : Hid (Below X.heap.size X w7) := hBj.out.trans (hb7.mono hBj.out.size)
          clear hb7
          go_wp2_with fail
          refine calls_at (HOf.out j w7 hjl (HBX.out.trans (HB7.out.mono HBX.out.size))) (by with_reducible rfl) (by with_reducible rfl) ?_
          rintro e w8 ⟨rfl, hb8⟩
          have HB8 : Hid (Below X.heap.size X (w8.alloc (.cells #[.int .i64 (k : Int), .int .i64 (lo + 1 + (j : Int)), .bool false, .int .i64 0, .int .i64 0, .bool false] 42))) := (HB7.out.trans (hb8.mono HB7.out.size)).alloc (HB7.out.trans (hb8.mono HB7.out.size)).size _
          clear hb8
          go_wp2_with fail
          go_roundw
          case rel => exact ⟨j + 1, by simp; omega, by simp; omega, by simp; omega, HB8⟩
          case measure => simp [intOf]; omega
        · have hjI : ¬ lo + 1 + (j : Int) ≤ hi := by omega
          have HJ : Hid ((hi - lo : Int) = (j : Int)) := by show _ = _; omega
          have HOq : Hid (wq.ownsRow w5.heap.size 3 1 u8 k (insL m.vars l k)) := own_off (S := fun _ => False) HOX.out (fun _ _ h => h) (Off.of_below hBj.out)
          by_cases hkl : k < l.length
          · have hklI : (k : Int) < (l.length : Int) := by omega
            obtain ⟨lb, lo', rfl, _, hlc⟩ := ints_all (HLi.out wq HBq.out) (by omega)
            have x0 := hlc k hkl
            have HV := HIa.out hkl
            have hw4 : IntKind.i64.wrap (hi - lo) = hi - lo := wrap_ok (by omega) (by omega)
            have hw5 : IntKind.i64.wrap (hi - lo + 1) = hi - lo + 1 := wrap_ok (by omega) (by omega)
            obtain ⟨q1, q2⟩ := plc_in l[k] (hi - lo + 1) (by omega)
            have HP : Hid (∀ w', Calls Try.prog 12 #[.int .i64 l[k], .int .i64 (hi - lo + 1)] w' fun e w'' => e = .returned (.int .i64 (plc l[k] (hi - lo + 1))) ∧ w'' = w') := fun w' => place_any _ _ w' (by omega) (by omega)
            have hw6 : IntKind.i64.wrap (lo + plc l[k] (hi - lo + 1)) = lo + plc l[k] (hi - lo + 1) := wrap_ok (by omega) (by omega)
            have HE : Hid (insL m.vars l (k + 1) = insL m.vars l k ++ [.int .i64 (lo + plc l[k] (hi - lo + 1))]) := by show _ = _; rw [insL_next, HV]
            clear hlc HV q1 q2
            generalize plc l[k] (hi - lo + 1) = pk at *
            generalize l[k] = lk at *
            go_wp2_with fail
            refine calls_at (HP.out _) (by with_reducible rfl) (by with_reducible rfl) ?_
            rintro e w' ⟨rfl, hww⟩
            rw [hww]
            clear hww
            generalize hvk : lo + pk = vk at *
            go_wp2_with (at_builtin; refine append_one wq (.int .i64 vk) rfl (.tmp 139) (.tmp 141) 27 3 (.int .i64 0) 8 rfl und27' info3' rfl w5.heap.size _ _ _ (by rfl) HOq.out rfl _ rfl (by rfl) (by unfold maxLen; omega) (by omega) HBq.out.size ?_; intro v6 w6 ho6 hg6 hn6)
            have HO6 : Hid (w6.ownsRow w5.heap.size 3 1 v6 (k + 1) (insL m.vars l (k + 1))) := by
              show World.ownsRow _ _ _ _ _ _ _
              rw [HE.out]; exact ho6
            have HT6 : Hid (Below w5.heap.size w5 w6) := (HBq.out.alloc HBq.out.size _).grown hg6 (by have := HBq.out.size; simp; omega) (fun g hg => (HOq.out.lt g hg).1)
            clear ho6 hg6 hn6
            go_wp2_with fail
            go_roundw
            case rel => exact ⟨k + 1, by go_num, by omega, by rw [HAn.out, HJ.out], HO6, HT6⟩
            case measure => simp [intOf]; omega
          · have hklI : ¬ (k : Int) < (l.length : Int) := by omega
            have HV := HIb.out hkl
            have HE : Hid (insL m.vars l (k + 1) = insL m.vars l k ++ [.int .i64 lo]) := by show _ = _; rw [insL_next, HV]
            clear HV
            go_wp2_with (at_builtin; refine append_one wq (.int .i64 lo) rfl (.tmp 139) (.tmp 141) 27 3 (.int .i64 0) 8 rfl und27' info3' rfl w5.heap.size _ _ _ (by rfl) HOq.out rfl _ rfl (by rfl) (by unfold maxLen; omega) (by omega) HBq.out.size ?_; intro v6 w6 ho6 hg6 hn6)
            have HO6 : Hid (w6.ownsRow w5.heap.size 3 1 v6 (k + 1) (insL m.vars l (k + 1))) := by
              show World.ownsRow _ _ _ _ _ _ _
              rw [HE.out]; exact ho6
            have HT6 : Hid (Below w5.heap.size w5 w6) := (HBq.out.alloc HBq.out.size _).grown hg6 (by have := HBq.out.size; simp; omega) (fun g hg => (HOq.out.lt g hg).1)
            clear ho6 hg6 hn6
            go_wp2_with fail
            go_roundw
            case rel => exact ⟨k + 1, by go_num, by omega, by rw [HAn.out, HJ.out], HO6, HT6⟩
            case measure => simp [intOf]; omega
    · have hkI : ¬ (k : Int) < (m.vars.length : Int) := by omega
      obtain rfl : k = m.vars.length := by omega
      obtain ⟨a8, c8, rfl⟩ := own_form hOw.out
      rename World => w7
      have HB7 : Hid (Below w5.heap.size w5 w7) := hBk.out
      have HLs : Hid (∀ w', Below w7.heap.size w7 w' → IntsAt w' (.slice a8 m.vars.length c8) (insI m.vars l)) := fun w' hb => by
        have ho := own_off (S := fun _ => False) hOw.out (fun _ _ h => h) (Off.of_below hb)
        rw [insL_eq] at ho
        have e := insI_len m.vars l
        exact own_ints' (l := insI m.vars l) (by rw [e]; exact ho) (by rw [e]; unfold maxLen; omega)
      have HIn : Hid (∀ x (h : x < m.vars.length) (h2 : x < (insI m.vars l).length), m.vars[x].lo ≤ (insI m.vars l)[x] ∧ (insI m.vars l)[x] ≤ m.vars[x].hi) := fun x hx h2 => by
        have hv := insV_in (l := l) hx (HR.out.var _ (List.getElem_mem hx)).2
        have e : (insI m.vars l)[x] = insV m.vars l x := by simp [insI]
        rw [e]
        exact hv
      have HB7w : Hid (∀ {w'}, Below w7.heap.size w7 w' → Below w5.heap.size w5 w') := fun hb => HB7.out.trans (hb.mono HB7.out.size)
      go_wp2_with fail
      clear p0 p1 p2 p3 hBk hOw
      go_loopw [9, 19] (fun nv xv wr => ∃ k : Nat, xv = .int .i64 (k : Int) ∧ k ≤ m.vars.length ∧ nv = .int .i64 (Od.aP m.vars m.cons k) ∧ Hid (Below w7.heap.size w7 wr)) (fun _ xv _ => m.vars.length - (intOf xv).toNat)
      case atStart => exact ⟨0, rfl, Nat.zero_le _, rfl, Below.refl _ _⟩
      case round =>
        obtain ⟨k, rfl, hk, rfl, hBk⟩ := hrel
        rename World => wr
        have HBk5 : Hid (Below w5.heap.size w5 wr) := HB7w.out hBk.out
        obtain ⟨⟨p0, p1, p2, p3⟩, _⟩ := box4 (HN.out wr (HBr.out HBk5.out))
        by_cases hlt : k < m.vars.length
        · have hkI : (k : Int) < (m.vars.length : Int) := by omega
          obtain ⟨d0, d1, d2⟩ := HVc.out wr HBk5.out k hlt
          have hLo := HG.out.b k hlt
          have hAb := Od.aP_bd HG.out m.cons k (by omega)
          have hAb2 := Od.aS_bd HG.out m.vars.length (Nat.le_refl _)
          have HAn : Hid (Od.aP m.vars m.cons (k + 1) = Od.aP m.vars m.cons k + (Od.pTo m.cons m.vars[k] k - m.vars[k].lo + 1)) := Od.aP_next hlt
          have HIs0 : Hid (Od.asked m.cons k = false → ∀ (v : Int) (w' : World), Below w5.heap.size w5 w' → Calls Try.prog 13 #[.pointer (some ⟨s.P, 0, none⟩), .int .i64 (k : Int), .int .i64 v] w' fun e w'' => e = .returned (.tuple #[.int .i64 0, .int .i64 0]) ∧ Below w'.heap.size w' w'') := fun ha v w' hb => by
            have := isO_any (HMk.out w' hb) k hlt v
            rw [Od.is_out hlt ha] at this
            exact this
          have HIs1 : Hid (Od.asked m.cons k = true → ∀ (j : Nat) (w' : World), (j : Int) < m.vars[k].hi - m.vars[k].lo + 1 → Below w5.heap.size w5 w' → Calls Try.prog 13 #[.pointer (some ⟨s.P, 0, none⟩), .int .i64 (k : Int), .int .i64 (m.vars[k].lo + (j : Int))] w' fun e w'' => e = .returned (.tuple #[.int .i64 (Od.aP m.vars m.cons k + (j : Int) + 1), .int .i64 1]) ∧ Below w'.heap.size w' w'') := fun ha j w' hj hb => by
            have := isO_any (HMk.out w' hb) k hlt (m.vars[k].lo + (j : Int))
            rw [Od.is_in HG.out hlt ha (by omega) (by omega), show Od.aP m.vars m.cons k + (m.vars[k].lo + (j : Int) - m.vars[k].lo) + 1 = Od.aP m.vars m.cons k + (j : Int) + 1 by omega] at this
            exact this
          have HTo1 : Hid (Od.asked m.cons k = true → Od.pTo m.cons m.vars[k] k = m.vars[k].hi) := fun ha => Od.asked_to hlt ha
          have HTo0 : Hid (Od.asked m.cons k = false → Od.pTo m.cons m.vars[k] k = m.vars[k].lo - 1) := fun ha => by unfold Od.pTo; rw [ha, if_neg (by simp)]
          have HOf : Hid (Od.asked m.cons k = true → ∀ (j : Nat) (w' : World), (j : Int) < m.vars[k].hi - m.vars[k].lo + 1 → Below w5.heap.size w5 w' → Calls Try.prog 11 #[.pointer (some ⟨s.P, 0, none⟩), .int .i64 (Od.aP m.vars m.cons k + (j : Int) + 1)] w' fun e w'' => e = .returned (.tuple #[.agg #[.int .i64 (k : Int), .int .i64 (m.vars[k].lo + (j : Int)), .bool true, .int .i64 0, .int .i64 0, .bool false], .bool true]) ∧ Below w'.heap.size w' w'') := fun ha j w' hj hb => (of_any (HMk.out w' hb) _).mono fun e w'' ⟨⟨mm, b, he, hs⟩, hb2⟩ => by
            obtain ⟨rfl, rfl⟩ := Od.of_point HG.out hs hlt (by omega) (by rw [HAn.out, HTo1.out ha]; omega)
            refine ⟨?_, hb2⟩
            rw [he]
            unfold mnVal
            simp only
            rw [show m.vars[k].lo + (Od.aP m.vars m.cons k + (j : Int) + 1 - Od.aP m.vars m.cons k - 1) = m.vars[k].lo + (j : Int) by omega]
          generalize Od.pTo m.cons m.vars[k] k = tt at *
          generalize m.vars[k].lo = lo at *
          generalize m.vars[k].hi = hi at *
          generalize Od.aP m.vars m.cons k = ap0 at *
          go_wp2_with fail
          go_quiet (fail)
          go_wp2_with fail
          obtain ⟨X, hX⟩ : ∃ X, wr.drewN nq = X := ⟨_, rfl⟩
          have HBX : Hid (Below w7.heap.size w7 X) := by show Below _ _ _; rw [← hX]; exact below_drewN hBk.out _
          try rw [hX]
          clear hX p0 p1 p2 p3 d0 d1 d2 hBk
          cases hb : Od.asked m.cons k
          · have Ht := HTo0.out hb
            have HI0 := HIs0.out hb lo X (HB7w.out HBX.out)
            have HE : Hid (Od.aP m.vars m.cons (k + 1) = ap0) := by show _ = _; rw [HAn.out, Ht]; omega
            refine calls_at HI0 (by with_reducible rfl) (by with_reducible rfl) ?_
            rintro e w8 ⟨rfl, hb8⟩
            have HB8 : Hid (Below w7.heap.size w7 w8) := HBX.out.trans (hb8.mono HBX.out.size)
            have hle : lo ≤ hi := hLo.2.2.1
            clear hb8 HI0 Ht hb
            go_wp2_with fail
            go_loopw [9, 24] (fun nv vv wq => nv = .int .i64 ap0 ∧ vv = .int .i64 lo ∧ Hid (Below w7.heap.size w7 wq)) (fun _ _ _ => 0)
            case atStart => exact ⟨rfl, rfl, HB8⟩
            case round =>
              obtain ⟨rfl, rfl, hBq⟩ := hrel
              go_wp2_with fail
              go_roundw
              case rel => exact ⟨k + 1, by go_num, by omega, by rw [HE.out], hBq⟩
              case measure => simp [intOf]; omega
          · have Ht := HTo1.out hb
            have HI1 : Hid (∀ (j : Nat) (w' : World), _ → _ → _) := HIs1.out hb
            have HOf1 : Hid (∀ (j : Nat) (w' : World), _ → _ → _) := HOf.out hb
            have HI0 := HI1.out 0 X (by omega) (HB7w.out HBX.out)
            simp only [Int.natCast_zero, Int.add_zero] at HI0
            have HE : Hid (Od.aP m.vars m.cons (k + 1) = ap0 + (hi - lo + 1)) := by show _ = _; rw [HAn.out, Ht]
            refine calls_at HI0 (by with_reducible rfl) (by with_reducible rfl) ?_
            rintro e w8 ⟨rfl, hb8⟩
            have HB8 : Hid (Below w7.heap.size w7 w8) := HBX.out.trans (hb8.mono HBX.out.size)
            clear hb8 HI0 Ht hb
            go_wp2_with fail
            go_loopw [9, 24] (fun nv vv wq => ∃ j : Nat, vv = .int .i64 (lo + (j : Int)) ∧ (j : Int) ≤ hi - lo + 1 ∧ nv = .int .i64 (ap0 + (j : Int)) ∧ Hid (Below w7.heap.size w7 wq)) (fun _ vv _ => (hi + 1 - intOf vv).toNat)
            case atStart => exact ⟨0, by simp, by omega, by simp, HB8⟩
            case round =>
              obtain ⟨j, rfl, hj, rfl, hBj⟩ := hrel
              rename World => wq
              by_cases hjl : (j : Int) < hi - lo + 1
              · have hjI : lo + (j : Int) ≤ hi := by omega
                have hjB : decide (lo + (j : Int) ≤ hi) = true := decide_eq_true hjI
                have hw2 : IntKind.i64.wrap (ap0 + (j : Int) + 1) = ap0 + (j : Int) + 1 := wrap_ok (by omega) (by omega)
                have hw3 : IntKind.i64.wrap (lo + (j : Int) + 1) = lo + (j : Int) + 1 := wrap_ok (by omega) (by omega)
                have hneq := mn_same (k : Int) (lo + (j : Int)) true 0 0 false
                have hn2 : (ap0 + (j : Int) + 1 != ap0 + (j : Int) + 1) = false := by simp
                go_wp2_with fail
                refine calls_at (HI1.out j wq hjl (HB7w.out hBj.out)) (by with_reducible rfl) (by with_reducible rfl) ?_
                rintro e w9 ⟨rfl, hb9⟩
                have HB9 : Hid (Below w7.heap.size w7 w9) := hBj.out.trans (hb9.mono hBj.out.size)
                clear hb9
                go_wp2_with fail
                refine calls_at (HOf1.out j w9 hjl (HB7w.out HB9.out)) (by with_reducible rfl) (by with_reducible rfl) ?_
                rintro e wa ⟨rfl, hba⟩
                have HBa : Hid (Below w7.heap.size w7 (wa.alloc (.cells #[.int .i64 (k : Int), .int .i64 (lo + (j : Int)), .bool true, .int .i64 0, .int .i64 0, .bool false] 42))) := (HB9.out.trans (hba.mono HB9.out.size)).alloc (HB9.out.trans (hba.mono HB9.out.size)).size _
                clear hba
                go_wp2_with fail
                go_roundw
                case rel => exact ⟨j + 1, by simp; omega, by simp; omega, by simp; omega, HBa⟩
                case measure => simp [intOf]; omega
              · have hjI : ¬ lo + (j : Int) ≤ hi := by omega
                have hjB : decide (lo + (j : Int) ≤ hi) = false := decide_eq_false hjI
                have HJ : Hid ((hi - lo + 1 : Int) = (j : Int)) := by show _ = _; omega
                go_wp2_with fail
                go_roundw
                case rel => exact ⟨k + 1, by go_num, by omega, by rw [HE.out, HJ.out], hBj⟩
                case measure => simp [intOf]; omega
        · have hkI : ¬ (k : Int) < (m.vars.length : Int) := by omega
          obtain rfl : k = m.vars.length := by omega
          rename World => wb
          have HAs : Hid (Calls Try.prog 14 #[.pointer (some ⟨s.P, 0, none⟩), .slice a8 m.vars.length c8] wb (AsgOut m.vars m.cons (insI m.vars l) wb)) := assignment_any (HMk.out wb HBk5.out) _ (insI m.vars l) (HLs.out wb hBk.out) (insI_len _ _) HIn.out
          go_wp2_with fail
          refine calls_at HAs.out (by with_reducible rfl) (by with_reducible rfl) ?_
          rintro e wx ⟨⟨S, N, g, rfl, hNe, hRb, hGV, hGK⟩, hbx⟩
          have HBx : Hid (Below w7.heap.size w7 wx) := hBk.out.trans (hbx.mono hBk.out.size)
          have HBx5 : Hid (Below w5.heap.size w5 wx) := HB7w.out HBx.out
          have HRb : Hid (∀ w', Below wx.heap.size wx w' → BoolsIs w' S N g) := fun w' hb => hRb.next hb
          have HNe : Hid ((N : Int) = Od.aK m.vars m.cons m.cons.length) := hNe
          have HGV : Hid (Od.GV m.vars m.cons (insI m.vars l) g m.vars.length) := hGV
          have HGK : Hid (Od.GK m.vars m.cons (insI m.vars l) g m.cons.length) := hGK
          have HBxw : Hid (∀ {w'}, Below wx.heap.size wx w' → Below w7.heap.size w7 w') := fun hb => HBx.out.trans (hb.mono HBx.out.size)
          clear hNe hRb hGV hGK hbx p0 p1 p2 p3 HAs hBk HBk5
          go_wp2_with fail
          go_loopw [9, 31] (fun nv xv wr => ∃ k : Nat, xv = .int .i64 (k : Int) ∧ k ≤ m.cons.length ∧ nv = .int .i64 (Od.aK m.vars m.cons k) ∧ Hid (Below wx.heap.size wx wr)) (fun _ xv _ => m.cons.length - (intOf xv).toNat)
          case atStart => exact ⟨0, rfl, Nat.zero_le _, rfl, Below.refl _ _⟩
          case round =>
            obtain ⟨k, rfl, hk, rfl, hBk⟩ := hrel
            rename World => wr
            have HBk5 : Hid (Below w5.heap.size w5 wr) := HB7w.out (HBxw.out hBk.out)
            obtain ⟨⟨p0, p1, p2, p3⟩, _⟩ := box4 (HN.out wr (HBr.out HBk5.out))
            by_cases hlt : k < m.cons.length
            · have hkI : (k : Int) < (m.cons.length : Int) := by omega
              obtain ⟨b, off, vt, vx, vb, vr, rfl, hal⟩ := cons_all (HCo.out wx HBx5.out) k hlt
              obtain ⟨hCn, d0, d1, d2, d3, d4, d5, d6, d7, d8, d9⟩ := hal wr hBk.out
              have HAl : Hid (∀ w', Below wx.heap.size wx w' → CnAt w' m.cons[k] vt vx vb vr) := fun w' hb => (hal w' hb).1
              have hAb := Od.aK_bd HG.out HGC.out k (by omega)
              have hAb2 := Od.aP_bd HG.out m.cons m.vars.length (Nat.le_refl _)
              have hAb3 := Od.aS_bd HG.out m.vars.length (Nat.le_refl _)
              have HrN : Hid (m.cons[k].rows.length = Od.rN m.cons[k]) := by
                show _ = _
                unfold Od.rN
                split
                · rfl
                · rename_i h8; rw [HGC.out.o k hlt h8]; rfl
              have HAn : Hid (Od.aK m.vars m.cons (k + 1) = Od.aK m.vars m.cons k + (m.cons[k].rows.length : Int)) := by show _ = _; rw [Od.aK_next hlt, HrN.out]
              have HNb : Hid (Od.aK m.vars m.cons k + (m.cons[k].rows.length : Int) ≤ (N : Int)) := by
                have := Od.aK_mono (vs := m.vars) (cs := m.cons) (x := k + 1) (y := m.cons.length) (by omega) (Nat.le_refl _)
                rw [HAn.out, ← HNe.out] at this
                exact this
              have HPk : Hid (∀ (r : Nat) (w' : World), r < m.cons[k].rows.length → Below w5.heap.size w5 w' → Calls Try.prog 15 #[.pointer (some ⟨s.P, 0, none⟩), .int .i64 (k : Int), .int .i64 (r : Int)] w' fun e w'' => e = .returned (.tuple #[.int .i64 (Od.aK m.vars m.cons k + (r : Int) + 1), .int .i64 1]) ∧ Below w'.heap.size w' w'') := fun r w' hr hb => by
                have := pickO_any (HMk.out w' hb) k hlt (r : Int)
                rw [Od.pick_in hlt (by rw [← HrN.out]; exact hr)] at this
                exact this
              have HOf : Hid (∀ (r : Nat) (w' : World), r < m.cons[k].rows.length → Below w5.heap.size w5 w' → Calls Try.prog 11 #[.pointer (some ⟨s.P, 0, none⟩), .int .i64 (Od.aK m.vars m.cons k + (r : Int) + 1)] w' fun e w'' => e = .returned (.tuple #[.agg #[.int .i64 0, .int .i64 0, .bool false, .int .i64 (k : Int), .int .i64 (r : Int), .bool true], .bool true]) ∧ Below w'.heap.size w' w'') := fun r w' hr hb => (of_any (HMk.out w' hb) _).mono fun e w'' ⟨⟨mm, b, he, hs⟩, hb2⟩ => by
                obtain ⟨rfl, rfl⟩ := Od.of_pick HG.out HGC.out hs hlt (by omega) (by rw [HAn.out]; omega)
                refine ⟨?_, hb2⟩
                rw [he]
                unfold mnVal
                simp only
                rw [show Od.aK m.vars m.cons k + (r : Int) + 1 - Od.aK m.vars m.cons k - 1 = (r : Int) by omega]
              have HSay : Hid (∀ (r : Nat) (hr : r < m.cons[k].rows.length) (q : Nat), (q : Int) = Od.aK m.vars m.cons k + (r : Int) → g q = (List.range m.cons[k].xs.length).all fun j => Md.val (insI m.vars l) (m.cons[k].xs.getD j 0) == m.cons[k].rows[r].getD j 0) := fun r hr q hq => by
                have h8 : m.cons[k].kind = 8 := by
                  by_cases h8 : m.cons[k].kind = 8
                  · exact h8
                  · have := HGC.out.o k hlt h8; rw [this] at hr; exact absurd hr (Nat.not_lt_zero _)
                have h1 := HGK.out k hlt hlt r (by rw [← HrN.out]; exact hr)
                have e : (Od.aK m.vars m.cons k).toNat + r = q := by omega
                rw [e] at h1
                rw [h1]
                exact Od.pick_says h8 (HGC.out.t k hlt h8).1 hr ((HGC.out.t k hlt h8).2 _ (List.getElem_mem hr))
              have HXs : Hid (∀ y ∈ m.cons[k].xs, 0 ≤ y ∧ y < (m.vars.length : Int)) := HGC.out.x k hlt
              have HRr : Hid (m.cons[k].rows.length ≤ 1000000) := HGC.out.r k hlt
              have HRl : Hid (∀ (r : Nat) (hr : r < m.cons[k].rows.length), m.cons[k].rows[r].length = m.cons[k].xs.length) := fun r hr => by
                by_cases h8 : m.cons[k].kind = 8
                · exact (HGC.out.t k hlt h8).2 _ (List.getElem_mem hr)
                · have := HGC.out.o k hlt h8; simp only [this] at hr; exact absurd hr (Nat.not_lt_zero _)
              clear hal HrN
              generalize m.cons[k] = c at *
              generalize Od.aK m.vars m.cons k = ak at *
              obtain ⟨xa, xc, rfl, hxm⟩ := hCn.x.form
              obtain ⟨ta, tc, rfl, _⟩ := hCn.t.form
              obtain ⟨ba, bc, rfl, _⟩ := hCn.b.form
              obtain ⟨ra, rc, rfl, hrm⟩ := hCn.r.form
              unfold maxLen at hxm hrm
              obtain ⟨X, hX⟩ : ∃ X, wr.alloc (.cells #[.int .i64 c.kind, .int .i64 c.op, .slice ta c.terms.length tc, .int .i64 c.k, .int .i64 c.v, .int .i64 c.x, .int .i64 c.y, .slice xa c.xs.length xc, .slice ba c.table.length bc, .slice ra c.rows.length rc] 51) = X := ⟨_, rfl⟩
              have hbX : Below wr.heap.size wr X := by rw [← hX]; exact (Below.refl _ _).alloc (Nat.le_refl _) _
              have hNX : X.heap[wr.heap.size]? = some (.cells #[.int .i64 c.kind, .int .i64 c.op, .slice ta c.terms.length tc, .int .i64 c.k, .int .i64 c.v, .int .i64 c.x, .int .i64 c.y, .slice xa c.xs.length xc, .slice ba c.table.length bc, .slice ra c.rows.length rc] 51) := by rw [← hX]; exact heap_alloc_new wr _
              have HBX : Hid (Below wx.heap.size wx X) := hBk.out.trans (hbX.mono hBk.out.size)
              have HNX : Hid (∀ w', Below X.heap.size X w' → w'.heap[wr.heap.size]? = some (.cells #[.int .i64 c.kind, .int .i64 c.op, .slice ta c.terms.length tc, .int .i64 c.k, .int .i64 c.v, .int .i64 c.x, .int .i64 c.y, .slice xa c.xs.length xc, .slice ba c.table.length bc, .slice ra c.rows.length rc] 51)) := fun w' hb => (hb.block _ (Array.getElem?_eq_some_iff.1 hNX).1).trans hNX
              have HBXw : Hid (∀ {w'}, Below X.heap.size X w' → Below wx.heap.size wx w') := fun hb => HBX.out.trans (hb.mono HBX.out.size)
              clear hbX hNX hCn
              go_wp2_with fail
              clear p0 p1 p2 p3 d0 d1 d2 d3 d4 d5 d6 d7 d8 d9 hX
              go_loopw [9, 33] (fun nv rv wq => ∃ r : Nat, rv = .int .i64 (r : Int) ∧ r ≤ c.rows.length ∧ nv = .int .i64 (ak + (r : Int)) ∧ Hid (Below X.heap.size X wq)) (fun _ rv _ => c.rows.length - (intOf rv).toNat)
              case atStart => exact ⟨0, rfl, Nat.zero_le _, by simp, Below.refl _ _⟩
              case round =>
                obtain ⟨r, rfl, hr, rfl, hBr⟩ := hrel
                rename World => wq
                obtain ⟨⟨p0, p1, p2, p3, p4, p5, p6, p7, p8, p9⟩, _⟩ := box10 (HNX.out wq hBr.out)
                by_cases hrl : r < c.rows.length
                · have hrI : (r : Int) < (c.rows.length : Int) := by omega
                  have hNb := HNb.out
                  have hNb2 : c.rows.length ≤ 1000000 := HRr.out
                  have hw2 : IntKind.i64.wrap (ak + (r : Int) + 1) = ak + (r : Int) + 1 := wrap_ok (by omega) (by omega)
                  have hneq := mn_same 0 0 false (k : Int) (r : Int) true
                  have hn2 : (ak + (r : Int) + 1 != ak + (r : Int) + 1) = false := by simp
                  have hNl : ¬ (N : Int) < ak + (r : Int) + 1 := by omega
                  clear p0 p1 p2 p3 p4 p5 p6 p8
                  go_wp2_with fail
                  refine calls_at (HPk.out r wq hrl (HB7w.out (HBxw.out (HBXw.out hBr.out)))) (by with_reducible rfl) (by with_reducible rfl) ?_
                  rintro e w9 ⟨rfl, hb9⟩
                  have HB9 : Hid (Below X.heap.size X w9) := hBr.out.trans (hb9.mono hBr.out.size)
                  clear hb9 p7 p9
                  go_wp2_with fail
                  refine calls_at (HOf.out r w9 hrl (HB7w.out (HBxw.out (HBXw.out HB9.out)))) (by with_reducible rfl) (by with_reducible rfl) ?_
                  rintro e wa ⟨rfl, hba⟩
                  obtain ⟨Y, hY⟩ : ∃ Y, wa.alloc (.cells #[.int .i64 0, .int .i64 0, .bool false, .int .i64 (k : Int), .int .i64 (r : Int), .bool true] 42) = Y := ⟨_, rfl⟩
                  have HBY : Hid (Below X.heap.size X Y) := by show Below _ _ _; rw [← hY]; exact (HB9.out.trans (hba.mono HB9.out.size)).alloc (HB9.out.trans (hba.mono HB9.out.size)).size _
                  have hYN : Y.heap[wa.heap.size]? = some (.cells #[.int .i64 0, .int .i64 0, .bool false, .int .i64 (k : Int), .int .i64 (r : Int), .bool true] 42) := by rw [← hY]; exact heap_alloc_new wa _
                  obtain ⟨⟨y0, y1, y2, y3, y4, y5⟩, _⟩ := box6 hYN
                  clear hba hYN
                  go_wp2_with fail
                  clear y0 y1 y2 y3 y4 y5 hY hneq hn2
                  go_loopw [38, 39] (fun iv jv wz => ∃ j : Nat, jv = .int .i64 (j : Int) ∧ j ≤ c.xs.length ∧ iv = .bool ((List.range j).all fun j => Md.val (insI m.vars l) (c.xs.getD j 0) == c.rows[r].getD j 0) ∧ Hid (Below Y.heap.size Y wz)) (fun _ jv _ => c.xs.length - (intOf jv).toNat)
                  case atStart => exact ⟨0, rfl, Nat.zero_le _, rfl, Below.refl _ _⟩
                  case round =>
                    obtain ⟨j, rfl, hj, rfl, hBj⟩ := hrel
                    rename World => wz
                    have HBz : Hid (Below X.heap.size X wz) := HBY.out.trans (hBj.out.mono HBY.out.size)
                    have HNxt : Hid (((List.range (j + 1)).all fun j => Md.val (insI m.vars l) (c.xs.getD j 0) == c.rows[r].getD j 0) = (((List.range j).all fun j => Md.val (insI m.vars l) (c.xs.getD j 0) == c.rows[r].getD j 0) && (Md.val (insI m.vars l) (c.xs.getD j 0) == c.rows[r].getD j 0))) := by show _ = _; rw [List.range_succ, List.all_append]; simp
                    obtain ⟨⟨p0, p1, p2, p3, p4, p5, p6, p7, p8, p9⟩, _⟩ := box10 (HNX.out wz HBz.out)
                    clear p0 p1 p2 p3 p4 p5 p6 p8
                    by_cases hjl : j < c.xs.length
                    · have hjI : (j : Int) < (c.xs.length : Int) := by omega
                      cases hal : (List.range j).all fun j => Md.val (insI m.vars l) (c.xs.getD j 0) == c.rows[r].getD j 0
                      · have HF : Hid (((List.range (j + 1)).all fun j => Md.val (insI m.vars l) (c.xs.getD j 0) == c.rows[r].getD j 0) = false) := by show _ = _; rw [HNxt.out, hal]; rfl
                        clear hal
                        go_wp2_with fail
                        go_quiet (fail)
                        go_wp2_with fail
                        go_roundw
                        case rel => exact ⟨j + 1, by go_num, by omega, by rw [HF.out], below_drewN hBj.out _⟩
                        case measure => simp [intOf]; omega
                      · have hz7 := HB7w.out (HBxw.out (HBXw.out HBz.out))
                        have hCz := HAl.out wz (HBXw.out HBz.out)
                        obtain ⟨xb, xo, rfl, _, hxc⟩ := ints_all hCz.x (by omega)
                        have x0 := hxc j hjl
                        obtain ⟨yy0, yy1⟩ := HXs.out _ (List.getElem_mem hjl)
                        obtain ⟨y, hy⟩ : ∃ y : Nat, c.xs[j] = (y : Int) := ⟨c.xs[j].toNat, by omega⟩
                        have hyl : y < (insI m.vars l).length := by rw [insI_len]; omega
                        have hIz := HLs.out wz (HBxw.out (HBXw.out HBz.out))
                        obtain ⟨lb, lo, rfl, _, hlc⟩ := ints_all hIz (by omega)
                        have l0 := hlc y hyl
                        obtain ⟨_, _, hre, _, hrc⟩ := hCz.r
                        injection hre with e1 _ e3
                        subst e1 e3
                        obtain ⟨rb, ro, rfl, _, hrcc⟩ := hrc (by omega)
                        obtain ⟨u, r0, hIu⟩ := hrcc r hrl
                        obtain ⟨ua, uc, rfl, _⟩ := hIu.form
                        have hul := HRl.out r hrl
                        have hju : j < c.rows[r].length := by omega
                        obtain ⟨ub, uo, rfl, _, huc⟩ := ints_all hIu (by omega)
                        have u0 := huc j hju
                        have hv1 : Md.val (insI m.vars l) (c.xs.getD j 0) = (insI m.vars l)[y] := by
                          have e : c.xs.getD j 0 = (y : Int) := by rw [List.getD_eq_getElem?_getD, List.getElem?_eq_getElem hjl]; exact hy
                          rw [e]
                          simp [Md.val, List.getD_eq_getElem?_getD, hyl]
                        have hv2 : c.rows[r].getD j 0 = c.rows[r][j] := by rw [List.getD_eq_getElem?_getD, List.getElem?_eq_getElem hju]; rfl
                        obtain ⟨bb, hbb⟩ : ∃ b, ((insI m.vars l)[y] == c.rows[r][j]) = b := ⟨_, rfl⟩
                        have HF : Hid (((List.range (j + 1)).all fun j => Md.val (insI m.vars l) (c.xs.getD j 0) == c.rows[r].getD j 0) = bb) := by show _ = _; rw [HNxt.out, hal, hv1, hv2, hbb]; rfl
                        rw [hy] at x0
                        have hyI : (y : Int) < (m.vars.length : Int) := by rw [insI_len] at hyl; omega
                        have hjuI : (j : Int) < (c.rows[r].length : Int) := by omega
                        clear hal hxc hlc hrc hrcc huc hIu hCz hIz yy0 yy1 hy hul hv1 hv2 hz7
                        generalize (insI m.vars l)[y] = lv at *
                        generalize c.rows[r][j] = rv at *
                        generalize c.rows[r].length = rlen at *
                        go_wp2_with fail
                        go_quiet (fail)
                        go_wp2_with fail
                        try rw [hbb]
                        clear hbb
                        go_roundw
                        case rel => exact ⟨j + 1, by go_num, by omega, by rw [HF.out], below_drewN hBj.out _⟩
                        case measure => simp [intOf]; omega
                    · have hjI : ¬ (j : Int) < (c.xs.length : Int) := by omega
                      obtain rfl : j = c.xs.length := by omega
                      obtain ⟨q, hq⟩ : ∃ q : Nat, (q : Int) = ak + (r : Int) := ⟨(ak + (r : Int)).toNat, by omega⟩
                      have hgq := HSay.out r hrl q hq
                      have hqN : q < N := by omega
                      have sc := World.rowIs.cell (HRb.out wz (HBXw.out HBz.out)) (i := q) hqN
                      rw [hgq] at sc
                      have hwq : IntKind.i64.wrap (ak + (r : Int) + 1 - 1) = (q : Int) := by rw [show ak + (r : Int) + 1 - 1 = (q : Int) by omega]; exact wrap_ok (by omega) (by omega)
                      have hwq2 : IntKind.i64.wrap (ak + (r : Int)) = (q : Int) := by rw [← hq]; exact wrap_ok (by omega) (by omega)
                      have hqI : (q : Int) < (N : Int) := by omega
                      obtain ⟨bb, hbb⟩ : ∃ b, ((List.range c.xs.length).all fun j => Md.val (insI m.vars l) (c.xs.getD j 0) == c.rows[r].getD j 0) = b := ⟨_, rfl⟩
                      rw [hbb] at sc ⊢
                      have hbn : (bb != bb) = false := by simp
                      clear hgq hq hbb HNxt
                      go_wp2_with fail
                      go_roundw
                      case rel => exact ⟨r + 1, by go_num, by omega, by simp; omega, HBz⟩
                      case measure => simp [intOf]; omega
                · have hrI : ¬ (r : Int) < (c.rows.length : Int) := by omega
                  obtain rfl : r = c.rows.length := by omega
                  go_wp2_with fail
                  go_roundw
                  case rel => exact ⟨k + 1, by go_num, by omega, by rw [HAn.out], HBXw.out hBr.out⟩
                  case measure => simp [intOf]; omega
            · have hkI : ¬ (k : Int) < (m.cons.length : Int) := by omega
              obtain rfl : k = m.cons.length := by omega
              have hVL : Od.valL m.vars g = insI m.vars l := Od.valL_back HG.out HGV.out (insI_len _ _) HIn.out
              have HVa : Hid (Calls Try.prog 16 #[.pointer (some ⟨s.P, 0, none⟩), .slice (some ⟨S, 0, none⟩) N N] wr (ValsOut (insI m.vars l) wr)) := by
                have := values_any (HMk.out wr HBk5.out) S N N g HNe.out (Nat.le_refl _) (HRb.out wr hBk.out)
                rw [hVL] at this; exact this
              clear hVL
              go_wp2_with fail
              refine calls_at HVa.out (by with_reducible rfl) (by with_reducible rfl) ?_
              rintro e wv ⟨⟨v7, rfl, hI7⟩, hb7⟩
              have HBv : Hid (Below wx.heap.size wx wv) := hBk.out.trans (hb7.mono hBk.out.size)
              have HCt : Hid (Calls Try.prog 17 #[.pointer (some ⟨s.P, 0, none⟩)] wv fun e w' => e = .returned (.int .i64 (Od.aK m.vars m.cons m.cons.length)) ∧ w' = wv) := count_any (HMk.out wv (HB7w.out (HBxw.out HBv.out)))
              have HSa : Hid (Calls Try.prog 18 #[v7, .slice a8 m.vars.length c8] wv fun e w' => e = .returned (.bool true) ∧ Below wv.heap.size wv w') := same_any _ _ (insI m.vars l) wv hI7 (HLs.out wv (HBxw.out HBv.out))
              obtain ⟨a7, c7, rfl, _⟩ := hI7.form
              have hEq : (Od.aK m.vars m.cons m.cons.length == Od.aK m.vars m.cons m.cons.length) = true := by simp
              clear hb7 hI7 p0 p1 p2 p3 HVa
              generalize Od.aK m.vars m.cons m.cons.length = cnt at *
              go_wp2_with (first | (go_at_call 17; refine calls_at HCt.out (by with_reducible rfl) (by with_reducible rfl) ?_; rintro e w' ⟨rfl, hww⟩; rw [hww]; clear hww) | fail)
              refine calls_at HSa.out (by with_reducible rfl) (by with_reducible rfl) ?_
              rintro e wf ⟨rfl, hbf⟩
              go_wp2_with fail
              go_ret
              exact ⟨rfl, HBw.out (HBr.out (HB7w.out (HBxw.out (HBv.out.trans (hbf.mono HBv.out.size)))))⟩
end Go.Proofs.Ytkgeknlmkkoobaa
