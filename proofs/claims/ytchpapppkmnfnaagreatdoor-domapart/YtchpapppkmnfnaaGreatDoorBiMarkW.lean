/-
  The book: markInts.
-/
import Derived.Test.YtchpapppkmnfnaaGreatDoorJ45
namespace Go.Proofs.YtchpapppkmnfnaaGreatDoor
open Go.RowKit

theorem bg_at {B P : Nat} {S : Nat → Prop} {w0 w : World} {turn deep : Int} {t : Tx} {L : List Rw} {g n cap k : Nat} {e : TypeId} {xs : List Value} {v : Value} (hv : xs[k]? = some v) (h : Bg B S w0 w P turn deep t L) (hx : (.slice (some ⟨g, 0, none⟩) n cap, e, xs) ∈ L) : w.cell? ⟨g, k, none⟩ = some v := by
  rcases own_cells (h.row hx) with ⟨e1, e2⟩ | ⟨g', cap', e1, _, _, _, hc⟩
  · cases e1
  · injection e1 with e1 _ _
    injection e1 with e1
    injection e1 with e1
    subst e1
    exact hc k v hv
theorem bg_free {B P : Nat} {S : Nat → Prop} {w0 w : World} {turn deep : Int} {t : Tx} {L : List Rw} {g n cap : Nat} {e : TypeId} {xs : List Value} (h : Bg B S w0 w P turn deep t L) (hx : (.slice (some ⟨g, 0, none⟩) n cap, e, xs) ∈ L) (i : Nat) : w.frozen? ⟨g, i, none⟩ = false := by
  obtain ⟨cur, hc⟩ := row_type (h.row hx) rfl
  simp [World.frozen?, hc]
theorem bg_set2 {B P : Nat} {S : Nat → Prop} {w0 w : World} {turn deep : Int} {t : Tx} {A C : List Rw} {g cap n : Nat} {ty : TypeId} {xs : List Value} {i : Nat} {u : Value} (hn : xs.length = n) (h : Bg B S w0 w P turn deep t (A ++ (.slice (some ⟨g, 0, none⟩) n cap, ty, xs) :: C)) (hi : i < n) : Bg B S w0 (w.setCell ⟨g, i, none⟩ u) P turn deep t (A ++ (.slice (some ⟨g, 0, none⟩) n cap, ty, xs.set i u) :: C) := by
  subst hn
  exact bg_set h hi
/-- What is known of the lists. -/
structure MF (q kp : List Wt) (fl : List (Value × List Int)) (fs : List Int) (ts : List Value) (Y : List Rw) (k : Nat) : Prop where
  lens : ts.length = fl.length ∧ fs.length = fl.length ∧ fl.length ≤ k ∧ kp.length ≤ k ∧ fl.length + kp.length = k
  inn : ∀ x ∈ kp, x ∈ q
  few : ∀ p ∈ fl, p.2.length ≤ 90000
  mkb : ∀ m ∈ fs, -1000000 ≤ m ∧ m ≤ 1000000
  told : ∀ j (h1 : j < ts.length) (h2 : j < fl.length), (ts[j], 3, ic fl[j].2) ∈ Y
/-- k lists are seen. -/
structure MI (B : Nat) (S : Nat → Prop) (w0 w : World) (P : Nat) (turn : Int) (sn oW oN oM oD : Value) (xO xT : List Value) (q : List Wt) (X : List Rw) (k : Nat) : Prop where
  ex : ∃ (vO vT vW vN vF vM vD vR : Value) (kp : List Wt) (fl : List (Value × List Int)) (fs : List Int) (ts : List Value) (Y : List Rw), Bg B S w0 w P turn 0 ⟨vO, vT, vW, vN, vF, vM, vD, vR, sn⟩ ((vO, 42, xO ++ fl.map (·.1)) :: (vT, 42, xT ++ ts) :: (vW, 42, kp.map (·.l)) :: (vN, 42, kp.map (·.n)) :: (vM, 3, ic (kp.map (·.m))) :: (vD, 3, ic (kp.map (·.d))) :: (vF, 42, fl.map (·.1)) :: (vR, 3, ic fs) :: (oW, 42, q.map (·.l)) :: (oN, 42, q.map (·.n)) :: (oM, 3, ic (q.map (·.m))) :: (oD, 3, ic (q.map (·.d))) :: (Y ++ (fl.map rwOf ++ (kp.flatMap wrows ++ ((q.drop k).flatMap wrows ++ X))))) ∧ MF q kp fl fs ts Y k

set_option maxRecDepth 10000 in
set_option maxHeartbeats 8000000 in
theorem markInts_loop {B P : Nat} {S : Nat → Prop} {turn : Int} {sn vO vT oW oN oM oD : Value} {xO xT : List Value} {q : List Wt} {X : List Rw} (w0 w : World) (h : Bg B S w0 w P turn 0 ⟨vO, vT, oW, oN, .slice none 0 0, oM, oD, .slice none 0 0, sn⟩ ((vO, 42, xO) :: (vT, 42, xT) :: (oW, 42, q.map (·.l)) :: (oN, 42, q.map (·.n)) :: (oM, 3, ic (q.map (·.m))) :: (oD, 3, ic (q.map (·.d))) :: (q.flatMap wrows ++ X))) (hq : 0 < q.length) (hl : xO.length ≤ 1000000 ∧ xT.length ≤ 1000000 ∧ q.length ≤ 1000000) (hc : ∀ x ∈ q, x.c.length ≤ 90000 ∧ -1000000 ≤ x.m ∧ x.m ≤ 1000000) : Calls Tryz.prog 128 #[.pointer (some ⟨P, 0, none⟩)] w fun e w' => e = .returned (.tuple #[]) ∧ MI B S w0 w' P turn sn oW oN oM oD xO xT q X q.length := by
  obtain ⟨N, hN⟩ : ∃ N, q.length = N := ⟨_, rfl⟩
  have form : ∀ {v : Value} {e : TypeId} {xs : List Value}, w.ownsRow 0 e 1 v xs.length xs → xs.length = N → ∃ g c, v = .slice (some ⟨g, 0, none⟩) N c := by
    intro v e xs hr hx
    rcases hr.2 with ⟨_, e2⟩ | ⟨g, cap, cur, e1, _⟩
    · omega
    · exact ⟨g, cap, by rw [e1, hx]⟩
  obtain ⟨gW, cW, rfl⟩ := form (h.row (x := (oW, 42, q.map (·.l))) (by simp)) (by simpa using hN)
  obtain ⟨gN, cN, rfl⟩ := form (h.row (x := (oN, 42, q.map (·.n))) (by simp)) (by simpa using hN)
  obtain ⟨gM, cM, rfl⟩ := form (h.row (x := (oM, 3, ic (q.map (·.m)))) (by simp)) (by simpa [ic] using hN)
  obtain ⟨gD, cD, rfl⟩ := form (h.row (x := (oD, 3, ic (q.map (·.d)))) (by simp)) (by simpa [ic] using hN)
  clear form
  have k6 := h.cell 6 (.slice (some ⟨gW, 0, none⟩) N cW) rfl
  have k7 := h.cell 7 (.slice (some ⟨gN, 0, none⟩) N cN) rfl
  have k9 := h.cell 9 (.slice (some ⟨gM, 0, none⟩) N cM) rfl
  have k10 := h.cell 10 (.slice (some ⟨gD, 0, none⟩) N cD) rfl
  have f6 := h.free 6
  obtain ⟨W1, hW1⟩ : ∃ W, w.setCell ⟨P, 6, none⟩ (.slice none 0 0) = W := ⟨_, rfl⟩
  have b1 := h.put (t' := ⟨vO, vT, .slice none 0 0, .slice (some ⟨gN, 0, none⟩) N cN, .slice none 0 0, .slice (some ⟨gM, 0, none⟩) N cM, .slice (some ⟨gD, 0, none⟩) N cD, .slice none 0 0, sn⟩) 6 (.slice none 0 0) rfl
  rw [hW1] at b1
  have j7 := b1.cell 7 (.slice (some ⟨gN, 0, none⟩) N cN) rfl
  have f7 := b1.free 7
  obtain ⟨W2, hW2⟩ : ∃ W, W1.setCell ⟨P, 7, none⟩ (.slice none 0 0) = W := ⟨_, rfl⟩
  have b2 := b1.put (t' := ⟨vO, vT, .slice none 0 0, .slice none 0 0, .slice none 0 0, .slice (some ⟨gM, 0, none⟩) N cM, .slice (some ⟨gD, 0, none⟩) N cD, .slice none 0 0, sn⟩) 7 (.slice none 0 0) rfl
  rw [hW2] at b2
  have j9 := b2.cell 9 (.slice (some ⟨gM, 0, none⟩) N cM) rfl
  have f9 := b2.free 9
  obtain ⟨W3, hW3⟩ : ∃ W, W2.setCell ⟨P, 9, none⟩ (.slice none 0 0) = W := ⟨_, rfl⟩
  have b3 := b2.put (t' := ⟨vO, vT, .slice none 0 0, .slice none 0 0, .slice none 0 0, .slice none 0 0, .slice (some ⟨gD, 0, none⟩) N cD, .slice none 0 0, sn⟩) 9 (.slice none 0 0) rfl
  rw [hW3] at b3
  have j10 := b3.cell 10 (.slice (some ⟨gD, 0, none⟩) N cD) rfl
  have f10 := b3.free 10
  obtain ⟨W4, hW4⟩ : ∃ W, W3.setCell ⟨P, 10, none⟩ (.slice none 0 0) = W := ⟨_, rfl⟩
  have b4 := b3.put (t' := ⟨vO, vT, .slice none 0 0, .slice none 0 0, .slice none 0 0, .slice none 0 0, .slice none 0 0, .slice none 0 0, sn⟩) 10 (.slice none 0 0) rfl
  rw [hW4] at b4
  have HM0 : Hid (MI B S w0 W4 P turn sn (.slice (some ⟨gW, 0, none⟩) N cW) (.slice (some ⟨gN, 0, none⟩) N cN) (.slice (some ⟨gM, 0, none⟩) N cM) (.slice (some ⟨gD, 0, none⟩) N cD) xO xT q X 0) := by
    refine ⟨vO, vT, .slice none 0 0, .slice none 0 0, .slice none 0 0, .slice none 0 0, .slice none 0 0, .slice none 0 0, [], [], [], [], [], ?_, ⟨rfl, rfl, Nat.zero_le _, Nat.zero_le _, rfl⟩, by simp, by simp, by simp, fun j h1 _ => absurd h1 (Nat.not_lt_zero _)⟩
    have nil : ∀ {e : TypeId} {L : List Rw}, (e = 42 ∨ e = 3) → Bg B S w0 W4 P turn 0 ⟨vO, vT, .slice none 0 0, .slice none 0 0, .slice none 0 0, .slice none 0 0, .slice none 0 0, .slice none 0 0, sn⟩ L → Bg B S w0 W4 P turn 0 ⟨vO, vT, .slice none 0 0, .slice none 0 0, .slice none 0 0, .slice none 0 0, .slice none 0 0, .slice none 0 0, sn⟩ ((.slice none 0 0, e, []) :: L) := fun he hb => hb.add (x := (.slice none 0 0, _, [])) ⟨rfl, .inl ⟨rfl, rfl⟩⟩ (fun g hg => by cases hg) he (fun g hg => by cases hg)
    have b5 := nil (.inl rfl) (nil (.inl rfl) (nil (.inr rfl) (nil (.inr rfl) (nil (.inl rfl) (nil (.inr rfl) b4)))))
    have hp := List.perm_append_comm_assoc [((Value.slice none 0 0, 42, []) : Rw), (.slice none 0 0, 42, []), (.slice none 0 0, 3, []), (.slice none 0 0, 3, []), (.slice none 0 0, 42, []), (.slice none 0 0, 3, [])] [(vO, 42, xO), (vT, 42, xT)] ((.slice (some ⟨gW, 0, none⟩) N cW, 42, q.map (·.l)) :: (.slice (some ⟨gN, 0, none⟩) N cN, 42, q.map (·.n)) :: (.slice (some ⟨gM, 0, none⟩) N cM, 3, ic (q.map (·.m))) :: (.slice (some ⟨gD, 0, none⟩) N cD, 3, ic (q.map (·.d))) :: (q.flatMap wrows ++ X))
    have b6 := bg_perm b5 hp
    simpa [ic] using b6
  have HC : Hid (∀ x ∈ q, x.c.length ≤ 90000 ∧ -1000000 ≤ x.m ∧ x.m ≤ 1000000) := hc
  obtain ⟨l1, l2, l3⟩ := hl
  have HNl : Hid (q.length = N) := hN
  have hNe : ((N : Int) == 0) = false := by rw [beq_eq_false_iff_ne]; omega
  have hN1 : N ≤ 1000000 := by omega
  clear h b1 b2 b3 b4 hc hN hq
  go_enter Tryz.func128, Tryz.ntmps128
  go_wp2_with fail
  go_loopw [6] (fun iv wr => ∃ k : Nat, iv = .int .i64 (k : Int) ∧ k ≤ N ∧ Hid (MI B S w0 wr P turn sn (.slice (some ⟨gW, 0, none⟩) N cW) (.slice (some ⟨gN, 0, none⟩) N cN) (.slice (some ⟨gM, 0, none⟩) N cM) (.slice (some ⟨gD, 0, none⟩) N cD) xO xT q X k)) (fun iv _ => N - (intOf iv).toNat)
  case atStart => exact ⟨0, rfl, Nat.zero_le _, HM0⟩
  case round =>
  clear k6 k7 k9 k10 f6 j7 f7 j9 f9 j10 f10 hW1 hW2 hW3 hW4 HM0
  obtain ⟨k, rfl, hk, HG⟩ := hrel
  by_cases hkn : k < N
  · have hkI : (k : Int) < (N : Int) := by omega
    obtain ⟨vO, vT, vW, vN, vF, vM, vD, vR, kp, fl, fs, ts, Y, hb, hf⟩ := HG.out.ex
    clear HG
    have hkq : k < q.length := by have := HNl.out; omega
    obtain ⟨l, nv, c, mark, d, hx⟩ : ∃ l nv c mark d, q[k] = (⟨l, nv, c, mark, d⟩ : Wt) := ⟨_, _, _, _, _, rfl⟩
    have HDr : (q.drop k).flatMap wrows = (l, 3, ic c) :: (nv, 3, ic c) :: (q.drop (k + 1)).flatMap wrows := by rw [List.drop_eq_getElem_cons hkq, List.flatMap_cons, hx]; rfl
    have hbd := HC.out _ (List.getElem_mem hkq)
    have HIn : Hid ((⟨l, nv, c, mark, d⟩ : Wt) ∈ q) := by show _ ∈ _; rw [← hx]; exact List.getElem_mem hkq
    rw [hx] at hbd
    obtain ⟨hc1, hc2, hc3⟩ : c.length ≤ 90000 ∧ -1000000 ≤ mark ∧ mark ≤ 1000000 := hbd
    have HQW : Hid ((q.map (·.l))[k]? = some l) := by show _ = _; simp [hkq, hx]
    have HQN : Hid ((q.map (·.n))[k]? = some nv) := by show _ = _; simp [hkq, hx]
    have HQM : Hid ((ic (q.map (·.m)))[k]? = some (.int .i64 mark)) := by show _ = _; simp [ic, hkq, hx]
    have HQD : Hid ((ic (q.map (·.d)))[k]? = some (.int .i64 d)) := by show _ = _; simp [ic, hkq, hx]
    rw [HDr] at hb
    have hb2 := bg_perm hb (perm_pull [(vO, 42, xO ++ fl.map (·.1)), (vT, 42, xT ++ ts), (vW, 42, kp.map (·.l)), (vN, 42, kp.map (·.n)), (vM, 3, ic (kp.map (·.m))), (vD, 3, ic (kp.map (·.d))), (vF, 42, fl.map (·.1)), (vR, 3, ic fs), (.slice (some ⟨gW, 0, none⟩) N cW, 42, q.map (·.l)), (.slice (some ⟨gN, 0, none⟩) N cN, 42, q.map (·.n)), (.slice (some ⟨gM, 0, none⟩) N cM, 3, ic (q.map (·.m))), (.slice (some ⟨gD, 0, none⟩) N cD, 3, ic (q.map (·.d)))] Y (fl.map rwOf) (kp.flatMap wrows) ((q.drop (k + 1)).flatMap wrows ++ X) (l, 3, ic c) (nv, 3, ic c))
    obtain ⟨xo, hxo⟩ : ∃ x, xO ++ fl.map (·.1) = x := ⟨_, rfl⟩
    obtain ⟨xt, hxt⟩ : ∃ x, xT ++ ts = x := ⟨_, rfl⟩
    obtain ⟨xw, hxw⟩ : ∃ x, kp.map (·.l) = x := ⟨_, rfl⟩
    obtain ⟨xn, hxn⟩ : ∃ x, kp.map (·.n) = x := ⟨_, rfl⟩
    obtain ⟨xm, hxm⟩ : ∃ x, ic (kp.map (·.m)) = x := ⟨_, rfl⟩
    obtain ⟨xd, hxd⟩ : ∃ x, ic (kp.map (·.d)) = x := ⟨_, rfl⟩
    obtain ⟨xf, hxf⟩ : ∃ x, fl.map (·.1) = x := ⟨_, rfl⟩
    obtain ⟨xr, hxr⟩ : ∃ x, ic fs = x := ⟨_, rfl⟩
    obtain ⟨qw, hqw⟩ : ∃ x, q.map (·.l) = x := ⟨_, rfl⟩
    obtain ⟨qn, hqn⟩ : ∃ x, q.map (·.n) = x := ⟨_, rfl⟩
    obtain ⟨qm, hqm⟩ : ∃ x, ic (q.map (·.m)) = x := ⟨_, rfl⟩
    obtain ⟨qd, hqd⟩ : ∃ x, ic (q.map (·.d)) = x := ⟨_, rfl⟩
    obtain ⟨Zr, hZr⟩ : ∃ x, Y ++ (fl.map rwOf ++ (kp.flatMap wrows ++ ((q.drop (k + 1)).flatMap wrows ++ X))) = x := ⟨_, rfl⟩
    have hb3 : Bg B S w0 wr P turn 0 ⟨vO, vT, vW, vN, vF, vM, vD, vR, sn⟩ ((vO, 42, xo) :: (vT, 42, xt) :: (vW, 42, xw) :: (vN, 42, xn) :: (vM, 3, xm) :: (vD, 3, xd) :: (vF, 42, xf) :: (vR, 3, xr) :: (.slice (some ⟨gW, 0, none⟩) N cW, 42, qw) :: (.slice (some ⟨gN, 0, none⟩) N cN, 42, qn) :: (.slice (some ⟨gM, 0, none⟩) N cM, 3, qm) :: (.slice (some ⟨gD, 0, none⟩) N cD, 3, qd) :: (l, 3, ic c) :: (nv, 3, ic c) :: Zr) := by
      rw [← hxo, ← hxt, ← hxw, ← hxn, ← hxm, ← hxd, ← hxf, ← hxr, ← hqw, ← hqn, ← hqm, ← hqd, ← hZr]
      exact hb2
    rw [hqw] at HQW
    rw [hqn] at HQN
    rw [hqm] at HQM
    rw [hqd] at HQD
    obtain ⟨⟨e1, e2, e3, e4⟩, _, _, _, _⟩ := id hf
    have n1 : xo.length ≤ 2000000 := by rw [← hxo, List.length_append, List.length_map]; omega
    have n2 : xt.length ≤ 2000000 := by rw [← hxt, List.length_append]; omega
    have n3 : xw.length ≤ 1000000 := by rw [← hxw, List.length_map]; omega
    have n4 : xn.length ≤ 1000000 := by rw [← hxn, List.length_map]; omega
    have n5 : xm.length ≤ 1000000 := by rw [← hxm]; simp only [ic, List.length_map]; omega
    have n6 : xd.length ≤ 1000000 := by rw [← hxd]; simp only [ic, List.length_map]; omega
    have n7 : xf.length ≤ 1000000 := by rw [← hxf, List.length_map]; omega
    have n8 : xr.length ≤ 1000000 := by rw [← hxr]; simp only [ic, List.length_map]; omega
    have HX1 : Hid (xO ++ fl.map (·.1) = xo ∧ xT ++ ts = xt ∧ kp.map (·.l) = xw ∧ kp.map (·.n) = xn ∧ ic (kp.map (·.m)) = xm ∧ ic (kp.map (·.d)) = xd ∧ fl.map (·.1) = xf ∧ ic fs = xr) := ⟨hxo, hxt, hxw, hxn, hxm, hxd, hxf, hxr⟩
    have HX2 : Hid (q.map (·.l) = qw ∧ q.map (·.n) = qn ∧ ic (q.map (·.m)) = qm ∧ ic (q.map (·.d)) = qd ∧ Y ++ (fl.map rwOf ++ (kp.flatMap wrows ++ ((q.drop (k + 1)).flatMap wrows ++ X))) = Zr) := ⟨hqw, hqn, hqm, hqd, hZr⟩
    have HF : Hid (MF q kp fl fs ts Y k) := hf
    obtain ⟨la, lc, rfl⟩ : ∃ a b, l = .slice a c.length b := by
      have := own_slice (hb3.row (x := (l, 3, ic c)) (by simp))
      simpa [ic] using this
    obtain ⟨na, nc, rfl⟩ : ∃ a b, nv = .slice a c.length b := by
      have := own_slice (hb3.row (x := (nv, 3, ic c)) (by simp))
      simpa [ic] using this
    have HB0 : Hid (Bg B S w0 wr P turn 0 ⟨vO, vT, vW, vN, vF, vM, vD, vR, sn⟩ ((vO, 42, xo) :: (vT, 42, xt) :: (vW, 42, xw) :: (vN, 42, xn) :: (vM, 3, xm) :: (vD, 3, xd) :: (vF, 42, xf) :: (vR, 3, xr) :: (.slice (some ⟨gW, 0, none⟩) N cW, 42, qw) :: (.slice (some ⟨gN, 0, none⟩) N cN, 42, qn) :: (.slice (some ⟨gM, 0, none⟩) N cM, 3, qm) :: (.slice (some ⟨gD, 0, none⟩) N cD, 3, qd) :: (.slice la c.length lc, 3, ic c) :: (.slice na c.length nc, 3, ic c) :: Zr)) := hb3
    have x1 := bg_at (g := gW) (n := N) (cap := cW) (e := 42) HQW.out hb3 (by simp)
    have x2 := bg_at (g := gM) (n := N) (cap := cM) (e := 3) HQM.out hb3 (by simp)
    have x3 := bg_at (g := gD) (n := N) (cap := cD) (e := 3) HQD.out hb3 (by simp)
    have x4 := hb3.cell 2 (.int .i64 turn) rfl
    have HAtN : Hid (∀ (w' : World) (t : Tx) (L : List Rw), Bg B S w0 w' P turn 0 t L → (Value.slice (some ⟨gN, 0, none⟩) N cN, 42, qn) ∈ L → w'.cell? ⟨gN, k, none⟩ = some (.slice na c.length nc)) := fun _ _ _ h1 h2 => bg_at HQN.out h1 h2
    have HAtD : Hid (∀ (w' : World) (t : Tx) (L : List Rw), Bg B S w0 w' P turn 0 t L → (Value.slice (some ⟨gD, 0, none⟩) N cD, 3, qd) ∈ L → w'.cell? ⟨gD, k, none⟩ = some (.int .i64 d)) := fun _ _ _ h1 h2 => bg_at HQD.out h1 h2
    clear hb hb2 hb3 hf HDr hxo hxt hxw hxn hxm hxd hxf hxr hqw hqn hqm hqd hZr hx e1 e2 e3 e4 HQW HQM
    by_cases hdt : turn < d
    · skip
      go_wp2_with fail
      go_region
      have HBd : Hid (Bg B S w0 wr.drew P turn 0 ⟨vO, vT, vW, vN, vF, vM, vD, vR, sn⟩ ((vO, 42, xo) :: (vT, 42, xt) :: (vW, 42, xw) :: (vN, 42, xn) :: (vM, 3, xm) :: (vD, 3, xd) :: (vF, 42, xf) :: (vR, 3, xr) :: (.slice (some ⟨gW, 0, none⟩) N cW, 42, qw) :: (.slice (some ⟨gN, 0, none⟩) N cN, 42, qn) :: (.slice (some ⟨gM, 0, none⟩) N cM, 3, qm) :: (.slice (some ⟨gD, 0, none⟩) N cD, 3, qd) :: (.slice la c.length lc, 3, ic c) :: (.slice na c.length nc, 3, ic c) :: Zr)) := HB0.out.below (Below.refl _ _).drew
      generalize wr.drew = V1 at HBd ⊢
      (have HRa : Hid (World.ownsRow V1 0 42 1 (vW) (xw).length (xw)) := HBd.out.row (x := (vW, 42, xw)) (by simp)); (have ka := HBd.out.cell 6 (vW) rfl); (have fa := HBd.out.free 6)
      go_wp2_with (at_builtin; refine append_one V1 (.slice la c.length lc) rfl _ _ 41 42 (.slice none 0 0) 24 rfl bun41 binf42 rfl 0 _ _ _ (by rfl) HRa.out rfl _ rfl (by rfl) (by unfold maxLen; omega) (by omega) (Nat.zero_le _) ?_; intro v_a w_a ho hg hn; obtain ⟨a6, c6, rfl⟩ := own_slice ho; (have hB := Bg.app (A := [(vO, 42, xo), (vT, 42, xt)]) (xs := xw) HBd.out ho hg hn); (have qa : w_a.cell? ⟨P, 6, none⟩ = some (vW) := hB.cell 6 _ rfl); (have qza : ∀ i, w_a.frozen? ⟨P, i, none⟩ = false := fun i => hB.free i); obtain ⟨V2, hV2⟩ : ∃ W, w_a.setCell ⟨P, 6, none⟩ (.slice a6 (xw.length + 1) c6) = W := ⟨_, rfl⟩; (have HBa : Hid (Bg B S w0 V2 P turn 0 ⟨vO, vT, .slice a6 (xw.length + 1) c6, vN, vF, vM, vD, vR, sn⟩ ((vO, 42, xo) :: (vT, 42, xt) :: (.slice a6 (xw.length + 1) c6, 42, xw ++ [.slice la c.length lc]) :: (vN, 42, xn) :: (vM, 3, xm) :: (vD, 3, xd) :: (vF, 42, xf) :: (vR, 3, xr) :: (.slice (some ⟨gW, 0, none⟩) N cW, 42, qw) :: (.slice (some ⟨gN, 0, none⟩) N cN, 42, qn) :: (.slice (some ⟨gM, 0, none⟩) N cM, 3, qm) :: (.slice (some ⟨gD, 0, none⟩) N cD, 3, qd) :: (.slice la c.length lc, 3, ic c) :: (.slice na c.length nc, 3, ic c) :: Zr)) := by (show Bg _ _ _ _ _ _ _ _ _); (rw [← hV2]); exact hB.put 6 (.slice a6 (xw.length + 1) c6) rfl); clear ho hg hn hB)
      try rw [hV2]
      have HCb : Hid (V2.drew.cell? ⟨gN, k, none⟩ = some (.slice na c.length nc) ∧ V2.drew.cell? ⟨P, 7, none⟩ = some (vN)) := ⟨HAtN.out _ _ _ (HBa.out.below (Below.refl _ _).drew) (by simp), HBa.out.cell 7 (vN) rfl⟩
      refine wp_region_T (fun w' => w'.cell? ⟨gN, k, none⟩ = some (.slice na c.length nc)) (fun w' => w'.cell? ⟨P, 7, none⟩ = some (vN)) [13] (by kernel_rfl) HCb.out (fun hHeld => ?_)
      clear HCb
      have HBUb : Hid (Bg B S w0 V2.drew P turn 0 ⟨vO, vT, .slice a6 (xw.length + 1) c6, vN, vF, vM, vD, vR, sn⟩ ((vO, 42, xo) :: (vT, 42, xt) :: (.slice a6 (xw.length + 1) c6, 42, xw ++ [.slice la c.length lc]) :: (vN, 42, xn) :: (vM, 3, xm) :: (vD, 3, xd) :: (vF, 42, xf) :: (vR, 3, xr) :: (.slice (some ⟨gW, 0, none⟩) N cW, 42, qw) :: (.slice (some ⟨gN, 0, none⟩) N cN, 42, qn) :: (.slice (some ⟨gM, 0, none⟩) N cM, 3, qm) :: (.slice (some ⟨gD, 0, none⟩) N cD, 3, qd) :: (.slice la c.length lc, 3, ic c) :: (.slice na c.length nc, 3, ic c) :: Zr)) := HBa.out.below (Below.refl _ _).drew
      generalize V2.drew = Ub at hHeld HBUb ⊢
      refine wpAnyT_takeB (i := 0) (oi := ⟨some 74, .move (.tmp 0), _, _, _, _⟩) (v := ?vR13x0) rfl (by kernel_rfl) (by kernel_rfl) (by kernel_rfl) (by kernel_rfl) (fun _ _ _ h => h) (Or.inl ⟨by rfl, ?hyR13x0⟩) (by assumption) ?restR13x0
      case hyR13x0 => (intro w hSw; (try dsimp only at hSw); go_simp; try (with_reducible rfl))
      try simp only [Act.put, List.setIfInBounds_toArray, List.set_cons_zero, List.set_cons_succ]
      refine wpAnyT_takeB (i := 1) (oi := ⟨some 75, .move (.tmp 0), _, _, _, _⟩) (v := ?vR13x1) rfl (by kernel_rfl) (by kernel_rfl) (by kernel_rfl) (by kernel_rfl) (fun _ _ _ h => h) (Or.inl ⟨by rfl, ?hyR13x1⟩) (by assumption) ?restR13x1
      case hyR13x1 => (intro w hSw; (try dsimp only at hSw); go_simp; try (with_reducible rfl))
      try simp only [Act.put, List.setIfInBounds_toArray, List.set_cons_zero, List.set_cons_succ]
      refine wpAnyT_takeB (i := 2) (oi := ⟨some 76, .nilCheck (.tmp 75), _, _, _, _⟩) (v := ?vR13x2) rfl (by kernel_rfl) (by kernel_rfl) (by kernel_rfl) (by kernel_rfl) (fun _ _ _ h => h) (Or.inl ⟨by rfl, ?hyR13x2⟩) (by assumption) ?restR13x2
      case hyR13x2 => (intro w hSw; (try dsimp only at hSw); go_simp; try (with_reducible rfl))
      try simp only [Act.put, List.setIfInBounds_toArray, List.set_cons_zero, List.set_cons_succ]
      refine wpAnyT_takeB (i := 3) (oi := ⟨some 77, .fieldAddr 58 (.tmp 76) 7, _, _, _, _⟩) (v := ?vR13x3) rfl (by kernel_rfl) (by kernel_rfl) (by kernel_rfl) (by kernel_rfl) (fun _ _ _ h => h) (Or.inl ⟨by rfl, ?hyR13x3⟩) (by assumption) ?restR13x3
      case hyR13x3 => (intro w hSw; (try dsimp only at hSw); go_simp; try (with_reducible rfl))
      try simp only [Act.put, List.setIfInBounds_toArray, List.set_cons_zero, List.set_cons_succ]
      refine wpAnyT_take (i := 4) (oi := ⟨some 78, .load 41 (.tmp 77), _, _, _, _⟩) (v := ?vR13x4) rfl (by kernel_rfl) (by kernel_rfl) (by kernel_rfl) (by kernel_rfl) (by kernel_rfl) (fun _ _ _ h => h) (Or.inl ⟨by rfl, ?hyR13x4⟩) (by assumption) ?restR13x4
      case hyR13x4 => (intro w hSw; (try dsimp only at hSw); go_simp; try (with_reducible rfl))
      try simp only [Act.put, List.setIfInBounds_toArray, List.set_cons_zero, List.set_cons_succ]
      refine wpAnyT_takeB (i := 5) (oi := ⟨some 79, .move (.tmp 3), _, _, _, _⟩) (v := ?vR13x5) rfl (by kernel_rfl) (by kernel_rfl) (by kernel_rfl) (by kernel_rfl) (fun _ _ _ h => h) (Or.inl ⟨by rfl, ?hyR13x5⟩) (by assumption) ?restR13x5
      case hyR13x5 => (intro w hSw; (try dsimp only at hSw); go_simp; try (with_reducible rfl))
      try simp only [Act.put, List.setIfInBounds_toArray, List.set_cons_zero, List.set_cons_succ]
      refine wpAnyT_takeB (i := 6) (oi := ⟨some 80, .move (.tmp 6), _, _, _, _⟩) (v := ?vR13x6) rfl (by kernel_rfl) (by kernel_rfl) (by kernel_rfl) (by kernel_rfl) (fun _ _ _ h => h) (Or.inl ⟨by rfl, ?hyR13x6⟩) (by assumption) ?restR13x6
      case hyR13x6 => (intro w hSw; (try dsimp only at hSw); go_simp; try (with_reducible rfl))
      try simp only [Act.put, List.setIfInBounds_toArray, List.set_cons_zero, List.set_cons_succ]
      refine wpAnyT_takeB (i := 7) (oi := ⟨some 81, .indexAddr 41 (.tmp 79) (.tmp 80), _, _, _, _⟩) (v := ?vR13x7) rfl (by kernel_rfl) (by kernel_rfl) (by kernel_rfl) (by kernel_rfl) (fun _ _ _ h => h) (Or.inl ⟨by rfl, ?hyR13x7⟩) (by assumption) ?restR13x7
      case hyR13x7 => (intro w hSw; (try dsimp only at hSw); go_simp; try (with_reducible rfl))
      try simp only [Act.put, List.setIfInBounds_toArray, List.set_cons_zero, List.set_cons_succ]
      refine wpAnyT_takeB (i := 8) (oi := ⟨some 82, .load 42 (.tmp 81), _, _, _, _⟩) (v := ?vR13x8) rfl (by kernel_rfl) (by kernel_rfl) (by kernel_rfl) (by kernel_rfl) (fun _ _ _ h => h) (Or.inl ⟨by rfl, ?hyR13x8⟩) (by assumption) ?restR13x8
      case hyR13x8 => (intro w hSw; (try dsimp only at hSw); go_simp; try (with_reducible rfl))
      try simp only [Act.put, List.setIfInBounds_toArray, List.set_cons_zero, List.set_cons_succ]
      refine wpAnyT_one (i := 9) (o := ⟨some 83, .buildSlice 41 1 #[(0, (.tmp 82))], _, _, _, _⟩) (by kernel_rfl) rfl (fun K hK => ?_)
      go_simp
      obtain ⟨Zb, hZ⟩ : ∃ Z, Ub.alloc (.cells #[.slice na c.length nc] 42) = Z := ⟨_, rfl⟩
      have HbZb : Hid (Below Ub.heap.size Ub Zb) := by show Below _ _ _; rw [← hZ]; exact (Below.refl _ _).alloc (Nat.le_refl _) _
      have HSzb : Hid (SrcAt Zb (.slice (some ⟨Ub.heap.size, 0, none⟩) 1 1) 1 1 [.slice na c.length nc]) := src_one (by rw [← hZ]; exact heap_alloc_new Ub _) rfl
      have HZb : Hid (Ub.alloc (.cells #[.slice na c.length nc] 42) = Zb ∧ Zb.heap.size = Ub.heap.size + 1) := ⟨hZ, by rw [← hZ]; simp⟩
      rw [hZ]
      clear hZ hHeld
      have hHeld : _ ∧ _ := ⟨HAtN.out _ _ _ (HBUb.out.below HbZb.out) (by simp), (HBUb.out.below HbZb.out).cell 7 (vN) rfl⟩
      refine hK.out _ _ ⟨hHeld.1, fun _ => hHeld.2⟩ ?_
      clear hK K
      try simp only [Act.put, List.setIfInBounds_toArray, List.set_cons_zero, List.set_cons_succ]
      refine wpAnyT_one (i := 10) (o := ⟨some 84, .call { callee := .builtin .append, args := #[(.tmp 78), (.tmp 83)], argTypes := #[41, 41] }, _, _, _, _⟩) (by kernel_rfl) rfl (fun K hK => ?_)
      have hown : Zb.ownsRow 0 42 1 (vN) (xn).length (xn) := (HBUb.out.below HbZb.out).row (x := (vN, 42, xn)) (by simp)
      refine op_append_src Zb (.tmp 78) (.tmp 83) 41 42 (.slice none 0 0) 1 24 rfl bun41 binf42 rfl (by decide) 0 _ _ (xn).length 1 (xn) _ (by rfl) (by rfl) hown HSzb.out (by unfold maxLen; omega) (by omega) (Nat.zero_le _) (by rfl) ?_
      intro v8 w8b o1 o2 o3
      obtain ⟨a7, c7, rfl⟩ := own_slice o1
      have hB8 := Bg.app (A := [(vO, 42, xo), (vT, 42, xt), (.slice a6 (xw.length + 1) c6, 42, xw ++ [.slice la c.length lc])]) (xs := xn) HBUb.out o1 (by rw [HZb.out.1]; exact o2) (by rw [← HZb.out.2]; exact o3)
      have HB8b : Hid (Bg B S w0 w8b P turn 0 ⟨vO, vT, .slice a6 (xw.length + 1) c6, vN, vF, vM, vD, vR, sn⟩ ((vO, 42, xo) :: (vT, 42, xt) :: (.slice a6 (xw.length + 1) c6, 42, xw ++ [.slice la c.length lc]) :: (.slice a7 (xn.length + 1) c7, 42, xn ++ [.slice na c.length nc]) :: (vM, 3, xm) :: (vD, 3, xd) :: (vF, 42, xf) :: (vR, 3, xr) :: (.slice (some ⟨gW, 0, none⟩) N cW, 42, qw) :: (.slice (some ⟨gN, 0, none⟩) N cN, 42, qn) :: (.slice (some ⟨gM, 0, none⟩) N cM, 3, qm) :: (.slice (some ⟨gD, 0, none⟩) N cD, 3, qd) :: (.slice la c.length lc, 3, ic c) :: (.slice na c.length nc, 3, ic c) :: Zr)) := hB8
      clear o1 o2 o3 hown hHeld hB8
      have y_1 := HAtN.out _ _ _ (HB8b.out) (by simp)
      have y_10 := HB8b.out.cell 7 (vN) rfl
      have cz : ∀ i, w8b.frozen? ⟨P, i, none⟩ = false := fun i => HB8b.out.free i
      refine hK.out _ _ ⟨y_1, fun _ => y_10⟩ ?_
      have hHeld := (⟨y_1, y_10⟩ : _ ∧ _)
      clear hK K
      try simp only [Act.put, List.setIfInBounds_toArray, List.set_cons_zero, List.set_cons_succ]
      refine wpAnyT_takeB (i := 11) (oi := ⟨some 85, .nilCheck (.tmp 74), _, _, _, _⟩) (v := ?vR13x11) rfl (by kernel_rfl) (by kernel_rfl) (by kernel_rfl) (by kernel_rfl) (fun _ _ _ h => h) (Or.inl ⟨by rfl, ?hyR13x11⟩) (by assumption) ?restR13x11
      case hyR13x11 => (intro w hSw; (try dsimp only at hSw); go_simp; try (with_reducible rfl))
      try simp only [Act.put, List.setIfInBounds_toArray, List.set_cons_zero, List.set_cons_succ]
      refine wpAnyT_takeB (i := 12) (oi := ⟨some 86, .fieldAddr 58 (.tmp 85) 7, _, _, _, _⟩) (v := ?vR13x12) rfl (by kernel_rfl) (by kernel_rfl) (by kernel_rfl) (by kernel_rfl) (fun _ _ _ h => h) (Or.inl ⟨by rfl, ?hyR13x12⟩) (by assumption) ?restR13x12
      case hyR13x12 => (intro w hSw; (try dsimp only at hSw); go_simp; try (with_reducible rfl))
      try simp only [Act.put, List.setIfInBounds_toArray, List.set_cons_zero, List.set_cons_succ]
      refine wpAnyT_late (i := 13) (o := ⟨none, .store 41 (.tmp 86) (.tmp 84), _, _, _, _⟩) (by kernel_rfl) rfl (by kernel_rfl) (fun K hK => ?_)
      go_simp
      refine hK.out _ _ ?shR13x13 ?restR13x13
      case shR13x13 => ((try dsimp only); exact HAtN.out _ _ _ (HB8b.out.put (t' := ⟨vO, vT, .slice a6 (xw.length + 1) c6, .slice a7 (xn.length + 1) c7, vF, vM, vD, vR, sn⟩) 7 (.slice a7 (xn.length + 1) c7) rfl) (by simp))
      clear hK K
      try simp only [Act.put, List.setIfInBounds_toArray, List.set_cons_zero, List.set_cons_succ]
      refine wpAnyT_done (by kernel_rfl) ?_ _
      obtain ⟨V3, hV3⟩ : ∃ W, w8b.setCell ⟨P, 7, none⟩ (.slice a7 (xn.length + 1) c7) = W := ⟨_, rfl⟩
      have HBb : Hid (Bg B S w0 V3 P turn 0 ⟨vO, vT, .slice a6 (xw.length + 1) c6, .slice a7 (xn.length + 1) c7, vF, vM, vD, vR, sn⟩ ((vO, 42, xo) :: (vT, 42, xt) :: (.slice a6 (xw.length + 1) c6, 42, xw ++ [.slice la c.length lc]) :: (.slice a7 (xn.length + 1) c7, 42, xn ++ [.slice na c.length nc]) :: (vM, 3, xm) :: (vD, 3, xd) :: (vF, 42, xf) :: (vR, 3, xr) :: (.slice (some ⟨gW, 0, none⟩) N cW, 42, qw) :: (.slice (some ⟨gN, 0, none⟩) N cN, 42, qn) :: (.slice (some ⟨gM, 0, none⟩) N cM, 3, qm) :: (.slice (some ⟨gD, 0, none⟩) N cD, 3, qd) :: (.slice la c.length lc, 3, ic c) :: (.slice na c.length nc, 3, ic c) :: Zr)) := by
        show Bg _ _ _ _ _ _ _ _ _
        rw [← hV3]
        exact HB8b.out.put (t' := ⟨vO, vT, .slice a6 (xw.length + 1) c6, .slice a7 (xn.length + 1) c7, vF, vM, vD, vR, sn⟩) 7 (.slice a7 (xn.length + 1) c7) rfl
      try rw [hV3]
      clear hHeld y_1 y_10 cz
      (have HRc : Hid (World.ownsRow V3 0 3 1 (vM) (xm).length (xm)) := HBb.out.row (x := (vM, 3, xm)) (by simp)); (have kc := HBb.out.cell 9 (vM) rfl); (have fc := HBb.out.free 9)
      go_wp2_with (at_builtin; refine append_one V3 (.int .i64 mark) rfl _ _ 42 3 (.int .i64 0) 8 rfl bun42 binf3 rfl 0 _ _ _ (by rfl) HRc.out rfl _ rfl (by rfl) (by unfold maxLen; omega) (by omega) (Nat.zero_le _) ?_; intro v_c w_c ho hg hn; obtain ⟨a9, c9, rfl⟩ := own_slice ho; (have hB := Bg.app (A := [(vO, 42, xo), (vT, 42, xt), (.slice a6 (xw.length + 1) c6, 42, xw ++ [.slice la c.length lc]), (.slice a7 (xn.length + 1) c7, 42, xn ++ [.slice na c.length nc])]) (xs := xm) HBb.out ho hg hn); (have qc : w_c.cell? ⟨P, 9, none⟩ = some (vM) := hB.cell 9 _ rfl); (have qzc : ∀ i, w_c.frozen? ⟨P, i, none⟩ = false := fun i => hB.free i); obtain ⟨V4, hV4⟩ : ∃ W, w_c.setCell ⟨P, 9, none⟩ (.slice a9 (xm.length + 1) c9) = W := ⟨_, rfl⟩; (have HBc : Hid (Bg B S w0 V4 P turn 0 ⟨vO, vT, .slice a6 (xw.length + 1) c6, .slice a7 (xn.length + 1) c7, vF, .slice a9 (xm.length + 1) c9, vD, vR, sn⟩ ((vO, 42, xo) :: (vT, 42, xt) :: (.slice a6 (xw.length + 1) c6, 42, xw ++ [.slice la c.length lc]) :: (.slice a7 (xn.length + 1) c7, 42, xn ++ [.slice na c.length nc]) :: (.slice a9 (xm.length + 1) c9, 3, xm ++ [.int .i64 mark]) :: (vD, 3, xd) :: (vF, 42, xf) :: (vR, 3, xr) :: (.slice (some ⟨gW, 0, none⟩) N cW, 42, qw) :: (.slice (some ⟨gN, 0, none⟩) N cN, 42, qn) :: (.slice (some ⟨gM, 0, none⟩) N cM, 3, qm) :: (.slice (some ⟨gD, 0, none⟩) N cD, 3, qd) :: (.slice la c.length lc, 3, ic c) :: (.slice na c.length nc, 3, ic c) :: Zr)) := by (show Bg _ _ _ _ _ _ _ _ _); (rw [← hV4]); exact hB.put 9 (.slice a9 (xm.length + 1) c9) rfl); clear ho hg hn hB)
      try rw [hV4]
      have HCd : Hid (V4.drew.cell? ⟨gD, k, none⟩ = some (.int .i64 d) ∧ V4.drew.cell? ⟨P, 10, none⟩ = some (vD)) := ⟨HAtD.out _ _ _ (HBc.out.below (Below.refl _ _).drew) (by simp), HBc.out.cell 10 (vD) rfl⟩
      refine wp_region_T (fun w' => w'.cell? ⟨gD, k, none⟩ = some (.int .i64 d)) (fun w' => w'.cell? ⟨P, 10, none⟩ = some (vD)) [13] (by kernel_rfl) HCd.out (fun hHeld => ?_)
      clear HCd
      have HBUd : Hid (Bg B S w0 V4.drew P turn 0 ⟨vO, vT, .slice a6 (xw.length + 1) c6, .slice a7 (xn.length + 1) c7, vF, .slice a9 (xm.length + 1) c9, vD, vR, sn⟩ ((vO, 42, xo) :: (vT, 42, xt) :: (.slice a6 (xw.length + 1) c6, 42, xw ++ [.slice la c.length lc]) :: (.slice a7 (xn.length + 1) c7, 42, xn ++ [.slice na c.length nc]) :: (.slice a9 (xm.length + 1) c9, 3, xm ++ [.int .i64 mark]) :: (vD, 3, xd) :: (vF, 42, xf) :: (vR, 3, xr) :: (.slice (some ⟨gW, 0, none⟩) N cW, 42, qw) :: (.slice (some ⟨gN, 0, none⟩) N cN, 42, qn) :: (.slice (some ⟨gM, 0, none⟩) N cM, 3, qm) :: (.slice (some ⟨gD, 0, none⟩) N cD, 3, qd) :: (.slice la c.length lc, 3, ic c) :: (.slice na c.length nc, 3, ic c) :: Zr)) := HBc.out.below (Below.refl _ _).drew
      generalize V4.drew = Ud at hHeld HBUd ⊢
      refine wpAnyT_takeB (i := 0) (oi := ⟨some 97, .move (.tmp 0), _, _, _, _⟩) (v := ?vR15x0) rfl (by kernel_rfl) (by kernel_rfl) (by kernel_rfl) (by kernel_rfl) (fun _ _ _ h => h) (Or.inl ⟨by rfl, ?hyR15x0⟩) (by assumption) ?restR15x0
      case hyR15x0 => (intro w hSw; (try dsimp only at hSw); go_simp; try (with_reducible rfl))
      try simp only [Act.put, List.setIfInBounds_toArray, List.set_cons_zero, List.set_cons_succ]
      refine wpAnyT_takeB (i := 1) (oi := ⟨some 98, .move (.tmp 0), _, _, _, _⟩) (v := ?vR15x1) rfl (by kernel_rfl) (by kernel_rfl) (by kernel_rfl) (by kernel_rfl) (fun _ _ _ h => h) (Or.inl ⟨by rfl, ?hyR15x1⟩) (by assumption) ?restR15x1
      case hyR15x1 => (intro w hSw; (try dsimp only at hSw); go_simp; try (with_reducible rfl))
      try simp only [Act.put, List.setIfInBounds_toArray, List.set_cons_zero, List.set_cons_succ]
      refine wpAnyT_takeB (i := 2) (oi := ⟨some 99, .nilCheck (.tmp 98), _, _, _, _⟩) (v := ?vR15x2) rfl (by kernel_rfl) (by kernel_rfl) (by kernel_rfl) (by kernel_rfl) (fun _ _ _ h => h) (Or.inl ⟨by rfl, ?hyR15x2⟩) (by assumption) ?restR15x2
      case hyR15x2 => (intro w hSw; (try dsimp only at hSw); go_simp; try (with_reducible rfl))
      try simp only [Act.put, List.setIfInBounds_toArray, List.set_cons_zero, List.set_cons_succ]
      refine wpAnyT_takeB (i := 3) (oi := ⟨some 100, .fieldAddr 58 (.tmp 99) 10, _, _, _, _⟩) (v := ?vR15x3) rfl (by kernel_rfl) (by kernel_rfl) (by kernel_rfl) (by kernel_rfl) (fun _ _ _ h => h) (Or.inl ⟨by rfl, ?hyR15x3⟩) (by assumption) ?restR15x3
      case hyR15x3 => (intro w hSw; (try dsimp only at hSw); go_simp; try (with_reducible rfl))
      try simp only [Act.put, List.setIfInBounds_toArray, List.set_cons_zero, List.set_cons_succ]
      refine wpAnyT_take (i := 4) (oi := ⟨some 101, .load 42 (.tmp 100), _, _, _, _⟩) (v := ?vR15x4) rfl (by kernel_rfl) (by kernel_rfl) (by kernel_rfl) (by kernel_rfl) (by kernel_rfl) (fun _ _ _ h => h) (Or.inl ⟨by rfl, ?hyR15x4⟩) (by assumption) ?restR15x4
      case hyR15x4 => (intro w hSw; (try dsimp only at hSw); go_simp; try (with_reducible rfl))
      try simp only [Act.put, List.setIfInBounds_toArray, List.set_cons_zero, List.set_cons_succ]
      refine wpAnyT_takeB (i := 5) (oi := ⟨some 102, .move (.tmp 5), _, _, _, _⟩) (v := ?vR15x5) rfl (by kernel_rfl) (by kernel_rfl) (by kernel_rfl) (by kernel_rfl) (fun _ _ _ h => h) (Or.inl ⟨by rfl, ?hyR15x5⟩) (by assumption) ?restR15x5
      case hyR15x5 => (intro w hSw; (try dsimp only at hSw); go_simp; try (with_reducible rfl))
      try simp only [Act.put, List.setIfInBounds_toArray, List.set_cons_zero, List.set_cons_succ]
      refine wpAnyT_takeB (i := 6) (oi := ⟨some 103, .move (.tmp 6), _, _, _, _⟩) (v := ?vR15x6) rfl (by kernel_rfl) (by kernel_rfl) (by kernel_rfl) (by kernel_rfl) (fun _ _ _ h => h) (Or.inl ⟨by rfl, ?hyR15x6⟩) (by assumption) ?restR15x6
      case hyR15x6 => (intro w hSw; (try dsimp only at hSw); go_simp; try (with_reducible rfl))
      try simp only [Act.put, List.setIfInBounds_toArray, List.set_cons_zero, List.set_cons_succ]
      refine wpAnyT_takeB (i := 7) (oi := ⟨some 104, .indexAddr 42 (.tmp 102) (.tmp 103), _, _, _, _⟩) (v := ?vR15x7) rfl (by kernel_rfl) (by kernel_rfl) (by kernel_rfl) (by kernel_rfl) (fun _ _ _ h => h) (Or.inl ⟨by rfl, ?hyR15x7⟩) (by assumption) ?restR15x7
      case hyR15x7 => (intro w hSw; (try dsimp only at hSw); go_simp; try (with_reducible rfl))
      try simp only [Act.put, List.setIfInBounds_toArray, List.set_cons_zero, List.set_cons_succ]
      refine wpAnyT_takeB (i := 8) (oi := ⟨some 105, .load 3 (.tmp 104), _, _, _, _⟩) (v := ?vR15x8) rfl (by kernel_rfl) (by kernel_rfl) (by kernel_rfl) (by kernel_rfl) (fun _ _ _ h => h) (Or.inl ⟨by rfl, ?hyR15x8⟩) (by assumption) ?restR15x8
      case hyR15x8 => (intro w hSw; (try dsimp only at hSw); go_simp; try (with_reducible rfl))
      try simp only [Act.put, List.setIfInBounds_toArray, List.set_cons_zero, List.set_cons_succ]
      refine wpAnyT_one (i := 9) (o := ⟨some 106, .buildSlice 42 1 #[(0, (.tmp 105))], _, _, _, _⟩) (by kernel_rfl) rfl (fun K hK => ?_)
      go_simp
      obtain ⟨Zd, hZ⟩ : ∃ Z, Ud.alloc (.cells #[.int .i64 d] 3) = Z := ⟨_, rfl⟩
      have HbZd : Hid (Below Ud.heap.size Ud Zd) := by show Below _ _ _; rw [← hZ]; exact (Below.refl _ _).alloc (Nat.le_refl _) _
      have HSzd : Hid (SrcAt Zd (.slice (some ⟨Ud.heap.size, 0, none⟩) 1 1) 1 1 [.int .i64 d]) := src_one (by rw [← hZ]; exact heap_alloc_new Ud _) rfl
      have HZd : Hid (Ud.alloc (.cells #[.int .i64 d] 3) = Zd ∧ Zd.heap.size = Ud.heap.size + 1) := ⟨hZ, by rw [← hZ]; simp⟩
      rw [hZ]
      clear hZ hHeld
      have hHeld : _ ∧ _ := ⟨HAtD.out _ _ _ (HBUd.out.below HbZd.out) (by simp), (HBUd.out.below HbZd.out).cell 10 (vD) rfl⟩
      refine hK.out _ _ ⟨hHeld.1, fun _ => hHeld.2⟩ ?_
      clear hK K
      try simp only [Act.put, List.setIfInBounds_toArray, List.set_cons_zero, List.set_cons_succ]
      refine wpAnyT_one (i := 10) (o := ⟨some 107, .call { callee := .builtin .append, args := #[(.tmp 101), (.tmp 106)], argTypes := #[42, 42] }, _, _, _, _⟩) (by kernel_rfl) rfl (fun K hK => ?_)
      have hown : Zd.ownsRow 0 3 1 (vD) (xd).length (xd) := (HBUd.out.below HbZd.out).row (x := (vD, 3, xd)) (by simp)
      refine op_append_src Zd (.tmp 101) (.tmp 106) 42 3 (.int .i64 0) 1 8 rfl bun42 binf3 rfl (by decide) 0 _ _ (xd).length 1 (xd) _ (by rfl) (by rfl) hown HSzd.out (by unfold maxLen; omega) (by omega) (Nat.zero_le _) (by rfl) ?_
      intro v8 w8d o1 o2 o3
      obtain ⟨a10, c10, rfl⟩ := own_slice o1
      have hB8 := Bg.app (A := [(vO, 42, xo), (vT, 42, xt), (.slice a6 (xw.length + 1) c6, 42, xw ++ [.slice la c.length lc]), (.slice a7 (xn.length + 1) c7, 42, xn ++ [.slice na c.length nc]), (.slice a9 (xm.length + 1) c9, 3, xm ++ [.int .i64 mark])]) (xs := xd) HBUd.out o1 (by rw [HZd.out.1]; exact o2) (by rw [← HZd.out.2]; exact o3)
      have HB8d : Hid (Bg B S w0 w8d P turn 0 ⟨vO, vT, .slice a6 (xw.length + 1) c6, .slice a7 (xn.length + 1) c7, vF, .slice a9 (xm.length + 1) c9, vD, vR, sn⟩ ((vO, 42, xo) :: (vT, 42, xt) :: (.slice a6 (xw.length + 1) c6, 42, xw ++ [.slice la c.length lc]) :: (.slice a7 (xn.length + 1) c7, 42, xn ++ [.slice na c.length nc]) :: (.slice a9 (xm.length + 1) c9, 3, xm ++ [.int .i64 mark]) :: (.slice a10 (xd.length + 1) c10, 3, xd ++ [.int .i64 d]) :: (vF, 42, xf) :: (vR, 3, xr) :: (.slice (some ⟨gW, 0, none⟩) N cW, 42, qw) :: (.slice (some ⟨gN, 0, none⟩) N cN, 42, qn) :: (.slice (some ⟨gM, 0, none⟩) N cM, 3, qm) :: (.slice (some ⟨gD, 0, none⟩) N cD, 3, qd) :: (.slice la c.length lc, 3, ic c) :: (.slice na c.length nc, 3, ic c) :: Zr)) := hB8
      clear o1 o2 o3 hown hHeld hB8
      have y_1 := HAtD.out _ _ _ (HB8d.out) (by simp)
      have y_10 := HB8d.out.cell 10 (vD) rfl
      have cz : ∀ i, w8d.frozen? ⟨P, i, none⟩ = false := fun i => HB8d.out.free i
      refine hK.out _ _ ⟨y_1, fun _ => y_10⟩ ?_
      have hHeld := (⟨y_1, y_10⟩ : _ ∧ _)
      clear hK K
      try simp only [Act.put, List.setIfInBounds_toArray, List.set_cons_zero, List.set_cons_succ]
      refine wpAnyT_takeB (i := 11) (oi := ⟨some 108, .nilCheck (.tmp 97), _, _, _, _⟩) (v := ?vR15x11) rfl (by kernel_rfl) (by kernel_rfl) (by kernel_rfl) (by kernel_rfl) (fun _ _ _ h => h) (Or.inl ⟨by rfl, ?hyR15x11⟩) (by assumption) ?restR15x11
      case hyR15x11 => (intro w hSw; (try dsimp only at hSw); go_simp; try (with_reducible rfl))
      try simp only [Act.put, List.setIfInBounds_toArray, List.set_cons_zero, List.set_cons_succ]
      refine wpAnyT_takeB (i := 12) (oi := ⟨some 109, .fieldAddr 58 (.tmp 108) 10, _, _, _, _⟩) (v := ?vR15x12) rfl (by kernel_rfl) (by kernel_rfl) (by kernel_rfl) (by kernel_rfl) (fun _ _ _ h => h) (Or.inl ⟨by rfl, ?hyR15x12⟩) (by assumption) ?restR15x12
      case hyR15x12 => (intro w hSw; (try dsimp only at hSw); go_simp; try (with_reducible rfl))
      try simp only [Act.put, List.setIfInBounds_toArray, List.set_cons_zero, List.set_cons_succ]
      refine wpAnyT_late (i := 13) (o := ⟨none, .store 42 (.tmp 109) (.tmp 107), _, _, _, _⟩) (by kernel_rfl) rfl (by kernel_rfl) (fun K hK => ?_)
      go_simp
      refine hK.out _ _ ?shR15x13 ?restR15x13
      case shR15x13 => ((try dsimp only); exact HAtD.out _ _ _ (HB8d.out.put (t' := ⟨vO, vT, .slice a6 (xw.length + 1) c6, .slice a7 (xn.length + 1) c7, vF, .slice a9 (xm.length + 1) c9, .slice a10 (xd.length + 1) c10, vR, sn⟩) 10 (.slice a10 (xd.length + 1) c10) rfl) (by simp))
      clear hK K
      try simp only [Act.put, List.setIfInBounds_toArray, List.set_cons_zero, List.set_cons_succ]
      refine wpAnyT_done (by kernel_rfl) ?_ _
      obtain ⟨V5, hV5⟩ : ∃ W, w8d.setCell ⟨P, 10, none⟩ (.slice a10 (xd.length + 1) c10) = W := ⟨_, rfl⟩
      have HBd : Hid (Bg B S w0 V5 P turn 0 ⟨vO, vT, .slice a6 (xw.length + 1) c6, .slice a7 (xn.length + 1) c7, vF, .slice a9 (xm.length + 1) c9, .slice a10 (xd.length + 1) c10, vR, sn⟩ ((vO, 42, xo) :: (vT, 42, xt) :: (.slice a6 (xw.length + 1) c6, 42, xw ++ [.slice la c.length lc]) :: (.slice a7 (xn.length + 1) c7, 42, xn ++ [.slice na c.length nc]) :: (.slice a9 (xm.length + 1) c9, 3, xm ++ [.int .i64 mark]) :: (.slice a10 (xd.length + 1) c10, 3, xd ++ [.int .i64 d]) :: (vF, 42, xf) :: (vR, 3, xr) :: (.slice (some ⟨gW, 0, none⟩) N cW, 42, qw) :: (.slice (some ⟨gN, 0, none⟩) N cN, 42, qn) :: (.slice (some ⟨gM, 0, none⟩) N cM, 3, qm) :: (.slice (some ⟨gD, 0, none⟩) N cD, 3, qd) :: (.slice la c.length lc, 3, ic c) :: (.slice na c.length nc, 3, ic c) :: Zr)) := by
        show Bg _ _ _ _ _ _ _ _ _
        rw [← hV5]
        exact HB8d.out.put (t' := ⟨vO, vT, .slice a6 (xw.length + 1) c6, .slice a7 (xn.length + 1) c7, vF, .slice a9 (xm.length + 1) c9, .slice a10 (xd.length + 1) c10, vR, sn⟩) 10 (.slice a10 (xd.length + 1) c10) rfl
      try rw [hV5]
      clear hHeld y_1 y_10 cz
      have HGn : Hid (MI B S w0 V5 P turn sn (.slice (some ⟨gW, 0, none⟩) N cW) (.slice (some ⟨gN, 0, none⟩) N cN) (.slice (some ⟨gM, 0, none⟩) N cM) (.slice (some ⟨gD, 0, none⟩) N cD) xO xT q X (k + 1)) := by
        obtain ⟨h1, h2, h3, h4, h5, h6, h7, h8⟩ := HX1.out
        obtain ⟨q1, q2, q3, q4, q5⟩ := HX2.out
        obtain ⟨⟨e1, e2, e3, e4, e5⟩, m2, m3, m4, m5⟩ := HF.out
        have hbE := HBd.out
        rw [← q5] at hbE
        have hpm := (perm_keep [(vO, 42, xo), (vT, 42, xt), (.slice a6 (xw.length + 1) c6, 42, xw ++ [.slice la c.length lc]), (.slice a7 (xn.length + 1) c7, 42, xn ++ [.slice na c.length nc]), (.slice a9 (xm.length + 1) c9, 3, xm ++ [.int .i64 mark]), (.slice a10 (xd.length + 1) c10, 3, xd ++ [.int .i64 d]), (vF, 42, xf), (vR, 3, xr), (.slice (some ⟨gW, 0, none⟩) N cW, 42, qw), (.slice (some ⟨gN, 0, none⟩) N cN, 42, qn), (.slice (some ⟨gM, 0, none⟩) N cM, 3, qm), (.slice (some ⟨gD, 0, none⟩) N cD, 3, qd)] Y (fl.map rwOf) (kp.flatMap wrows) ((q.drop (k + 1)).flatMap wrows ++ X) (.slice la c.length lc, 3, ic c) (.slice na c.length nc, 3, ic c))
        have hbF := bg_perm hbE hpm
        refine ⟨vO, vT, .slice a6 (xw.length + 1) c6, .slice a7 (xn.length + 1) c7, vF, .slice a9 (xm.length + 1) c9, .slice a10 (xd.length + 1) c10, vR, kp ++ [⟨.slice la c.length lc, .slice na c.length nc, c, mark, d⟩], fl, fs, ts, Y, ?_, ⟨e1, e2, by omega, by rw [List.length_append]; show kp.length + 1 ≤ k + 1; omega, by rw [List.length_append]; show fl.length + (kp.length + 1) = k + 1; omega⟩, fun x hx => ?_, m3, m4, m5⟩
        · rw [List.flatMap_append, h1, h2, q1, q2, q3, q4, h7, h8]
          have g1 : (kp ++ [(⟨.slice la c.length lc, .slice na c.length nc, c, mark, d⟩ : Wt)]).map (·.l) = xw ++ [.slice la c.length lc] := by rw [List.map_append, h3]; rfl
          have g2 : (kp ++ [(⟨.slice la c.length lc, .slice na c.length nc, c, mark, d⟩ : Wt)]).map (·.n) = xn ++ [.slice na c.length nc] := by rw [List.map_append, h4]; rfl
          have g3 : ic ((kp ++ [(⟨.slice la c.length lc, .slice na c.length nc, c, mark, d⟩ : Wt)]).map (·.m)) = xm ++ [.int .i64 mark] := by rw [← h5]; simp [ic]
          have g4 : ic ((kp ++ [(⟨.slice la c.length lc, .slice na c.length nc, c, mark, d⟩ : Wt)]).map (·.d)) = xd ++ [.int .i64 d] := by rw [← h6]; simp [ic]
          rw [g1, g2, g3, g4]
          exact hbF
        · rcases List.mem_append.1 hx with a | a
          · exact m2 x a
          · rw [List.mem_singleton.1 a]; exact HIn.out
      go_wp2_with fail
      go_roundw
      case rel =>
        first
          | exact ⟨k + 1, by go_num, by omega, HGn⟩
          | (repeat apply Exists.intro); exact ⟨⟨k + 1, by go_num, by omega, HGn⟩, rfl⟩
      case measure => simp [intOf]; omega
    · skip
      go_wp2_with fail
      go_region
      have HBd : Hid (Bg B S w0 wr.drew P turn 0 ⟨vO, vT, vW, vN, vF, vM, vD, vR, sn⟩ ((vO, 42, xo) :: (vT, 42, xt) :: (vW, 42, xw) :: (vN, 42, xn) :: (vM, 3, xm) :: (vD, 3, xd) :: (vF, 42, xf) :: (vR, 3, xr) :: (.slice (some ⟨gW, 0, none⟩) N cW, 42, qw) :: (.slice (some ⟨gN, 0, none⟩) N cN, 42, qn) :: (.slice (some ⟨gM, 0, none⟩) N cM, 3, qm) :: (.slice (some ⟨gD, 0, none⟩) N cD, 3, qd) :: (.slice la c.length lc, 3, ic c) :: (.slice na c.length nc, 3, ic c) :: Zr)) := HB0.out.below (Below.refl _ _).drew
      generalize wr.drew = V1 at HBd ⊢
      have HSm : Hid (Calls Tryz.prog 83 #[.slice la c.length lc, .slice na c.length nc] V1 fun e w' => e = .returned (.bool true) ∧ Below V1.heap.size V1 w') := bsame_any _ _ c V1 (iv_row (B := 0) (by have := HBd.out.row (x := (.slice la c.length lc, 3, ic c)) (by simp); simpa [ic] using this)) (iv_row (B := 0) (by have := HBd.out.row (x := (.slice na c.length nc, 3, ic c)) (by simp); simpa [ic] using this)) (Nat.le_trans hc1 (by decide))
      have y1 := HBd.out.cell 1 (.bool false) rfl
      have y0 := HBd.out.cell 0 (.bool false) rfl
      have yn := HAtN.out _ _ _ HBd.out (by simp)
      go_wp2_with (go_at_call 83; refine calls_at HSm.out (by with_reducible rfl) (by with_reducible rfl) ?_; rintro e w2 ⟨rfl, hb⟩; (have HBe : Hid (Bg B S w0 w2 P turn 0 ⟨vO, vT, vW, vN, vF, vM, vD, vR, sn⟩ ((vO, 42, xo) :: (vT, 42, xt) :: (vW, 42, xw) :: (vN, 42, xn) :: (vM, 3, xm) :: (vD, 3, xd) :: (vF, 42, xf) :: (vR, 3, xr) :: (.slice (some ⟨gW, 0, none⟩) N cW, 42, qw) :: (.slice (some ⟨gN, 0, none⟩) N cN, 42, qn) :: (.slice (some ⟨gM, 0, none⟩) N cM, 3, qm) :: (.slice (some ⟨gD, 0, none⟩) N cD, 3, qd) :: (.slice la c.length lc, 3, ic c) :: (.slice na c.length nc, 3, ic c) :: Zr)) := HBd.out.below hb); clear hb; (have z1 := HBe.out.cell 1 (.bool false) rfl); (have z2 := HBe.out.free 1); obtain ⟨V2, hV2⟩ : ∃ W, w2.setCell ⟨P, 1, none⟩ (.bool false) = W := ⟨_, rfl⟩; (have HBf : Hid (Bg B S w0 V2 P turn 0 ⟨vO, vT, vW, vN, vF, vM, vD, vR, sn⟩ ((vO, 42, xo) :: (vT, 42, xt) :: (vW, 42, xw) :: (vN, 42, xn) :: (vM, 3, xm) :: (vD, 3, xd) :: (vF, 42, xf) :: (vR, 3, xr) :: (.slice (some ⟨gW, 0, none⟩) N cW, 42, qw) :: (.slice (some ⟨gN, 0, none⟩) N cN, 42, qn) :: (.slice (some ⟨gM, 0, none⟩) N cM, 3, qm) :: (.slice (some ⟨gD, 0, none⟩) N cD, 3, qd) :: (.slice la c.length lc, 3, ic c) :: (.slice na c.length nc, 3, ic c) :: Zr)) := by (show Bg _ _ _ _ _ _ _ _ _); (rw [← hV2]); exact HBe.out.put 1 (.bool false) rfl))
      clear x1 x2 x3 x4 y1 y0 yn z1 z2
      go_loopw [9] (fun iv wx => ∃ i : Nat, iv = .int .i64 (i : Int) ∧ i ≤ c.length ∧ Hid (Bg B S w0 wx P turn 0 ⟨vO, vT, vW, vN, vF, vM, vD, vR, sn⟩ ((vO, 42, xo) :: (vT, 42, xt) :: (vW, 42, xw) :: (vN, 42, xn) :: (vM, 3, xm) :: (vD, 3, xd) :: (vF, 42, xf) :: (vR, 3, xr) :: (.slice (some ⟨gW, 0, none⟩) N cW, 42, qw) :: (.slice (some ⟨gN, 0, none⟩) N cN, 42, qn) :: (.slice (some ⟨gM, 0, none⟩) N cM, 3, qm) :: (.slice (some ⟨gD, 0, none⟩) N cD, 3, qd) :: (.slice la c.length lc, 3, ic (wrote mark c i)) :: (.slice na c.length nc, 3, ic c) :: Zr))) (fun iv _ => c.length - (intOf iv).toNat)
      case atStart => exact ⟨0, rfl, Nat.zero_le _, by rw [wrote_zero]; exact HBf⟩
      case round =>
      clear hV2
      obtain ⟨i, rfl, hi, HS⟩ := hrel
      rename World => wx
      by_cases hin : i < c.length
      · have hiI : (i : Int) < (c.length : Int) := by omega
        have hln : (ic (wrote mark c i)).length = c.length := by rw [ic, List.length_map, wrote_len mark c hi]
        obtain ⟨gl, hgl⟩ : ∃ gl, la = some ⟨gl, 0, none⟩ := by
          have hr := HS.out.row (x := (.slice la c.length lc, 3, ic (wrote mark c i))) (by simp)
          rcases hr.2 with ⟨_, e2⟩ | ⟨g, cap, cur, e1, _⟩
          · rw [hln] at e2; omega
          · injection e1 with e1 _ _; exact ⟨g, e1⟩
        subst hgl
        have v1 := bg_at (g := gl) (n := c.length) (cap := lc) (e := 3) (k := i) (List.getElem?_eq_getElem (by rw [hln]; exact hin)) HS.out (by simp)
        have v2 := bg_free (g := gl) (n := c.length) (cap := lc) (e := 3) (xs := ic (wrote mark c i)) HS.out (by simp) i
        have hw1 : wrap64 (3 * (i : Int)) = 3 * (i : Int) := by unfold wrap64; omega
        have hw2 : wrap64 (mark + 3 * (i : Int)) = mark + 3 * (i : Int) := by unfold wrap64; omega
        obtain ⟨V3, hV3⟩ : ∃ W, wx.setCell ⟨gl, i, none⟩ (.int .i64 (mark + 3 * (i : Int))) = W := ⟨_, rfl⟩
        have HS2 : Hid (Bg B S w0 V3 P turn 0 ⟨vO, vT, vW, vN, vF, vM, vD, vR, sn⟩ ((vO, 42, xo) :: (vT, 42, xt) :: (vW, 42, xw) :: (vN, 42, xn) :: (vM, 3, xm) :: (vD, 3, xd) :: (vF, 42, xf) :: (vR, 3, xr) :: (.slice (some ⟨gW, 0, none⟩) N cW, 42, qw) :: (.slice (some ⟨gN, 0, none⟩) N cN, 42, qn) :: (.slice (some ⟨gM, 0, none⟩) N cM, 3, qm) :: (.slice (some ⟨gD, 0, none⟩) N cD, 3, qd) :: (.slice (some ⟨gl, 0, none⟩) c.length lc, 3, ic (wrote mark c (i + 1))) :: (.slice na c.length nc, 3, ic c) :: Zr)) := by
          show Bg _ _ _ _ _ _ _ _ _
          have h2 := bg_set2 (A := [(vO, 42, xo), (vT, 42, xt), (vW, 42, xw), (vN, 42, xn), (vM, 3, xm), (vD, 3, xd), (vF, 42, xf), (vR, 3, xr), (.slice (some ⟨gW, 0, none⟩) N cW, 42, qw), (.slice (some ⟨gN, 0, none⟩) N cN, 42, qn), (.slice (some ⟨gM, 0, none⟩) N cM, 3, qm), (.slice (some ⟨gD, 0, none⟩) N cD, 3, qd)]) (n := c.length) (cap := lc) (ty := 3) (i := i) (u := .int .i64 (mark + 3 * (i : Int))) hln HS.out (by omega)
          rw [hV3, ic_set, wrote_succ mark c hin] at h2
          exact h2
        go_wp2_with fail
        go_roundw
        case rel => exact ⟨i + 1, by go_num, by omega, HS2⟩
        case measure => simp [intOf]; omega
      · have hiI : ¬ (i : Int) < (c.length : Int) := by omega
        have hie : i = c.length := by omega
        subst hie
        rw [wrote_end] at HS
        (have HRg : Hid (World.ownsRow wx 0 42 1 (vO) (xo).length (xo)) := HS.out.row (x := (vO, 42, xo)) (by simp)); (have kg := HS.out.cell 4 (vO) rfl); (have fg := HS.out.free 4)
        go_wp2_with (at_builtin; refine append_one wx (.slice la c.length lc) rfl _ _ 41 42 (.slice none 0 0) 24 rfl bun41 binf42 rfl 0 _ _ _ (by rfl) HRg.out rfl _ rfl (by rfl) (by unfold maxLen; omega) (by omega) (Nat.zero_le _) ?_; intro v_g w_g ho hg hn; obtain ⟨a4, c4, rfl⟩ := own_slice ho; (have hB := Bg.app (A := []) (xs := xo) HS.out ho hg hn); (have qg : w_g.cell? ⟨P, 4, none⟩ = some (vO) := hB.cell 4 _ rfl); (have qzg : ∀ i, w_g.frozen? ⟨P, i, none⟩ = false := fun i => hB.free i); obtain ⟨X2, hX2⟩ : ∃ W, w_g.setCell ⟨P, 4, none⟩ (.slice a4 (xo.length + 1) c4) = W := ⟨_, rfl⟩; (have HBg : Hid (Bg B S w0 X2 P turn 0 ⟨.slice a4 (xo.length + 1) c4, vT, vW, vN, vF, vM, vD, vR, sn⟩ ((.slice a4 (xo.length + 1) c4, 42, xo ++ [.slice la c.length lc]) :: (vT, 42, xt) :: (vW, 42, xw) :: (vN, 42, xn) :: (vM, 3, xm) :: (vD, 3, xd) :: (vF, 42, xf) :: (vR, 3, xr) :: (.slice (some ⟨gW, 0, none⟩) N cW, 42, qw) :: (.slice (some ⟨gN, 0, none⟩) N cN, 42, qn) :: (.slice (some ⟨gM, 0, none⟩) N cM, 3, qm) :: (.slice (some ⟨gD, 0, none⟩) N cD, 3, qd) :: (.slice la c.length lc, 3, ic (full mark c.length)) :: (.slice na c.length nc, 3, ic c) :: Zr)) := by (show Bg _ _ _ _ _ _ _ _ _); (rw [← hX2]); exact hB.put 4 (.slice a4 (xo.length + 1) c4) rfl); clear ho hg hn hB)
        try rw [hX2]
        have HC0 : Hid (X2.drew.cell? ⟨P, 1, none⟩ = some (.bool false) ∧ X2.drew.cell? ⟨P, 5, none⟩ = some vT) := ⟨HBg.out.cell 1 (.bool false) rfl, HBg.out.cell 5 vT rfl⟩
        refine wp_region_T (fun w' => w'.cell? ⟨P, 1, none⟩ = some (.bool false)) (fun w' => w'.cell? ⟨P, 5, none⟩ = some vT) [12] (by kernel_rfl) HC0.out (fun hHeld => ?_)
        clear HC0
        have HBU : Hid (Bg B S w0 X2.drew P turn 0 ⟨.slice a4 (xo.length + 1) c4, vT, vW, vN, vF, vM, vD, vR, sn⟩ ((.slice a4 (xo.length + 1) c4, 42, xo ++ [.slice la c.length lc]) :: (vT, 42, xt) :: (vW, 42, xw) :: (vN, 42, xn) :: (vM, 3, xm) :: (vD, 3, xd) :: (vF, 42, xf) :: (vR, 3, xr) :: (.slice (some ⟨gW, 0, none⟩) N cW, 42, qw) :: (.slice (some ⟨gN, 0, none⟩) N cN, 42, qn) :: (.slice (some ⟨gM, 0, none⟩) N cM, 3, qm) :: (.slice (some ⟨gD, 0, none⟩) N cD, 3, qd) :: (.slice la c.length lc, 3, ic (full mark c.length)) :: (.slice na c.length nc, 3, ic c) :: Zr)) := HBg.out.below (Below.refl _ _).drew
        generalize X2.drew = U at hHeld HBU ⊢
        refine wpAnyT_takeB (i := 0) (oi := ⟨some 156, .move (.tmp 0), _, _, _, _⟩) (v := ?vR22x0) rfl (by kernel_rfl) (by kernel_rfl) (by kernel_rfl) (by kernel_rfl) (fun _ _ _ h => h) (Or.inl ⟨by rfl, ?hyR22x0⟩) (by assumption) ?restR22x0
        case hyR22x0 => (intro w hSw; (try dsimp only at hSw); go_simp; try (with_reducible rfl))
        try simp only [Act.put, List.setIfInBounds_toArray, List.set_cons_zero, List.set_cons_succ]
        refine wpAnyT_takeB (i := 1) (oi := ⟨some 157, .move (.tmp 0), _, _, _, _⟩) (v := ?vR22x1) rfl (by kernel_rfl) (by kernel_rfl) (by kernel_rfl) (by kernel_rfl) (fun _ _ _ h => h) (Or.inl ⟨by rfl, ?hyR22x1⟩) (by assumption) ?restR22x1
        case hyR22x1 => (intro w hSw; (try dsimp only at hSw); go_simp; try (with_reducible rfl))
        try simp only [Act.put, List.setIfInBounds_toArray, List.set_cons_zero, List.set_cons_succ]
        refine wpAnyT_takeB (i := 2) (oi := ⟨some 158, .nilCheck (.tmp 157), _, _, _, _⟩) (v := ?vR22x2) rfl (by kernel_rfl) (by kernel_rfl) (by kernel_rfl) (by kernel_rfl) (fun _ _ _ h => h) (Or.inl ⟨by rfl, ?hyR22x2⟩) (by assumption) ?restR22x2
        case hyR22x2 => (intro w hSw; (try dsimp only at hSw); go_simp; try (with_reducible rfl))
        try simp only [Act.put, List.setIfInBounds_toArray, List.set_cons_zero, List.set_cons_succ]
        refine wpAnyT_takeB (i := 3) (oi := ⟨some 159, .fieldAddr 58 (.tmp 158) 5, _, _, _, _⟩) (v := ?vR22x3) rfl (by kernel_rfl) (by kernel_rfl) (by kernel_rfl) (by kernel_rfl) (fun _ _ _ h => h) (Or.inl ⟨by rfl, ?hyR22x3⟩) (by assumption) ?restR22x3
        case hyR22x3 => (intro w hSw; (try dsimp only at hSw); go_simp; try (with_reducible rfl))
        try simp only [Act.put, List.setIfInBounds_toArray, List.set_cons_zero, List.set_cons_succ]
        refine wpAnyT_take (i := 4) (oi := ⟨some 160, .load 41 (.tmp 159), _, _, _, _⟩) (v := ?vR22x4) rfl (by kernel_rfl) (by kernel_rfl) (by kernel_rfl) (by kernel_rfl) (by kernel_rfl) (fun _ _ _ h => h) (Or.inl ⟨by rfl, ?hyR22x4⟩) (by assumption) ?restR22x4
        case hyR22x4 => (intro w hSw; (try dsimp only at hSw); go_simp; try (with_reducible rfl))
        try simp only [Act.put, List.setIfInBounds_toArray, List.set_cons_zero, List.set_cons_succ]
        refine wpAnyT_takeB (i := 6) (oi := ⟨some 162, .move (.tmp 7), _, _, _, _⟩) (v := ?vR22x6) rfl (by kernel_rfl) (by kernel_rfl) (by kernel_rfl) (by kernel_rfl) (fun _ _ _ h => h) (Or.inl ⟨by rfl, ?hyR22x6⟩) (by assumption) ?restR22x6
        case hyR22x6 => (intro w hSw; (try dsimp only at hSw); go_simp; try (with_reducible rfl))
        try simp only [Act.put, List.setIfInBounds_toArray, List.set_cons_zero, List.set_cons_succ]
        refine wpAnyT_one (i := 5) (o := ⟨some 161, .buildSlice 42 0 #[], _, _, _, _⟩) (by kernel_rfl) rfl (fun K hK => ?_)
        go_simp
        obtain ⟨Yw, hY⟩ : ∃ Yw, U.alloc (.cells #[] 3) = Yw := ⟨_, rfl⟩
        have HbY : Hid (Below U.heap.size U Yw) := by show Below _ _ _; rw [← hY]; exact (Below.refl _ _).alloc (Nat.le_refl _) _
        have HoY : Hid (Yw.ownsRow U.heap.size 3 1 (.slice (some ⟨U.heap.size, 0, none⟩) 0 0) 0 []) := ⟨rfl, .inr ⟨U.heap.size, 0, #[], rfl, Nat.le_refl _, by rw [← hY]; exact heap_alloc_new U _, Nat.le_refl _, Nat.zero_le _, rfl, rfl⟩⟩
        have HBY : Hid (Bg B S w0 Yw P turn 0 ⟨.slice a4 (xo.length + 1) c4, vT, vW, vN, vF, vM, vD, vR, sn⟩ ((.slice a4 (xo.length + 1) c4, 42, xo ++ [.slice la c.length lc]) :: (vT, 42, xt) :: (vW, 42, xw) :: (vN, 42, xn) :: (vM, 3, xm) :: (vD, 3, xd) :: (vF, 42, xf) :: (vR, 3, xr) :: (.slice (some ⟨gW, 0, none⟩) N cW, 42, qw) :: (.slice (some ⟨gN, 0, none⟩) N cN, 42, qn) :: (.slice (some ⟨gM, 0, none⟩) N cM, 3, qm) :: (.slice (some ⟨gD, 0, none⟩) N cD, 3, qd) :: (.slice la c.length lc, 3, ic (full mark c.length)) :: (.slice na c.length nc, 3, ic c) :: Zr)) := HBU.out.below HbY.out
        rw [hY]
        clear hY hHeld
        have hHeld : _ ∧ _ := ⟨HBY.out.cell 1 (.bool false) rfl, HBY.out.cell 5 vT rfl⟩
        refine hK.out _ _ ⟨hHeld.1, fun _ => hHeld.2⟩ ?_
        clear hK K
        try simp only [Act.put, List.setIfInBounds_toArray, List.set_cons_zero, List.set_cons_succ]
        refine wpAnyT_one (i := 7) (o := ⟨some 163, .call { callee := .builtin .append, args := #[(.tmp 161), (.tmp 162)], argTypes := #[42, 42] }, _, _, _, _⟩) (by kernel_rfl) rfl (fun K hK => ?_)
        have HSv : SrcAt Yw (.slice la c.length lc) c.length 1 (ic (full mark c.length)) := by
          have hr : Yw.ownsRow 0 3 1 (.slice la c.length lc) (full mark c.length).length (ic (full mark c.length)) := by have := HBY.out.row (x := (.slice la c.length lc, 3, ic (full mark c.length))) (by simp); simpa [ic] using this
          have := iv_src (iv_row hr)
          rw [full_len] at this
          exact this
        refine op_append_src Yw (.tmp 161) (.tmp 162) 42 3 (.int .i64 0) 1 8 rfl bun42 binf3 rfl (by decide) U.heap.size _ _ 0 c.length [] (ic (full mark c.length)) (by rfl) (by rfl) HoY.out HSv (by unfold maxLen; omega) (by omega) HbY.out.size (by rfl) ?_
        intro u w5 o1 o2 o3
        rw [Nat.zero_add, List.nil_append] at o1
        obtain ⟨ua, uc, rfl⟩ := own_slice o1
        have hb5 : Below U.heap.size U w5 := HbY.out.grown o2 HbY.out.size (fun g hg => (HoY.out.lt g hg).1)
        have HB5 : Hid (Bg B S w0 w5 P turn 0 ⟨.slice a4 (xo.length + 1) c4, vT, vW, vN, vF, vM, vD, vR, sn⟩ ((.slice ua c.length uc, 3, ic (full mark c.length)) :: (.slice a4 (xo.length + 1) c4, 42, xo ++ [.slice la c.length lc]) :: (vT, 42, xt) :: (vW, 42, xw) :: (vN, 42, xn) :: (vM, 3, xm) :: (vD, 3, xd) :: (vF, 42, xf) :: (vR, 3, xr) :: (.slice (some ⟨gW, 0, none⟩) N cW, 42, qw) :: (.slice (some ⟨gN, 0, none⟩) N cN, 42, qn) :: (.slice (some ⟨gM, 0, none⟩) N cM, 3, qm) :: (.slice (some ⟨gD, 0, none⟩) N cD, 3, qd) :: (.slice la c.length lc, 3, ic (full mark c.length)) :: (.slice na c.length nc, 3, ic c) :: Zr)) := (HBU.out.below hb5).add (x := (.slice ua c.length uc, 3, ic (full mark c.length))) (by have := its_less o1 (Nat.zero_le _); have e : (ic (full mark c.length)).length = c.length := (by rw [ic, List.length_map, full_len]); rw [e]; exact this) (fun g hg y hy e => by have a1 := (o1.lt g hg).1; have a2 := HBU.out.sg.its.lt hy e; omega) (.inr rfl) (fun g hg => Nat.le_trans HBU.out.size (o1.lt g hg).1)
        clear HSv o1 o2 o3 hb5 hHeld
        have hHeld : _ ∧ _ := ⟨HB5.out.cell 1 (.bool false) rfl, HB5.out.cell 5 vT rfl⟩
        refine hK.out _ _ ⟨hHeld.1, fun _ => hHeld.2⟩ ?_
        clear hK K
        try simp only [Act.put, List.setIfInBounds_toArray, List.set_cons_zero, List.set_cons_succ]
        refine wpAnyT_one (i := 8) (o := ⟨some 164, .buildSlice 41 1 #[(0, (.tmp 163))], _, _, _, _⟩) (by kernel_rfl) rfl (fun K hK => ?_)
        go_simp
        obtain ⟨Z, hZ⟩ : ∃ Z, w5.alloc (.cells #[.slice ua c.length uc] 42) = Z := ⟨_, rfl⟩
        have HbZ : Hid (Below w5.heap.size w5 Z) := by show Below _ _ _; rw [← hZ]; exact (Below.refl _ _).alloc (Nat.le_refl _) _
        have HSz : Hid (SrcAt Z (.slice (some ⟨w5.heap.size, 0, none⟩) 1 1) 1 1 [.slice ua c.length uc]) := src_one (by rw [← hZ]; exact heap_alloc_new w5 _) rfl
        have HZ : Hid (w5.alloc (.cells #[.slice ua c.length uc] 42) = Z ∧ Z.heap.size = w5.heap.size + 1) := ⟨hZ, by rw [← hZ]; simp⟩
        rw [hZ]
        clear hZ hHeld
        have hHeld : _ ∧ _ := ⟨(HB5.out.below HbZ.out).cell 1 (.bool false) rfl, (HB5.out.below HbZ.out).cell 5 vT rfl⟩
        refine hK.out _ _ ⟨hHeld.1, fun _ => hHeld.2⟩ ?_
        clear hK K
        try simp only [Act.put, List.setIfInBounds_toArray, List.set_cons_zero, List.set_cons_succ]
        refine wpAnyT_one (i := 9) (o := ⟨some 165, .call { callee := .builtin .append, args := #[(.tmp 160), (.tmp 164)], argTypes := #[41, 41] }, _, _, _, _⟩) (by kernel_rfl) rfl (fun K hK => ?_)
        have hown : Z.ownsRow 0 42 1 vT xt.length xt := (HB5.out.below HbZ.out).row (x := (vT, 42, xt)) (by simp)
        refine op_append_src Z (.tmp 160) (.tmp 164) 41 42 (.slice none 0 0) 1 24 rfl bun41 binf42 rfl (by decide) 0 _ _ xt.length 1 xt _ (by rfl) (by rfl) hown HSz.out (by unfold maxLen; omega) (by omega) (Nat.zero_le _) (by rfl) ?_
        intro v7 w7 o1 o2 o3
        obtain ⟨a5, c5, rfl⟩ := own_slice o1
        have hB7 := Bg.app (A := [(.slice ua c.length uc, 3, ic (full mark c.length)), (.slice a4 (xo.length + 1) c4, 42, xo ++ [.slice la c.length lc])]) (xs := xt) HB5.out o1 (by rw [HZ.out.1]; exact o2) (by rw [← HZ.out.2]; exact o3)
        have HB7 : Hid (Bg B S w0 w7 P turn 0 ⟨.slice a4 (xo.length + 1) c4, vT, vW, vN, vF, vM, vD, vR, sn⟩ ((.slice ua c.length uc, 3, ic (full mark c.length)) :: (.slice a4 (xo.length + 1) c4, 42, xo ++ [.slice la c.length lc]) :: (.slice a5 (xt.length + 1) c5, 42, xt ++ [.slice ua c.length uc]) :: (vW, 42, xw) :: (vN, 42, xn) :: (vM, 3, xm) :: (vD, 3, xd) :: (vF, 42, xf) :: (vR, 3, xr) :: (.slice (some ⟨gW, 0, none⟩) N cW, 42, qw) :: (.slice (some ⟨gN, 0, none⟩) N cN, 42, qn) :: (.slice (some ⟨gM, 0, none⟩) N cM, 3, qm) :: (.slice (some ⟨gD, 0, none⟩) N cD, 3, qd) :: (.slice la c.length lc, 3, ic (full mark c.length)) :: (.slice na c.length nc, 3, ic c) :: Zr)) := hB7
        clear o1 o2 o3 hown hHeld hB7
        have y_1 := HB7.out.cell 1 (.bool false) rfl
        have y_5 := HB7.out.cell 5 vT rfl
        have cz : ∀ i, w7.frozen? ⟨P, i, none⟩ = false := fun i => HB7.out.free i
        refine hK.out _ _ ⟨y_1, fun _ => y_5⟩ ?_
        have hHeld := (⟨y_1, y_5⟩ : _ ∧ _)
        clear hK K
        try simp only [Act.put, List.setIfInBounds_toArray, List.set_cons_zero, List.set_cons_succ]
        refine wpAnyT_takeB (i := 10) (oi := ⟨some 166, .nilCheck (.tmp 156), _, _, _, _⟩) (v := ?vR22x10) rfl (by kernel_rfl) (by kernel_rfl) (by kernel_rfl) (by kernel_rfl) (fun _ _ _ h => h) (Or.inl ⟨by rfl, ?hyR22x10⟩) (by assumption) ?restR22x10
        case hyR22x10 => (intro w hSw; (try dsimp only at hSw); go_simp; try (with_reducible rfl))
        try simp only [Act.put, List.setIfInBounds_toArray, List.set_cons_zero, List.set_cons_succ]
        refine wpAnyT_takeB (i := 11) (oi := ⟨some 167, .fieldAddr 58 (.tmp 166) 5, _, _, _, _⟩) (v := ?vR22x11) rfl (by kernel_rfl) (by kernel_rfl) (by kernel_rfl) (by kernel_rfl) (fun _ _ _ h => h) (Or.inl ⟨by rfl, ?hyR22x11⟩) (by assumption) ?restR22x11
        case hyR22x11 => (intro w hSw; (try dsimp only at hSw); go_simp; try (with_reducible rfl))
        try simp only [Act.put, List.setIfInBounds_toArray, List.set_cons_zero, List.set_cons_succ]
        refine wpAnyT_late (i := 12) (o := ⟨none, .store 41 (.tmp 167) (.tmp 165), _, _, _, _⟩) (by kernel_rfl) rfl (by kernel_rfl) (fun K hK => ?_)
        go_simp
        refine hK.out _ _ ?shR22x12 ?restR22x12
        case shR22x12 => ((try dsimp only); exact ((HB7.out.put (t' := ⟨.slice a4 (xo.length + 1) c4, .slice a5 (xt.length + 1) c5, vW, vN, vF, vM, vD, vR, sn⟩) 5 (.slice a5 (xt.length + 1) c5) rfl).cell 1 (.bool false) rfl))
        clear hK K
        try simp only [Act.put, List.setIfInBounds_toArray, List.set_cons_zero, List.set_cons_succ]
        refine wpAnyT_done (by kernel_rfl) ?_ _
        obtain ⟨X3, hX3⟩ : ∃ W, w7.setCell ⟨P, 5, none⟩ (.slice a5 (xt.length + 1) c5) = W := ⟨_, rfl⟩
        have HBh : Hid (Bg B S w0 X3 P turn 0 ⟨.slice a4 (xo.length + 1) c4, .slice a5 (xt.length + 1) c5, vW, vN, vF, vM, vD, vR, sn⟩ ((.slice ua c.length uc, 3, ic (full mark c.length)) :: (.slice a4 (xo.length + 1) c4, 42, xo ++ [.slice la c.length lc]) :: (.slice a5 (xt.length + 1) c5, 42, xt ++ [.slice ua c.length uc]) :: (vW, 42, xw) :: (vN, 42, xn) :: (vM, 3, xm) :: (vD, 3, xd) :: (vF, 42, xf) :: (vR, 3, xr) :: (.slice (some ⟨gW, 0, none⟩) N cW, 42, qw) :: (.slice (some ⟨gN, 0, none⟩) N cN, 42, qn) :: (.slice (some ⟨gM, 0, none⟩) N cM, 3, qm) :: (.slice (some ⟨gD, 0, none⟩) N cD, 3, qd) :: (.slice la c.length lc, 3, ic (full mark c.length)) :: (.slice na c.length nc, 3, ic c) :: Zr)) := by
          show Bg _ _ _ _ _ _ _ _ _
          rw [← hX3]
          exact HB7.out.put (t' := ⟨.slice a4 (xo.length + 1) c4, .slice a5 (xt.length + 1) c5, vW, vN, vF, vM, vD, vR, sn⟩) 5 (.slice a5 (xt.length + 1) c5) rfl
        try rw [hX3]
        clear hHeld y_1 y_5 cz
        (have HRi : Hid (World.ownsRow X3 0 42 1 (vF) (xf).length (xf)) := HBh.out.row (x := (vF, 42, xf)) (by simp)); (have ki := HBh.out.cell 8 (vF) rfl); (have fi := HBh.out.free 8)
        go_wp2_with (first | (at_builtin; refine append_one X3 (.slice la c.length lc) rfl _ _ 41 42 (.slice none 0 0) 24 rfl bun41 binf42 rfl 0 _ _ _ (by rfl) HRi.out rfl _ rfl (by rfl) (by unfold maxLen; omega) (by omega) (Nat.zero_le _) ?_; intro v_i w_i ho hg hn; obtain ⟨a8, c8, rfl⟩ := own_slice ho; (have hB := Bg.app (A := [(.slice ua c.length uc, 3, ic (full mark c.length)), (.slice a4 (xo.length + 1) c4, 42, xo ++ [.slice la c.length lc]), (.slice a5 (xt.length + 1) c5, 42, xt ++ [.slice ua c.length uc]), (vW, 42, xw), (vN, 42, xn), (vM, 3, xm), (vD, 3, xd)]) (xs := xf) HBh.out ho hg hn); (have qi : w_i.cell? ⟨P, 8, none⟩ = some (vF) := hB.cell 8 _ rfl); (have qzi : ∀ i, w_i.frozen? ⟨P, i, none⟩ = false := fun i => hB.free i); obtain ⟨X4, hX4⟩ : ∃ W, w_i.setCell ⟨P, 8, none⟩ (.slice a8 (xf.length + 1) c8) = W := ⟨_, rfl⟩; (have HBi : Hid (Bg B S w0 X4 P turn 0 ⟨.slice a4 (xo.length + 1) c4, .slice a5 (xt.length + 1) c5, vW, vN, .slice a8 (xf.length + 1) c8, vM, vD, vR, sn⟩ ((.slice ua c.length uc, 3, ic (full mark c.length)) :: (.slice a4 (xo.length + 1) c4, 42, xo ++ [.slice la c.length lc]) :: (.slice a5 (xt.length + 1) c5, 42, xt ++ [.slice ua c.length uc]) :: (vW, 42, xw) :: (vN, 42, xn) :: (vM, 3, xm) :: (vD, 3, xd) :: (.slice a8 (xf.length + 1) c8, 42, xf ++ [.slice la c.length lc]) :: (vR, 3, xr) :: (.slice (some ⟨gW, 0, none⟩) N cW, 42, qw) :: (.slice (some ⟨gN, 0, none⟩) N cN, 42, qn) :: (.slice (some ⟨gM, 0, none⟩) N cM, 3, qm) :: (.slice (some ⟨gD, 0, none⟩) N cD, 3, qd) :: (.slice la c.length lc, 3, ic (full mark c.length)) :: (.slice na c.length nc, 3, ic c) :: Zr)) := by (show Bg _ _ _ _ _ _ _ _ _); (rw [← hX4]); exact hB.put 8 (.slice a8 (xf.length + 1) c8) rfl); clear ho hg hn hB; (have HRj : Hid (World.ownsRow X4 0 3 1 (vR) (xr).length (xr)) := HBi.out.row (x := (vR, 3, xr)) (by simp)); (have kj := HBi.out.cell 11 (vR) rfl); (have fj := HBi.out.free 11)) | (at_builtin; refine append_one X4 (.int .i64 mark) rfl _ _ 42 3 (.int .i64 0) 8 rfl bun42 binf3 rfl 0 _ _ _ (by rfl) HRj.out rfl _ rfl (by rfl) (by unfold maxLen; omega) (by omega) (Nat.zero_le _) ?_; intro v_j w_j ho hg hn; obtain ⟨a11, c11, rfl⟩ := own_slice ho; (have hB := Bg.app (A := [(.slice ua c.length uc, 3, ic (full mark c.length)), (.slice a4 (xo.length + 1) c4, 42, xo ++ [.slice la c.length lc]), (.slice a5 (xt.length + 1) c5, 42, xt ++ [.slice ua c.length uc]), (vW, 42, xw), (vN, 42, xn), (vM, 3, xm), (vD, 3, xd), (.slice a8 (xf.length + 1) c8, 42, xf ++ [.slice la c.length lc])]) (xs := xr) HBi.out ho hg hn); (have qj : w_j.cell? ⟨P, 11, none⟩ = some (vR) := hB.cell 11 _ rfl); (have qzj : ∀ i, w_j.frozen? ⟨P, i, none⟩ = false := fun i => hB.free i); obtain ⟨X5, hX5⟩ : ∃ W, w_j.setCell ⟨P, 11, none⟩ (.slice a11 (xr.length + 1) c11) = W := ⟨_, rfl⟩; (have HBj : Hid (Bg B S w0 X5 P turn 0 ⟨.slice a4 (xo.length + 1) c4, .slice a5 (xt.length + 1) c5, vW, vN, .slice a8 (xf.length + 1) c8, vM, vD, .slice a11 (xr.length + 1) c11, sn⟩ ((.slice ua c.length uc, 3, ic (full mark c.length)) :: (.slice a4 (xo.length + 1) c4, 42, xo ++ [.slice la c.length lc]) :: (.slice a5 (xt.length + 1) c5, 42, xt ++ [.slice ua c.length uc]) :: (vW, 42, xw) :: (vN, 42, xn) :: (vM, 3, xm) :: (vD, 3, xd) :: (.slice a8 (xf.length + 1) c8, 42, xf ++ [.slice la c.length lc]) :: (.slice a11 (xr.length + 1) c11, 3, xr ++ [.int .i64 mark]) :: (.slice (some ⟨gW, 0, none⟩) N cW, 42, qw) :: (.slice (some ⟨gN, 0, none⟩) N cN, 42, qn) :: (.slice (some ⟨gM, 0, none⟩) N cM, 3, qm) :: (.slice (some ⟨gD, 0, none⟩) N cD, 3, qd) :: (.slice la c.length lc, 3, ic (full mark c.length)) :: (.slice na c.length nc, 3, ic c) :: Zr)) := by (show Bg _ _ _ _ _ _ _ _ _); (rw [← hX5]); exact hB.put 11 (.slice a11 (xr.length + 1) c11) rfl); clear ho hg hn hB))
        try rw [hX5]
        have HGn : Hid (MI B S w0 X5 P turn sn (.slice (some ⟨gW, 0, none⟩) N cW) (.slice (some ⟨gN, 0, none⟩) N cN) (.slice (some ⟨gM, 0, none⟩) N cM) (.slice (some ⟨gD, 0, none⟩) N cD) xO xT q X (k + 1)) := by
          obtain ⟨h1, h2, h3, h4, h5, h6, h7, h8⟩ := HX1.out
          obtain ⟨q1, q2, q3, q4, q5⟩ := HX2.out
          obtain ⟨⟨e1, e2, e3, e4, e5⟩, m2, m3, m4, m5⟩ := HF.out
          have hbE := HBj.out
          rw [← q5] at hbE
          have hpm := ((perm_wrote [(.slice a4 (xo.length + 1) c4, 42, xo ++ [.slice la c.length lc]), (.slice a5 (xt.length + 1) c5, 42, xt ++ [.slice ua c.length uc]), (vW, 42, xw), (vN, 42, xn), (vM, 3, xm), (vD, 3, xd), (.slice a8 (xf.length + 1) c8, 42, xf ++ [.slice la c.length lc]), (.slice a11 (xr.length + 1) c11, 3, xr ++ [.int .i64 mark]), (.slice (some ⟨gW, 0, none⟩) N cW, 42, qw), (.slice (some ⟨gN, 0, none⟩) N cN, 42, qn), (.slice (some ⟨gM, 0, none⟩) N cM, 3, qm), (.slice (some ⟨gD, 0, none⟩) N cD, 3, qd)] Y (fl.map rwOf) (kp.flatMap wrows ++ ((q.drop (k + 1)).flatMap wrows ++ X)) (.slice la c.length lc, 3, ic (full mark c.length)) (.slice na c.length nc, 3, ic c)).cons (.slice ua c.length uc, 3, ic (full mark c.length))).trans List.perm_middle.symm
          have hbF := bg_perm hbE hpm
          refine ⟨.slice a4 (xo.length + 1) c4, .slice a5 (xt.length + 1) c5, vW, vN, .slice a8 (xf.length + 1) c8, vM, vD, .slice a11 (xr.length + 1) c11, kp, fl ++ [(.slice la c.length lc, full mark c.length)], fs ++ [mark], ts ++ [.slice ua c.length uc], (.slice ua c.length uc, 3, ic (full mark c.length)) :: (.slice na c.length nc, 3, ic c) :: Y, ?_, ⟨by rw [List.length_append, List.length_append, e1]; rfl, by rw [List.length_append, List.length_append, e2]; rfl, by rw [List.length_append]; show fl.length + 1 ≤ k + 1; omega, by omega, by rw [List.length_append]; show fl.length + 1 + kp.length = k + 1; omega⟩, m2, fun p hp => ?_, fun m hm => ?_, fun j j1 j2 => ?_⟩
          · have g1 : xO ++ (fl ++ [((.slice la c.length lc, full mark c.length) : Value × List Int)]).map (·.1) = xo ++ [.slice la c.length lc] := by rw [List.map_append, ← List.append_assoc, h1]; rfl
            have g2 : xT ++ (ts ++ [.slice ua c.length uc]) = xt ++ [.slice ua c.length uc] := by rw [← List.append_assoc, h2]
            have g3 : (fl ++ [((.slice la c.length lc, full mark c.length) : Value × List Int)]).map (·.1) = xf ++ [.slice la c.length lc] := by rw [List.map_append, h7]; rfl
            have g4 : ic (fs ++ [mark]) = xr ++ [.int .i64 mark] := by rw [← h8]; simp [ic]
            have g5 : (fl ++ [((.slice la c.length lc, full mark c.length) : Value × List Int)]).map rwOf = fl.map rwOf ++ [(.slice la c.length lc, 3, ic (full mark c.length))] := by rw [List.map_append]; rfl
            rw [g1, g2, g3, g4, g5, h3, h4, h5, h6, q1, q2, q3, q4]
            exact hbF
          · rcases List.mem_append.1 hp with a | a
            · exact m3 p a
            · rw [List.mem_singleton.1 a]
              show (full mark c.length).length ≤ 90000
              rw [full_len]
              exact hc1
          · rcases List.mem_append.1 hm with a | a
            · exact m4 m a
            · rw [List.mem_singleton.1 a]
              exact ⟨hc2, hc3⟩
          · by_cases hj : j < fl.length
            · rw [List.getElem_append_left (by omega), List.getElem_append_left hj]
              exact List.mem_cons_of_mem _ (List.mem_cons_of_mem _ (m5 j (by omega) hj))
            · have j3 : j = fl.length := by have j4 := j2; rw [List.length_append] at j4; have j5 : j < fl.length + 1 := j4; omega
              subst j3
              have t1 : (ts ++ [.slice ua c.length uc])[fl.length]'j1 = .slice ua c.length uc := by rw [List.getElem_append_right (by omega)]; simp [e1]
              have t2 : (fl ++ [((.slice la c.length lc, full mark c.length) : Value × List Int)])[fl.length]'j2 = (.slice la c.length lc, full mark c.length) := by rw [List.getElem_append_right (Nat.le_refl _)]; simp
              rw [t1, t2]
              exact List.mem_cons_self
        go_roundw
        case rel =>
          exact ⟨k + 1, by go_num, by omega, HGn⟩
        case measure => simp [intOf]; omega
  · have hkI : ¬ (k : Int) < (N : Int) := by omega
    have hkl : k = N := by omega
    subst hkl
    go_wp2_with fail
    go_end0
    refine ⟨rfl, ?_⟩
    rw [HNl.out]
    exact HG.out
end Go.Proofs.YtchpapppkmnfnaaGreatDoor
