/-
  Put together: BiGrowW, BiMark.
-/
import Derived.Test.YtchpapppkmnfnaaGreatDoorJ44
namespace Go.Proofs.YtchpapppkmnfnaaGreatDoor
open Go.RowKit

def rwOf (p : Value × List Int) : Rw := (p.1, 3, ic p.2)
/-- k lists are laid on. -/
structure GI (B : Nat) (S : Nat → Prop) (w0 w : World) (P : Nat) (turn : Int) (vW vN vF vM vD vR sn : Value) (xO xT : List Value) (fl : List (Value × List Int)) (fs : List Int) (X Y0 : List Rw) (k : Nat) : Prop where
  ex : ∃ vO vT Y gs ts, Bg B S w0 w P turn 0 ⟨vO, vT, vW, vN, vF, vM, vD, vR, sn⟩ (Y ++ (vO, 42, xO ++ gs) :: (vT, 42, xT ++ ts) :: (vF, 42, fl.map (·.1)) :: (vR, 3, ic fs) :: ((fl.drop k).map rwOf ++ X)) ∧ gs.length = k ∧ ts.length = k ∧ (∀ y ∈ Y0, y ∈ Y) ∧ ∀ j (h : j < k) (h1 : j < gs.length) (h2 : j < ts.length) (h3 : j < fl.length) (h4 : j < fs.length), (gs[j], 3, ic (fl[j].2 ++ tl fs[j] 30)) ∈ Y ∧ (ts[j], 3, ic (fl[j].2 ++ tl fs[j] 30)) ∈ Y ∧ Vw Y fl[j].1 fl[j].2

theorem bg_sub {B P : Nat} {S : Nat → Prop} {w0 w : World} {turn deep : Int} {t : Tx} {L M : List Rw} (h : Bg B S w0 w P turn deep t L) (hs : M.Sublist L) : Bg B S w0 w P turn deep t M :=
  ⟨h.sg.sub hs, ⟨h.fr.st, fun k hk => h.fr.gr k (by
    rcases hk with e | ⟨x, hx, e⟩
    · exact .inl e
    · exact .inr ⟨x, hs.subset hx, e⟩)⟩, h.hS, h.hB⟩
theorem gr_start {B P : Nat} {S : Nat → Prop} {w0 w : World} {turn deep : Int} {t : Tx} {rest : List Rw} {l : Value} {c : List Int} {mark : Int} (h : Bg B S w0 w P turn deep t ((l, 3, ic c) :: rest)) : GrSt B S w0 w P turn deep t rest l l c mark 0 := by
  have hr := h.row (x := (l, 3, ic c)) (by simp)
  have e0 : c ++ tl mark 0 = c := by simp [tl]
  have hr' : w.ownsRow 0 3 1 l c.length (ic c) := by simpa [ic] using hr
  rcases hr'.2 with ⟨e, e2⟩ | ⟨g, cap, cur, e, _⟩
  · exact .inl ⟨none, 0, by rw [e, e2], by rw [e, e2], fun _ => ⟨e2, rfl⟩, by rw [e0]; exact h⟩
  · exact .inl ⟨some ⟨g, 0, none⟩, cap, by rw [e], by rw [e]; rfl, (by intro h; cases h), by rw [e0]; exact h⟩

set_option maxRecDepth 10000 in
set_option maxHeartbeats 4000000 in
theorem growInts_any {B P : Nat} {S : Nat → Prop} {turn : Int} {vW vN vF vM vD vR sn : Value} {xO xT : List Value} {fl : List (Value × List Int)} {fs : List Int} {X Y0 : List Rw} (w0 w : World) (h : GI B S w0 w P turn vW vN vF vM vD vR sn xO xT fl fs X Y0 0) (hf : fs.length = fl.length) (hl : xO.length ≤ 1000000 ∧ xT.length ≤ 1000000 ∧ fl.length ≤ 1000000) (hc : ∀ p ∈ fl, p.2.length ≤ 100000) (hm : ∀ m ∈ fs, -1000000 ≤ m ∧ m ≤ 1000000) : Calls Tryz.prog 143 #[.pointer (some ⟨P, 0, none⟩)] w fun e w' => e = .returned (.tuple #[]) ∧ ∃ vO vT Y gs ts, Bg B S w0 w' P turn 0 ⟨vO, vT, vW, vN, .slice none 0 0, vM, vD, .slice none 0 0, sn⟩ (Y ++ (vO, 42, xO ++ gs) :: (vT, 42, xT ++ ts) :: X) ∧ gs.length = fl.length ∧ ts.length = fl.length ∧ (∀ y ∈ Y0, y ∈ Y) ∧ ∀ j (h1 : j < gs.length) (h2 : j < ts.length) (h3 : j < fl.length) (h4 : j < fs.length), (gs[j], 3, ic (fl[j].2 ++ tl fs[j] 30)) ∈ Y ∧ (ts[j], 3, ic (fl[j].2 ++ tl fs[j] 30)) ∈ Y ∧ Vw Y fl[j].1 fl[j].2 := by
  obtain ⟨Fa, Fc, rfl⟩ : ∃ a c, vF = .slice a fl.length c := by
    obtain ⟨_, _, _, _, _, hb, _⟩ := h.ex
    have := own_slice (hb.row (x := (vF, 42, fl.map (·.1))) (by simp))
    simpa using this
  obtain ⟨Ra, Rc, rfl⟩ : ∃ a c, vR = .slice a fl.length c := by
    obtain ⟨_, _, _, _, _, hb, _⟩ := h.ex
    have := own_slice (hb.row (x := (vR, 3, ic fs)) (by simp))
    simpa [ic, hf] using this
  have HI : Hid (GI B S w0 w P turn vW vN (.slice Fa fl.length Fc) vM vD (.slice Ra fl.length Rc) sn xO xT fl fs X Y0 0) := h
  have HC : Hid (∀ p ∈ fl, p.2.length ≤ 100000) := hc
  have HMk : Hid (∀ m ∈ fs, -1000000 ≤ m ∧ m ≤ 1000000) := hm
  obtain ⟨l1, l2, l3⟩ := hl
  have HF : Hid (fs.length = fl.length) := hf
  clear h hc hm hf
  go_enter Tryz.func143, Tryz.ntmps143
  go_wp2_with fail
  go_loopw [2] (fun iv wr => ∃ k : Nat, iv = .int .i64 (k : Int) ∧ k ≤ fl.length ∧ Hid (GI B S w0 wr P turn vW vN (.slice Fa fl.length Fc) vM vD (.slice Ra fl.length Rc) sn xO xT fl fs X Y0 k)) (fun iv _ => fl.length - (intOf iv).toNat)
  case atStart => exact ⟨0, rfl, Nat.zero_le _, HI⟩
  case round =>
  obtain ⟨k, rfl, hk, HG⟩ := hrel
  obtain ⟨vOk, vTk, Y, gs, ts, hb, hgs, hts, hY0, hall⟩ := HG.out.ex
  have k8 := hb.cell 8 (.slice Fa fl.length Fc) rfl
  have k11 := hb.cell 11 (.slice Ra fl.length Rc) rfl
  by_cases hkn : k < fl.length
  · have hkI : (k : Int) < (fl.length : Int) := by omega
    obtain ⟨xo, hxo⟩ : ∃ x, xO ++ gs = x := ⟨_, rfl⟩
    obtain ⟨xt, hxt⟩ : ∃ x, xT ++ ts = x := ⟨_, rfl⟩
    rw [hxo, hxt] at hb
    have HXo : Hid (xO ++ gs = xo) := hxo
    have HXt : Hid (xT ++ ts = xt) := hxt
    have HGs : Hid (gs.length = k ∧ ts.length = k) := ⟨hgs, hts⟩
    have hLO : xo.length ≤ 2000000 := by rw [← hxo, List.length_append]; omega
    have HLn : Hid (xt.length ≤ 2000000) := by show _ ≤ _; rw [← hxt, List.length_append]; omega
    clear hxo hxt hgs hts
    have hkf : k < fs.length := by have := HF.out; omega
    obtain ⟨g8, e8, x8⟩ : ∃ g, Fa = some ⟨g, 0, none⟩ ∧ wr.cell? ⟨g, k, none⟩ = some fl[k].1 := by
      obtain ⟨a, cap, e, hq⟩ := lv_row (hb.row (x := (.slice Fa fl.length Fc, 42, fl.map (·.1))) (by simp))
      obtain ⟨g, e2, _, e3⟩ := hq k (by simpa using hkn)
      injection e with e _ _
      exact ⟨g, e.trans e2, by simpa using e3⟩
    obtain ⟨g11, e11, x11⟩ : ∃ g, Ra = some ⟨g, 0, none⟩ ∧ wr.cell? ⟨g, k, none⟩ = some (.int .i64 fs[k]) := by
      obtain ⟨a, cap, e, hq⟩ := lv_row (hb.row (x := (.slice Ra fl.length Rc, 3, ic fs)) (by simp))
      obtain ⟨g, e2, _, e3⟩ := hq k (by simpa [ic] using hkf)
      injection e with e _ _
      exact ⟨g, e.trans e2, by simpa [ic] using e3⟩
    subst e8 e11
    have hcl := HC.out fl[k] (List.getElem_mem hkn)
    have hmk := HMk.out fs[k] (List.getElem_mem hkf)
    have HDr : Hid ((fl.drop k).map rwOf = rwOf fl[k] :: (fl.drop (k + 1)).map rwOf) := by show _ = _; rw [List.drop_eq_getElem_cons hkn, List.map_cons]
    have HAll : Hid (∀ j (h : j < k) (h1 : j < gs.length) (h2 : j < ts.length) (h3 : j < fl.length) (h4 : j < fs.length), (gs[j], 3, ic (fl[j].2 ++ tl fs[j] 30)) ∈ Y ∧ (ts[j], 3, ic (fl[j].2 ++ tl fs[j] 30)) ∈ Y ∧ Vw Y fl[j].1 fl[j].2) := hall
    have HLst : Hid (fl[k].1 = fl[k].1 ∧ (∀ l c m, fl[k] = (l, c) → fs[k] = m → True)) := ⟨rfl, fun _ _ _ _ _ => trivial⟩
    obtain ⟨l, c, hlc⟩ : ∃ l c, fl[k] = (l, c) := ⟨_, _, rfl⟩
    obtain ⟨mark, hmm⟩ : ∃ m, fs[k] = m := ⟨_, rfl⟩
    have HKk : Hid (fl[k] = (l, c) ∧ fs[k] = mark) := ⟨hlc, hmm⟩
    rw [hlc] at x8 hcl HDr
    rw [hmm] at x11 hmk
    obtain ⟨D, hD⟩ : ∃ D, (fl.drop (k + 1)).map rwOf = D := ⟨_, rfl⟩
    rw [hD] at HDr
    have HDk : Hid ((fl.drop (k + 1)).map rwOf = D) := hD
    clear hD
    have hp : Bg B S w0 wr P turn 0 ⟨vOk, vTk, vW, vN, .slice (some ⟨g8, 0, none⟩) fl.length Fc, vM, vD, .slice (some ⟨g11, 0, none⟩) fl.length Rc, sn⟩ ((l, 3, ic c) :: (Y ++ (vOk, 42, xo) :: (vTk, 42, xt) :: (.slice (some ⟨g8, 0, none⟩) fl.length Fc, 42, fl.map (·.1)) :: (.slice (some ⟨g11, 0, none⟩) fl.length Rc, 3, ic fs) :: (D ++ X))) := by
      rw [HDr.out] at hb
      have hpm := List.perm_middle (a := (rwOf (l, c))) (l₁ := Y ++ [(vOk, 42, xo), (vTk, 42, xt), (.slice (some ⟨g8, 0, none⟩) fl.length Fc, 42, fl.map (·.1)), (.slice (some ⟨g11, 0, none⟩) fl.length Rc, 3, ic fs)]) (l₂ := D ++ X)
      rw [List.append_assoc, List.append_assoc] at hpm
      refine ⟨hb.sg.perm hpm, ⟨hb.fr.st, fun k hk => hb.fr.gr k ?_⟩, hb.hS, hb.hB⟩
      rcases hk with e | ⟨x, hx, e⟩
      · exact .inl e
      · exact .inr ⟨x, hpm.mem_iff.2 hx, e⟩
    have hgs0 : GrSt B S w0 wr P turn 0 ⟨vOk, vTk, vW, vN, .slice (some ⟨g8, 0, none⟩) fl.length Fc, vM, vD, .slice (some ⟨g11, 0, none⟩) fl.length Rc, sn⟩ (Y ++ (vOk, 42, xo) :: (vTk, 42, xt) :: (.slice (some ⟨g8, 0, none⟩) fl.length Fc, 42, fl.map (·.1)) :: (.slice (some ⟨g11, 0, none⟩) fl.length Rc, 3, ic fs) :: (D ++ X)) l l c mark 0 := gr_start hp
    obtain ⟨la, lc, rfl⟩ : ∃ a b, l = .slice a c.length b := by
      have := own_slice (hp.row (x := (l, 3, ic c)) (by simp))
      simpa [ic] using this
    have HG0 : Hid (GrSt B S w0 wr P turn 0 ⟨vOk, vTk, vW, vN, .slice (some ⟨g8, 0, none⟩) fl.length Fc, vM, vD, .slice (some ⟨g11, 0, none⟩) fl.length Rc, sn⟩ (Y ++ (vOk, 42, xo) :: (vTk, 42, xt) :: (.slice (some ⟨g8, 0, none⟩) fl.length Fc, 42, fl.map (·.1)) :: (.slice (some ⟨g11, 0, none⟩) fl.length Rc, 3, ic fs) :: (D ++ X)) (.slice la c.length lc) (.slice la c.length lc) c mark 0) := hgs0
    clear hp hgs0 hb hall
    go_wp2_with fail
    go_loopw [4, 5] (fun gv iv wx => ∃ i : Nat, iv = .int .i64 (i : Int) ∧ i ≤ 30 ∧ Hid (GrSt B S w0 wx P turn 0 ⟨vOk, vTk, vW, vN, .slice (some ⟨g8, 0, none⟩) fl.length Fc, vM, vD, .slice (some ⟨g11, 0, none⟩) fl.length Rc, sn⟩ (Y ++ (vOk, 42, xo) :: (vTk, 42, xt) :: (.slice (some ⟨g8, 0, none⟩) fl.length Fc, 42, fl.map (·.1)) :: (.slice (some ⟨g11, 0, none⟩) fl.length Rc, 3, ic fs) :: (D ++ X)) (.slice la c.length lc) gv c mark i)) (fun _ iv _ => 30 - (intOf iv).toNat)
    case atStart => exact ⟨0, rfl, by omega, HG0⟩
    case round =>
    obtain ⟨i, rfl, hi, HS⟩ := hrel
    clear k8 k11 x8 x11 HG0
    obtain ⟨ga, gc, rfl⟩ := own_slice HS.out.row
    rename World => wx
    by_cases hi3 : i < 30
    · have hiI : (i : Int) < 30 := by omega
      have hw1 : wrap64 (5 * (i : Int)) = 5 * (i : Int) := by unfold wrap64; omega
      have hw0 : wrap64 (mark + 6) = mark + 6 := by unfold wrap64; omega
      have hw2 : wrap64 (mark + 6 + 5 * (i : Int)) = mark + 6 + 5 * (i : Int) := by unfold wrap64; omega
      obtain ⟨V1, hV1⟩ : ∃ V, wx.alloc (.cells #[.int .i64 (mark + 6 + 5 * (i : Int))] 3) = V := ⟨_, rfl⟩
      have HS1 : Hid (SrcAt V1 (.slice (some ⟨wx.heap.size, 0, none⟩) 1 1) 1 1 [.int .i64 (mark + 6 + 5 * (i : Int))]) := src_one (by rw [← hV1]; exact heap_alloc_new wx _) rfl
      have HR1 : Hid (V1.ownsRow 0 3 1 (.slice ga (c.length + i) gc) (c.length + i) (ic (c ++ tl mark i))) := by
        show World.ownsRow _ _ _ _ _ _ _
        obtain ⟨Z, hz⟩ := HS.out.bg
        have hz1 := (hz.below (w' := V1) (by rw [← hV1]; exact (Below.refl _ _).alloc (Nat.le_refl _) _)).row (x := (.slice ga (c.length + i) gc, 3, ic (c ++ tl mark i))) (by simp)
        have e : (ic (c ++ tl mark i)).length = c.length + i := by simp [ic, tl]
        simpa [e] using hz1
      go_wp2_with (at_builtin; (first | rw [hV1] | skip); go_loud (refine append_keep V1 rfl (.tmp 33) (.tmp 39) 42 3 (.int .i64 0) 1 8 rfl bun42 binf3 rfl (by decide) 0 (.slice ga (c.length + i) gc) _ (c.length + i) 1 (ic (c ++ tl mark i)) _ (by rfl) (by rfl) HR1.out HS1.out (by unfold maxLen; omega) (by omega) (Nat.zero_le _) (by omega) ?_; intro v1 w3 g1 g2 g3; obtain ⟨x1, y1, rfl⟩ := own_slice g1; (have HG : Hid (GrSt B S w0 w3 P turn 0 ⟨vOk, vTk, vW, vN, .slice (some ⟨g8, 0, none⟩) fl.length Fc, vM, vD, .slice (some ⟨g11, 0, none⟩) fl.length Rc, sn⟩ (Y ++ (vOk, 42, xo) :: (vTk, 42, xt) :: (.slice (some ⟨g8, 0, none⟩) fl.length Fc, 42, fl.map (·.1)) :: (.slice (some ⟨g11, 0, none⟩) fl.length Rc, 3, ic fs) :: (D ++ X)) (.slice la c.length lc) (.slice x1 (c.length + i + 1) y1) c mark (i + 1)) := gr_step HS.out g1 (by rw [hV1]; exact g2) (by rw [hV1]; exact g3)); clear g1 g2 g3))
      go_roundw
      case rel => exact ⟨i + 1, by go_num, by omega, HG⟩
      case measure => simp [intOf]; omega
    · have hiI : ¬ (i : Int) < 30 := by omega
      have hi30 : i = 30 := by omega
      subst hi30
      obtain ⟨Y1, hb1, hy1, hv1⟩ := HS.out.fin
      rw [← List.append_assoc] at hb1
      have HB1 : Hid (Bg B S w0 wx P turn 0 ⟨vOk, vTk, vW, vN, .slice (some ⟨g8, 0, none⟩) fl.length Fc, vM, vD, .slice (some ⟨g11, 0, none⟩) fl.length Rc, sn⟩ ((Y1 ++ Y) ++ (vOk, 42, xo) :: (vTk, 42, xt) :: (.slice (some ⟨g8, 0, none⟩) fl.length Fc, 42, fl.map (·.1)) :: (.slice (some ⟨g11, 0, none⟩) fl.length Rc, 3, ic fs) :: (D ++ X))) := hb1
      have hYm : Hid ((.slice ga (c.length + 30) gc, 3, ic (c ++ tl mark 30)) ∈ Y1) := hy1
      have HVw : Hid (Vw Y1 (.slice la c.length lc) c) := hv1
      have k4 := hb1.cell 4 vOk rfl
      have HWr : Hid (wx.ownsRow 0 42 1 vOk xo.length xo) := hb1.row (x := (vOk, 42, xo)) (by simp)
      have HFl : Hid ((c ++ tl mark 30).length = c.length + 30) := by show _ = _; rw [List.length_append, tl_len]
      clear hb1 hy1 hv1 HS
      go_wp2_with (at_builtin; refine append_one wx (.slice ga (c.length + 30) gc) rfl _ _ 41 42 (.slice none 0 0) 24 rfl bun41 binf42 rfl 0 _ _ _ (by rfl) HWr.out rfl _ rfl (by rfl) (by unfold maxLen; omega) (by omega) (Nat.zero_le _) ?_; intro v6 w6 ho6 hg6 hn6; obtain ⟨a6, c6, rfl⟩ := own_slice ho6; (have hB6 := Bg.app (A := Y1 ++ Y) (xs := xo) HB1.out ho6 hg6 hn6); (have q6 : w6.cell? ⟨P, 4, none⟩ = some vOk := hB6.cell 4 _ rfl); (have qz : ∀ i, w6.frozen? ⟨P, i, none⟩ = false := fun i => hB6.free i); obtain ⟨W2, hW2⟩ : ∃ W, w6.setCell ⟨P, 4, none⟩ (.slice a6 (xo.length + 1) c6) = W := ⟨_, rfl⟩; (have b2 := hB6.put (t' := ⟨.slice a6 (xo.length + 1) c6, vTk, vW, vN, .slice (some ⟨g8, 0, none⟩) fl.length Fc, vM, vD, .slice (some ⟨g11, 0, none⟩) fl.length Rc, sn⟩) 4 (.slice a6 (xo.length + 1) c6) rfl); rw [hW2] at b2; clear ho6 hg6 hn6 hB6)
      try rw [hW2]
      have HB2 : Hid (Bg B S w0 W2 P turn 0 ⟨.slice a6 (xo.length + 1) c6, vTk, vW, vN, .slice (some ⟨g8, 0, none⟩) fl.length Fc, vM, vD, .slice (some ⟨g11, 0, none⟩) fl.length Rc, sn⟩ ((Y1 ++ Y) ++ (.slice a6 (xo.length + 1) c6, 42, xo ++ [.slice ga (c.length + 30) gc]) :: (vTk, 42, xt) :: (.slice (some ⟨g8, 0, none⟩) fl.length Fc, 42, fl.map (·.1)) :: (.slice (some ⟨g11, 0, none⟩) fl.length Rc, 3, ic fs) :: (D ++ X))) := b2
      have HC0 : Hid (W2.drew.cell? ⟨P, 1, none⟩ = some (.bool false) ∧ W2.drew.cell? ⟨P, 5, none⟩ = some vTk) := ⟨HB2.out.cell 1 (.bool false) rfl, HB2.out.cell 5 vTk rfl⟩
      clear b2
      refine wp_region_T (fun w' => w'.cell? ⟨P, 1, none⟩ = some (.bool false)) (fun w' => w'.cell? ⟨P, 5, none⟩ = some vTk) [12] (by kernel_rfl) HC0.out (fun hHeld => ?_)
      clear HC0
      have HBU : Hid (Bg B S w0 W2.drew P turn 0 ⟨.slice a6 (xo.length + 1) c6, vTk, vW, vN, .slice (some ⟨g8, 0, none⟩) fl.length Fc, vM, vD, .slice (some ⟨g11, 0, none⟩) fl.length Rc, sn⟩ ((Y1 ++ Y) ++ (.slice a6 (xo.length + 1) c6, 42, xo ++ [.slice ga (c.length + 30) gc]) :: (vTk, 42, xt) :: (.slice (some ⟨g8, 0, none⟩) fl.length Fc, 42, fl.map (·.1)) :: (.slice (some ⟨g11, 0, none⟩) fl.length Rc, 3, ic fs) :: (D ++ X))) := HB2.out.below (Below.refl _ _).drew
      generalize W2.drew = U at hHeld HBU ⊢
      refine wpAnyT_takeB (i := 0) (oi := ⟨some 51, .move (.tmp 0), _, _, _, _⟩) (v := ?vR10x0) rfl (by kernel_rfl) (by kernel_rfl) (by kernel_rfl) (by kernel_rfl) (fun _ _ _ h => h) (Or.inl ⟨by rfl, ?hyR10x0⟩) (by assumption) ?restR10x0
      case hyR10x0 => (intro w hSw; (try dsimp only at hSw); go_simp; try (with_reducible rfl))
      try simp only [Act.put, List.setIfInBounds_toArray, List.set_cons_zero, List.set_cons_succ]
      refine wpAnyT_takeB (i := 1) (oi := ⟨some 52, .move (.tmp 0), _, _, _, _⟩) (v := ?vR10x1) rfl (by kernel_rfl) (by kernel_rfl) (by kernel_rfl) (by kernel_rfl) (fun _ _ _ h => h) (Or.inl ⟨by rfl, ?hyR10x1⟩) (by assumption) ?restR10x1
      case hyR10x1 => (intro w hSw; (try dsimp only at hSw); go_simp; try (with_reducible rfl))
      try simp only [Act.put, List.setIfInBounds_toArray, List.set_cons_zero, List.set_cons_succ]
      refine wpAnyT_takeB (i := 2) (oi := ⟨some 53, .nilCheck (.tmp 52), _, _, _, _⟩) (v := ?vR10x2) rfl (by kernel_rfl) (by kernel_rfl) (by kernel_rfl) (by kernel_rfl) (fun _ _ _ h => h) (Or.inl ⟨by rfl, ?hyR10x2⟩) (by assumption) ?restR10x2
      case hyR10x2 => (intro w hSw; (try dsimp only at hSw); go_simp; try (with_reducible rfl))
      try simp only [Act.put, List.setIfInBounds_toArray, List.set_cons_zero, List.set_cons_succ]
      refine wpAnyT_takeB (i := 3) (oi := ⟨some 54, .fieldAddr 58 (.tmp 53) 5, _, _, _, _⟩) (v := ?vR10x3) rfl (by kernel_rfl) (by kernel_rfl) (by kernel_rfl) (by kernel_rfl) (fun _ _ _ h => h) (Or.inl ⟨by rfl, ?hyR10x3⟩) (by assumption) ?restR10x3
      case hyR10x3 => (intro w hSw; (try dsimp only at hSw); go_simp; try (with_reducible rfl))
      try simp only [Act.put, List.setIfInBounds_toArray, List.set_cons_zero, List.set_cons_succ]
      refine wpAnyT_take (i := 4) (oi := ⟨some 55, .load 41 (.tmp 54), _, _, _, _⟩) (v := ?vR10x4) rfl (by kernel_rfl) (by kernel_rfl) (by kernel_rfl) (by kernel_rfl) (by kernel_rfl) (fun _ _ _ h => h) (Or.inl ⟨by rfl, ?hyR10x4⟩) (by assumption) ?restR10x4
      case hyR10x4 => (intro w hSw; (try dsimp only at hSw); go_simp; try (with_reducible rfl))
      try simp only [Act.put, List.setIfInBounds_toArray, List.set_cons_zero, List.set_cons_succ]
      refine wpAnyT_takeB (i := 6) (oi := ⟨some 57, .move (.tmp 4), _, _, _, _⟩) (v := ?vR10x6) rfl (by kernel_rfl) (by kernel_rfl) (by kernel_rfl) (by kernel_rfl) (fun _ _ _ h => h) (Or.inl ⟨by rfl, ?hyR10x6⟩) (by assumption) ?restR10x6
      case hyR10x6 => (intro w hSw; (try dsimp only at hSw); go_simp; try (with_reducible rfl))
      try simp only [Act.put, List.setIfInBounds_toArray, List.set_cons_zero, List.set_cons_succ]
      refine wpAnyT_one (i := 5) (o := ⟨some 56, .buildSlice 42 0 #[], _, _, _, _⟩) (by kernel_rfl) rfl (fun K hK => ?_)
      go_simp
      obtain ⟨Yw, hY⟩ : ∃ Yw, U.alloc (.cells #[] 3) = Yw := ⟨_, rfl⟩
      have HbY : Hid (Below U.heap.size U Yw) := by show Below _ _ _; rw [← hY]; exact (Below.refl _ _).alloc (Nat.le_refl _) _
      have HoY : Hid (Yw.ownsRow U.heap.size 3 1 (.slice (some ⟨U.heap.size, 0, none⟩) 0 0) 0 []) := ⟨rfl, .inr ⟨U.heap.size, 0, #[], rfl, Nat.le_refl _, by rw [← hY]; exact heap_alloc_new U _, Nat.le_refl _, Nat.zero_le _, rfl, rfl⟩⟩
      have HBY : Hid (Bg B S w0 Yw P turn 0 ⟨.slice a6 (xo.length + 1) c6, vTk, vW, vN, .slice (some ⟨g8, 0, none⟩) fl.length Fc, vM, vD, .slice (some ⟨g11, 0, none⟩) fl.length Rc, sn⟩ ((Y1 ++ Y) ++ (.slice a6 (xo.length + 1) c6, 42, xo ++ [.slice ga (c.length + 30) gc]) :: (vTk, 42, xt) :: (.slice (some ⟨g8, 0, none⟩) fl.length Fc, 42, fl.map (·.1)) :: (.slice (some ⟨g11, 0, none⟩) fl.length Rc, 3, ic fs) :: (D ++ X))) := HBU.out.below HbY.out
      rw [hY]
      clear hY hHeld
      have hHeld : _ ∧ _ := ⟨HBY.out.cell 1 (.bool false) rfl, HBY.out.cell 5 vTk rfl⟩
      refine hK.out _ _ ⟨hHeld.1, fun _ => hHeld.2⟩ ?_
      clear hK K
      try simp only [Act.put, List.setIfInBounds_toArray, List.set_cons_zero, List.set_cons_succ]
      refine wpAnyT_one (i := 7) (o := ⟨some 58, .call { callee := .builtin .append, args := #[(.tmp 56), (.tmp 57)], argTypes := #[42, 42] }, _, _, _, _⟩) (by kernel_rfl) rfl (fun K hK => ?_)
      have HSv : SrcAt Yw (.slice ga (c.length + 30) gc) (c.length + 30) 1 (ic (c ++ tl mark 30)) := by
        have hr : Yw.ownsRow 0 3 1 (.slice ga (c.length + 30) gc) (c ++ tl mark 30).length (ic (c ++ tl mark 30)) := by have := HBY.out.row (x := (.slice ga (c.length + 30) gc, 3, ic (c ++ tl mark 30))) (by simp [hYm.out]); simpa [ic] using this
        have := iv_src (iv_row hr)
        rw [HFl.out] at this
        exact this
      refine op_append_src Yw (.tmp 56) (.tmp 57) 42 3 (.int .i64 0) 1 8 rfl bun42 binf3 rfl (by decide) U.heap.size _ _ 0 (c.length + 30) [] (ic (c ++ tl mark 30)) (by rfl) (by rfl) HoY.out HSv (by unfold maxLen; omega) (by omega) HbY.out.size (by rfl) ?_
      intro u w5 o1 o2 o3
      rw [Nat.zero_add, List.nil_append] at o1
      obtain ⟨ua, uc, rfl⟩ := own_slice o1
      have hb5 : Below U.heap.size U w5 := HbY.out.grown o2 HbY.out.size (fun g hg => (HoY.out.lt g hg).1)
      have HB5 : Hid (Bg B S w0 w5 P turn 0 ⟨.slice a6 (xo.length + 1) c6, vTk, vW, vN, .slice (some ⟨g8, 0, none⟩) fl.length Fc, vM, vD, .slice (some ⟨g11, 0, none⟩) fl.length Rc, sn⟩ ((.slice ua (c.length + 30) uc, 3, ic (c ++ tl mark 30)) :: ((Y1 ++ Y) ++ (.slice a6 (xo.length + 1) c6, 42, xo ++ [.slice ga (c.length + 30) gc]) :: (vTk, 42, xt) :: (.slice (some ⟨g8, 0, none⟩) fl.length Fc, 42, fl.map (·.1)) :: (.slice (some ⟨g11, 0, none⟩) fl.length Rc, 3, ic fs) :: (D ++ X)))) := (HBU.out.below hb5).add (x := (.slice ua (c.length + 30) uc, 3, ic (c ++ tl mark 30))) (by have := its_less o1 (Nat.zero_le _); have e : (ic (c ++ tl mark 30)).length = c.length + 30 := (by have := HFl.out; simpa [ic] using this); rw [e]; exact this) (fun g hg y hy e => by have a1 := (o1.lt g hg).1; have a2 := HBU.out.sg.its.lt hy e; omega) (.inr rfl) (fun g hg => Nat.le_trans HBU.out.size (o1.lt g hg).1)
      clear HSv o1 o2 o3 hb5 hHeld
      have hHeld : _ ∧ _ := ⟨HB5.out.cell 1 (.bool false) rfl, HB5.out.cell 5 vTk rfl⟩
      refine hK.out _ _ ⟨hHeld.1, fun _ => hHeld.2⟩ ?_
      clear hK K
      try simp only [Act.put, List.setIfInBounds_toArray, List.set_cons_zero, List.set_cons_succ]
      refine wpAnyT_one (i := 8) (o := ⟨some 59, .buildSlice 41 1 #[(0, (.tmp 58))], _, _, _, _⟩) (by kernel_rfl) rfl (fun K hK => ?_)
      go_simp
      obtain ⟨Z, hZ⟩ : ∃ Z, w5.alloc (.cells #[.slice ua (c.length + 30) uc] 42) = Z := ⟨_, rfl⟩
      have HbZ : Hid (Below w5.heap.size w5 Z) := by show Below _ _ _; rw [← hZ]; exact (Below.refl _ _).alloc (Nat.le_refl _) _
      have HSz : Hid (SrcAt Z (.slice (some ⟨w5.heap.size, 0, none⟩) 1 1) 1 1 [.slice ua (c.length + 30) uc]) := src_one (by rw [← hZ]; exact heap_alloc_new w5 _) rfl
      have HZ : Hid (w5.alloc (.cells #[.slice ua (c.length + 30) uc] 42) = Z ∧ Z.heap.size = w5.heap.size + 1) := ⟨hZ, by rw [← hZ]; simp⟩
      rw [hZ]
      clear hZ hHeld
      have hHeld : _ ∧ _ := ⟨(HB5.out.below HbZ.out).cell 1 (.bool false) rfl, (HB5.out.below HbZ.out).cell 5 vTk rfl⟩
      refine hK.out _ _ ⟨hHeld.1, fun _ => hHeld.2⟩ ?_
      clear hK K
      try simp only [Act.put, List.setIfInBounds_toArray, List.set_cons_zero, List.set_cons_succ]
      refine wpAnyT_one (i := 9) (o := ⟨some 60, .call { callee := .builtin .append, args := #[(.tmp 55), (.tmp 59)], argTypes := #[41, 41] }, _, _, _, _⟩) (by kernel_rfl) rfl (fun K hK => ?_)
      have hown : Z.ownsRow 0 42 1 vTk xt.length xt := (HB5.out.below HbZ.out).row (x := (vTk, 42, xt)) (by simp)
      refine op_append_src Z (.tmp 55) (.tmp 59) 41 42 (.slice none 0 0) 1 24 rfl bun41 binf42 rfl (by decide) 0 _ _ xt.length 1 xt _ (by rfl) (by rfl) hown HSz.out (by have := HLn.out; unfold maxLen; omega) (by have := HLn.out; omega) (Nat.zero_le _) (by rfl) ?_
      intro v7 w7 o1 o2 o3
      obtain ⟨a7, c7, rfl⟩ := own_slice o1
      have hB7 := Bg.app (A := (.slice ua (c.length + 30) uc, 3, ic (c ++ tl mark 30)) :: (Y1 ++ Y) ++ [(.slice a6 (xo.length + 1) c6, 42, xo ++ [.slice ga (c.length + 30) gc])]) (C := (.slice (some ⟨g8, 0, none⟩) fl.length Fc, 42, fl.map (·.1)) :: (.slice (some ⟨g11, 0, none⟩) fl.length Rc, 3, ic fs) :: (D ++ X)) (v := vTk) (ty := 42) (xs := xt) (by simpa using HB5.out) o1 (by rw [HZ.out.1]; exact o2) (by rw [← HZ.out.2]; exact o3)
      have HB7 : Hid (Bg B S w0 w7 P turn 0 ⟨.slice a6 (xo.length + 1) c6, vTk, vW, vN, .slice (some ⟨g8, 0, none⟩) fl.length Fc, vM, vD, .slice (some ⟨g11, 0, none⟩) fl.length Rc, sn⟩ (((.slice ua (c.length + 30) uc, 3, ic (c ++ tl mark 30)) :: (Y1 ++ Y)) ++ (.slice a6 (xo.length + 1) c6, 42, xo ++ [.slice ga (c.length + 30) gc]) :: (.slice a7 (xt.length + 1) c7, 42, xt ++ [.slice ua (c.length + 30) uc]) :: (.slice (some ⟨g8, 0, none⟩) fl.length Fc, 42, fl.map (·.1)) :: (.slice (some ⟨g11, 0, none⟩) fl.length Rc, 3, ic fs) :: (D ++ X))) := by rw [List.append_assoc] at hB7; exact hB7
      clear o1 o2 o3 hown hHeld hB7
      have c1 := HB7.out.cell 1 (.bool false) rfl
      have c5' := HB7.out.cell 5 vTk rfl
      have cz : ∀ i, w7.frozen? ⟨P, i, none⟩ = false := fun i => HB7.out.free i
      refine hK.out _ _ ⟨c1, fun _ => c5'⟩ ?_
      have hHeld := (⟨c1, c5'⟩ : _ ∧ _)
      clear hK K
      try simp only [Act.put, List.setIfInBounds_toArray, List.set_cons_zero, List.set_cons_succ]
      refine wpAnyT_takeB (i := 10) (oi := ⟨some 61, .nilCheck (.tmp 51), _, _, _, _⟩) (v := ?vR10x10) rfl (by kernel_rfl) (by kernel_rfl) (by kernel_rfl) (by kernel_rfl) (fun _ _ _ h => h) (Or.inl ⟨by rfl, ?hyR10x10⟩) (by assumption) ?restR10x10
      case hyR10x10 => (intro w hSw; (try dsimp only at hSw); go_simp; try (with_reducible rfl))
      try simp only [Act.put, List.setIfInBounds_toArray, List.set_cons_zero, List.set_cons_succ]
      refine wpAnyT_takeB (i := 11) (oi := ⟨some 62, .fieldAddr 58 (.tmp 61) 5, _, _, _, _⟩) (v := ?vR10x11) rfl (by kernel_rfl) (by kernel_rfl) (by kernel_rfl) (by kernel_rfl) (fun _ _ _ h => h) (Or.inl ⟨by rfl, ?hyR10x11⟩) (by assumption) ?restR10x11
      case hyR10x11 => (intro w hSw; (try dsimp only at hSw); go_simp; try (with_reducible rfl))
      try simp only [Act.put, List.setIfInBounds_toArray, List.set_cons_zero, List.set_cons_succ]
      refine wpAnyT_late (i := 12) (o := ⟨none, .store 41 (.tmp 62) (.tmp 60), _, _, _, _⟩) (by kernel_rfl) rfl (by kernel_rfl) (fun K hK => ?_)
      go_simp
      refine hK.out _ _ ?shR10x12 ?restR10x12
      case shR10x12 => ((try dsimp only); exact ((HB7.out.put (t' := ⟨.slice a6 (xo.length + 1) c6, .slice a7 (xt.length + 1) c7, vW, vN, .slice (some ⟨g8, 0, none⟩) fl.length Fc, vM, vD, .slice (some ⟨g11, 0, none⟩) fl.length Rc, sn⟩) 5 (.slice a7 (xt.length + 1) c7) rfl).cell 1 (.bool false) rfl))
      clear hK K
      try simp only [Act.put, List.setIfInBounds_toArray, List.set_cons_zero, List.set_cons_succ]
      refine wpAnyT_done (by kernel_rfl) ?_ _
      obtain ⟨W3, hW3⟩ : ∃ W, w7.setCell ⟨P, 5, none⟩ (.slice a7 (xt.length + 1) c7) = W := ⟨_, rfl⟩
      have b3 := HB7.out.put (t' := ⟨.slice a6 (xo.length + 1) c6, .slice a7 (xt.length + 1) c7, vW, vN, .slice (some ⟨g8, 0, none⟩) fl.length Fc, vM, vD, .slice (some ⟨g11, 0, none⟩) fl.length Rc, sn⟩) 5 (.slice a7 (xt.length + 1) c7) rfl
      rw [hW3] at b3
      try rw [hW3]

      have HGn : Hid (GI B S w0 W3 P turn vW vN (.slice (some ⟨g8, 0, none⟩) fl.length Fc) vM vD (.slice (some ⟨g11, 0, none⟩) fl.length Rc) sn xO xT fl fs X Y0 (k + 1)) := by
        obtain ⟨e1, e2⟩ := HGs.out
        obtain ⟨f1, f2⟩ := HKk.out
        refine ⟨_, _, _, gs ++ [.slice ga (c.length + 30) gc], ts ++ [.slice ua (c.length + 30) uc], (by rw [← List.append_assoc, ← List.append_assoc, HXo.out, HXt.out, HDk.out]; exact b3), by rw [List.length_append, e1]; rfl, by rw [List.length_append, e2]; rfl, fun y hy => List.mem_cons_of_mem _ (List.mem_append_right _ (hY0 y hy)), ?_⟩
        intro j h h1 h2 h3 h4
        by_cases hj : j < k
        · obtain ⟨q1, q2, q3⟩ := HAll.out j hj (by omega) (by omega) h3 h4
          rw [List.getElem_append_left (by omega), List.getElem_append_left (by omega)]
          exact ⟨List.mem_cons_of_mem _ (List.mem_append_right _ q1), List.mem_cons_of_mem _ (List.mem_append_right _ q2), q3.more fun y hy => List.mem_cons_of_mem _ (List.mem_append_right _ hy)⟩
        · have hjk : j = k := by omega
          subst hjk
          have t1 : (gs ++ [Value.slice ga (c.length + 30) gc])[j]'h1 = .slice ga (c.length + 30) gc := by rw [List.getElem_append_right (by omega)]; simp [e1]
          have t2 : (ts ++ [Value.slice ua (c.length + 30) uc])[j]'h2 = .slice ua (c.length + 30) uc := by rw [List.getElem_append_right (by omega)]; simp [e2]
          rw [t1, t2, f1, f2]
          exact ⟨List.mem_cons_of_mem _ (List.mem_append_left _ hYm.out), List.mem_cons_self, HVw.out.more fun y hy => List.mem_cons_of_mem _ (List.mem_append_left _ hy)⟩
      clear b3
      go_wp2_with fail
      go_roundw
      case rel => exact ⟨k + 1, by go_num, by omega, HGn⟩
      case measure => simp [intOf]; omega
  · have hkI : ¬ (k : Int) < (fl.length : Int) := by omega
    have hkl : k = fl.length := by omega
    subst hkl
    rw [List.drop_length, List.map_nil, List.nil_append] at hb
    have f8 := hb.free 8
    have b8 := hb.put (t' := ⟨vOk, vTk, vW, vN, .slice none 0 0, vM, vD, .slice Ra fl.length Rc, sn⟩) 8 (.slice none 0 0) rfl
    have k11 := b8.cell 11 (.slice Ra fl.length Rc) rfl
    have f11 := b8.free 11
    have b11 := b8.put (t' := ⟨vOk, vTk, vW, vN, .slice none 0 0, vM, vD, .slice none 0 0, sn⟩) 11 (.slice none 0 0) rfl
    have HE : Hid (Bg B S w0 ((wr.setCell ⟨P, 8, none⟩ (.slice none 0 0)).setCell ⟨P, 11, none⟩ (.slice none 0 0)) P turn 0 ⟨vOk, vTk, vW, vN, .slice none 0 0, vM, vD, .slice none 0 0, sn⟩ (Y ++ (vOk, 42, xO ++ gs) :: (vTk, 42, xT ++ ts) :: X)) := bg_sub b11 (by
      refine List.Sublist.append (List.Sublist.refl _) (.cons_cons _ (.cons_cons _ (.cons _ (.cons _ (List.Sublist.refl _))))))
    clear b8 b11
    go_wp2_with fail

    go_end0
    exact ⟨rfl, vOk, vTk, Y, gs, ts, HE.out, hgs, hts, (by first | exact hY0 | exact fun a b c h => hY0 _ h), fun j h1 h2 h3 h4 => hall j (by omega) h1 h2 h3 h4⟩
end Go.Proofs.YtchpapppkmnfnaaGreatDoor

namespace Go.Proofs.YtchpapppkmnfnaaGreatDoor
open Go.RowKit

section
variable {B P : Nat} {S : Nat → Prop} {w0 w w' : World} {turn deep : Int} {t : Tx} {L M : List Rw}
theorem bg_perm (h : Bg B S w0 w P turn deep t L) (hp : L.Perm M) : Bg B S w0 w P turn deep t M :=
  ⟨h.sg.perm hp, ⟨h.fr.st, fun k hk => h.fr.gr k (by
    rcases hk with e | ⟨x, hx, e⟩
    · exact .inl e
    · exact .inr ⟨x, hp.mem_iff.2 hx, e⟩)⟩, h.hS, h.hB⟩
/-- A cell of a row, written. -/
theorem bg_set {A C : List Rw} {g cap : Nat} {ty : TypeId} {xs : List Value} {i : Nat} {u : Value} (h : Bg B S w0 w P turn deep t (A ++ (.slice (some ⟨g, 0, none⟩) xs.length cap, ty, xs) :: C)) (_hi : i < xs.length) : Bg B S w0 (w.setCell ⟨g, i, none⟩ u) P turn deep t (A ++ (.slice (some ⟨g, 0, none⟩) xs.length cap, ty, xs.set i u) :: C) := by
  have hr := h.row (x := (.slice (some ⟨g, 0, none⟩) xs.length cap, ty, xs)) (by simp)
  have hgP : g ≠ P := fun e => h.sg.ne (x := (.slice (some ⟨g, 0, none⟩) xs.length cap, ty, xs)) (by simp) (by show some g = some P; rw [e])
  have hr2 : (w.setCell ⟨g, i, none⟩ u).ownsRow 0 ty 1 (.slice (some ⟨g, 0, none⟩) xs.length cap) (xs.set i u).length (xs.set i u) := by
    rw [List.length_set]
    refine ⟨by simp, ?_⟩
    rcases hr.2 with ⟨e, _⟩ | ⟨g2, cap2, cur, e, h2, h3, h4, h5, h6, h7⟩
    · cases e
    · injection e with e1 _ e3
      injection e1 with e1
      injection e1 with e1
      subst e1 e3
      refine .inr ⟨g, cap, cur.setIfInBounds i u, rfl, h2, ?_, h4, h5, by simpa using h6, ?_⟩
      · have h3' : w.heap[g]? = some (.cells cur ty) := h3
        simp [World.setCell, Array.getElem?_modify, h3']
      · have h7' : cur.toList.take (xs.length * 1) = xs := h7
        rw [Array.toList_setIfInBounds, List.take_set, h7']
  have hbl : ∀ k, k ≠ g → (w.setCell ⟨g, i, none⟩ u).heap[k]? = w.heap[k]? := fun k hk => heap_setCell_other _ _ _ _ hk
  refine ⟨⟨?_, h.sg.its.turn (x' := (.slice (some ⟨g, 0, none⟩) xs.length cap, ty, xs.set i u)) hr2 (fun k _ hk => hbl k (fun e => hk (by show some g = some k; rw [e]))) (.inl rfl), fun x hx => ?_⟩, ?_, h.hS, h.hB⟩
  · have := h.sg.box
    unfold BkAt at this ⊢
    rw [hbl P (fun e => hgP e.symm)]
    exact this
  · rcases List.mem_append.1 hx with a | a
    · exact h.sg.typ x (List.mem_append_left _ a)
    · rcases List.mem_cons.1 a with a | a
      · rw [a]; exact h.sg.typ (.slice (some ⟨g, 0, none⟩) xs.length cap, ty, xs) (by simp)
      · exact h.sg.typ x (List.mem_append_right _ (List.mem_cons_of_mem _ a))
  · have hg : BS P (A ++ (.slice (some ⟨g, 0, none⟩) xs.length cap, ty, xs) :: C) g := .inr ⟨(.slice (some ⟨g, 0, none⟩) xs.length cap, ty, xs), by simp, rfl⟩
    refine h.fr.next ⟨(Below.refl _ _).setCell (h.lo g hg) _, Off.set _ hg⟩ fun k hk => .inl ?_
    rcases hk with e | ⟨x, hx, e⟩
    · exact .inl e
    · rcases List.mem_append.1 hx with a | a
      · exact .inr ⟨x, List.mem_append_left _ a, e⟩
      · rcases List.mem_cons.1 a with a | a
        · subst a; exact .inr ⟨(.slice (some ⟨g, 0, none⟩) xs.length cap, ty, xs), by simp, e⟩
        · exact .inr ⟨x, List.mem_append_right _ (List.mem_cons_of_mem _ a), e⟩
end
/-- A list that waits: itself, its note, what both hold, its mark, its turn. -/
structure Wt where
  l : Value
  n : Value
  c : List Int
  m : Int
  d : Int
def wrows (x : Wt) : List Rw := [(x.l, 3, ic x.c), (x.n, 3, ic x.c)]
/-- So a list is written full. -/
def full (mark : Int) (n : Nat) : List Int := (List.range n).map fun i : Nat => mark + 3 * (i : Int)
/-- Up to i. -/
def wrote (mark : Int) (c : List Int) (i : Nat) : List Int := full mark i ++ c.drop i
theorem full_len (mark : Int) (n : Nat) : (full mark n).length = n := by simp [full]
theorem wrote_len (mark : Int) (c : List Int) {i : Nat} (hi : i ≤ c.length) : (wrote mark c i).length = c.length := by simp [wrote, full_len]; omega
theorem wrote_zero (mark : Int) (c : List Int) : wrote mark c 0 = c := by simp [wrote, full]
theorem wrote_end (mark : Int) (c : List Int) : wrote mark c c.length = full mark c.length := by simp [wrote]
theorem wrote_succ (mark : Int) (c : List Int) {i : Nat} (hi : i < c.length) : (wrote mark c i).set i (mark + 3 * (i : Int)) = wrote mark c (i + 1) := by
  unfold wrote
  rw [List.set_append_right _ _ (by rw [full_len]; exact Nat.le_refl _), full_len, Nat.sub_self, List.drop_eq_getElem_cons hi, List.set_cons_zero]
  have : full mark (i + 1) = full mark i ++ [mark + 3 * (i : Int)] := by unfold full; rw [List.range_succ, List.map_append]; rfl
  rw [this, List.append_assoc]
  rfl
theorem ic_set (c : List Int) (i : Nat) (m : Int) : (ic c).set i (.int .i64 m) = ic (c.set i m) := by simp [ic]
theorem perm_keep (H Y F K R : List Rw) (a b : Rw) : (H ++ a :: b :: (Y ++ (F ++ (K ++ R)))).Perm (H ++ (Y ++ (F ++ ((K ++ [a, b]) ++ R)))) := by
  refine List.Perm.append_left H ?_
  have := List.perm_append_comm_assoc [a, b] (Y ++ (F ++ K)) R
  simpa [List.append_assoc] using this
theorem perm_wrote (H Y F R : List Rw) (a b : Rw) : (H ++ a :: b :: (Y ++ (F ++ R))).Perm (H ++ ((b :: Y) ++ ((F ++ [a]) ++ R))) := by
  refine List.Perm.append_left H ?_
  have h1 := (List.perm_append_comm_assoc [a] (b :: (Y ++ F)) R)
  simpa [List.append_assoc] using h1
theorem perm_pull (H Y F K R : List Rw) (a b : Rw) : (H ++ (Y ++ (F ++ (K ++ (a :: b :: R))))).Perm (H ++ a :: b :: (Y ++ (F ++ (K ++ R)))) := by
  have := (perm_keep H Y F K R a b).symm
  simpa [List.append_assoc] using this
end Go.Proofs.YtchpapppkmnfnaaGreatDoor
