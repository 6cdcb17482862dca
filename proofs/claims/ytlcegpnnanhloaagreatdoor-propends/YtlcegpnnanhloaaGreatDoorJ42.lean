/-
  Put together: PpTable, PpRule, PpCutsA, PpCuts, PpKn0.
-/
import Derived.Test.YtlcegpnnanhloaaGreatDoorJ38
import Derived.Test.YtlcegpnnanhloaaGreatDoorJ35
import Derived.Test.YtlcegpnnanhloaaGreatDoorJ41
import Derived.Test.YtlcegpnnanhloaaGreatDoorJ40
import Derived.Test.YtlcegpnnanhloaaGreatDoorJ36
import Derived.Test.YtlcegpnnanhloaaGreatDoorJ33
import Derived.Test.YtlcegpnnanhloaaGreatDoorPpCutsL
namespace Go.Proofs.YtlcegpnnanhloaaGreatDoor
open Go.RowKit

/-- A constraint that was there before the base. -/
def CnU (B : Nat) (w : World) (c : Md.Cn) (vt vx vb vr : Value) : Prop := ∃ w0, CnAt w0 c vt vx vb vr ∧ w0.heap.size ≤ B ∧ Below w0.heap.size w0 w
theorem CnU.k {B : Nat} {w : World} {c : Md.Cn} {vt vx vb vr : Value} (h : CnU B w c vt vx vb vr) : CnK B w c vt vx vb vr := fun w' hb => by
  obtain ⟨w0, h1, h2, h3⟩ := h
  exact h1.below (h3.trans (hb.mono h2))
theorem CnU.below {B : Nat} {w w' : World} {c : Md.Cn} {vt vx vb vr : Value} (h : CnU B w c vt vx vb vr) (hb : Below B w w') : CnU B w' c vt vx vb vr := by
  obtain ⟨w0, h1, h2, h3⟩ := h
  exact ⟨w0, h1, h2, h3.trans (hb.mono h2)⟩
theorem CnU.rows {B : Nat} {w : World} {c : Md.Cn} {vt vx vb vr : Value} (h : CnU B w c vt vx vb vr) : ∃ a cap, vr = .slice a c.rows.length cap ∧ ∀ j (hj : j < c.rows.length), ∃ b off u, a = some ⟨b, off, none⟩ ∧ ∀ w', Below B w w' → w'.cell? ⟨b, off + j, none⟩ = some u ∧ IntsAt w' u c.rows[j] := by
  obtain ⟨w0, h1, h2, h3⟩ := h
  obtain ⟨a, cap, e, _, hc⟩ := h1.r
  refine ⟨a, cap, e, fun j hj => ?_⟩
  obtain ⟨b, off, e2, hlt, hcl⟩ := hc (by omega)
  obtain ⟨u, hu, hI⟩ := hcl j hj
  refine ⟨b, off, u, e2, fun w' hb => ?_⟩
  have hb2 := h3.trans (hb.mono h2)
  exact ⟨(hb2.cell (p := ⟨b, _, none⟩) hlt).trans hu, hI.below hb2⟩
theorem own_set {w : World} {base : Nat} {e : TypeId} {size : Nat} {v : Value} {n : Nat} {xs : List Value} (h : w.ownsRow base e size v n xs) {a : Nat} (ha : a < base) (u : Value) : (w.setCell ⟨a, 0, none⟩ u).ownsRow base e size v n xs := by
  obtain ⟨h1, h2⟩ := h
  refine ⟨h1, ?_⟩
  rcases h2 with h2 | ⟨g, cap, cur, e1, e2, e3, e4⟩
  · exact .inl h2
  · exact .inr ⟨g, cap, cur, e1, e2, (heap_setCell_other _ _ _ _ (by show g ≠ a; omega)).trans e3, e4⟩
theorem info28 : (Tryz.prog.info? 28).map (fun i => (i.zero, i.size, i.bytes)) = some (some (.slice none 0 0), 1, 24) := by kernel_rfl
theorem enters94 : Enters Tryz.prog 94 := enters_of Tryz.func94 (by kernel_rfl) rfl

/-- The rows alive. -/
def aliveL (D : List Dm) (c : Md.Cn) : List (List Int) := c.rows.filter fun r => alB D r c.xs c.xs.length
def tabF (D : List Dm) (c : Md.Cn) (Q : List Sq) (n : Nat) : List Sq := (List.range n).foldl (fun Q k => someQ Q (c.xs.getD k 0).toNat (fun v => (aliveL D c).any (rowB k v))) Q
def tableQ (D : List Dm) (c : Md.Cn) (Q : List Sq) : Option (List Sq) := if 0 < (aliveL D c).length then some (tabF D c Q c.xs.length) else none
theorem tabF_next (D : List Dm) (c : Md.Cn) (Q : List Sq) (n : Nat) : tabF D c Q (n + 1) = someQ (tabF D c Q n) (c.xs.getD n 0).toNat (fun v => (aliveL D c).any (rowB n v)) := by
  unfold tabF
  rw [List.range_succ, List.foldl_append]
  rfl
theorem tabF_ts {D : List Dm} {c : Md.Cn} {Q : List Sq} {m : Nat} (h : ∀ q ∈ Q, q.ts.length ≤ m) : ∀ n, ∀ q ∈ tabF D c Q n, q.ts.length ≤ m + n := fun n => by
  induction n with
  | zero => exact h
  | succ n ih => rw [tabF_next]; exact someQ_ts ih _ _
theorem take_filter_next {l : List (List Int)} {f : List Int → Bool} {k : Nat} (hk : k < l.length) : (l.take (k + 1)).filter f = (l.take k).filter f ++ (if f l[k] = true then [l[k]] else []) := by
  rw [List.take_add_one, List.getElem?_eq_getElem hk, List.filter_append]
  cases h : f l[k] <;> simp [h]
/-- The rows so far: each in its place. -/
def UsK (B : Nat) (w : World) (us : List Value) (L : List (List Int)) : Prop := us.length = L.length ∧ ∀ j (h : j < us.length) (h2 : j < L.length), ∀ w', Below B w w' → IntsAt w' us[j] L[j]
theorem UsK.snoc {B : Nat} {w : World} {us : List Value} {L : List (List Int)} {u : Value} {r : List Int} (h : UsK B w us L) (hu : ∀ w', Below B w w' → IntsAt w' u r) : UsK B w (us ++ [u]) (L ++ [r]) := by
  refine ⟨by simp [h.1], fun j h1 h2 w' hb => ?_⟩
  by_cases hj : j < us.length
  · have hj2 : j < L.length := by rw [← h.1]; exact hj
    rw [List.getElem_append_left hj, List.getElem_append_left hj2]
    exact h.2 j hj hj2 w' hb
  · have e1 : j = us.length := by simp at h1; omega
    have hL := h.1
    subst e1
    simp only [hL, List.getElem_append_right (Nat.le_refl _), Nat.sub_self, List.getElem_cons_zero]
    have : (us ++ [u])[us.length]'h1 = u := by simp
    simpa [hL] using hu w' hb
theorem UsK.rows {B : Nat} {w w1 w2 : World} {us : List Value} {L : List (List Int)} {base : Nat} {v : Value} (h : UsK B w us L) (ho : w1.ownsRow base 28 1 v L.length us) (hm : L.length ≤ maxLen) (hb : Below B w w1) (hk : Kq B w1 w2) : RowsAt w2 v L := by
  have ho2 : w2.ownsRow base 28 1 v L.length us := by
    obtain ⟨h1, h2⟩ := ho
    refine ⟨h1, ?_⟩
    rcases h2 with h2 | ⟨g, cap, cur, e1, e2, e3, e4⟩
    · exact .inl h2
    · exact .inr ⟨g, cap, cur, e1, e2, hk.block e3 (by decide) (by decide), e4⟩
  exact rows_own ho2 h.1 hm (fun j h1 h2 => h.2 j h1 h2 w2 (hb.trans hk.below))

set_option maxRecDepth 10000 in
set_option maxHeartbeats 4000000 in
theorem table_any (B lp g p : Nat) (nv mv : Value) (s : St) (Q : List Sq) (w : World) (h : LfQ B lp g p nv mv s Q w) (hts : ∀ q ∈ Q, q.ts.length ≤ 1000) (c : Md.Cn) (vt vx vb vr : Value) (hC : CnU B w c vt vx vb vr) (hx : ∀ x ∈ c.xs, 0 ≤ x ∧ x < (s.now.length : Int)) (hl : c.xs.length ≤ 64) (hr : ∀ r ∈ c.rows, r.length = c.xs.length) (hrl : c.rows.length ≤ 64) : Calls Tryz.prog 51 #[.pointer (some ⟨lp, 0, none⟩), cnVal c vt vx vb vr] w (RlOut B lp g p nv mv s (tableQ s.now c Q) w) := by
  have hBs := h.size
  have hI0 := hC.k.xs
  obtain ⟨xa, xc, rfl, _⟩ := hI0.at.form
  obtain ⟨ra, rc, rfl, hrows⟩ := hC.rows
  obtain ⟨W, hW⟩ : ∃ W, (w.alloc (.cells #[.int .i64 c.kind, .int .i64 c.op, vt, .int .i64 c.k, .int .i64 c.v, .int .i64 c.x, .int .i64 c.y, .slice xa c.xs.length xc, vb, .slice ra c.rows.length rc] 31)).alloc (.cells #[.slice none 0 0] 29) = W := ⟨_, rfl⟩
  have hb0 : Below w.heap.size w W := by rw [← hW]; exact ((Below.refl _ _).alloc (Nat.le_refl _) _).alloc (by simp) _
  have g0 : W.heap[w.heap.size]? = some (.cells #[.int .i64 c.kind, .int .i64 c.op, vt, .int .i64 c.k, .int .i64 c.v, .int .i64 c.x, .int .i64 c.y, .slice xa c.xs.length xc, vb, .slice ra c.rows.length rc] 31 (0, 0)) := by rw [← hW]; exact heap_alloc2_old w _ _
  have g1 : W.heap[w.heap.size + 1]? = some (.cells #[.slice none 0 0] 29 (0, 0)) := by rw [← hW]; exact heap_alloc2_new w _ _
  have hsz : W.heap.size = w.heap.size + 2 := by rw [← hW]; simp
  have HSz : Hid (W.heap.size = w.heap.size + 2) := hsz
  have HBs : Hid (B ≤ w.heap.size) := hBs
  -- What holds in each world of the first loop.
  have HWw : Hid (∀ w', Below (w.heap.size + 1) W w' → Below w.heap.size w w') := fun w' hb => hb0.trans (hb.mono (by omega))
  have HN : Hid (∀ w', Below (w.heap.size + 1) W w' → w'.heap[w.heap.size]? = some (.cells #[.int .i64 c.kind, .int .i64 c.op, vt, .int .i64 c.k, .int .i64 c.v, .int .i64 c.x, .int .i64 c.y, .slice xa c.xs.length xc, vb, .slice ra c.rows.length rc] 31 (0, 0))) := fun w' hb => (hb.block _ (by omega)).trans g0
  have HRw : Hid (∀ j (hj : j < c.rows.length), ∃ b off u, ra = some ⟨b, off, none⟩ ∧ ∀ w', Below B w w' → w'.cell? ⟨b, off + j, none⟩ = some u ∧ IntsAt w' u c.rows[j]) := hrows
  have HAl : Hid (∀ w' u j (hj : j < c.rows.length), Below w.heap.size w w' → IntsAt w' u c.rows[j] → Calls Tryz.prog 93 #[.pointer (some ⟨lp, 0, none⟩), u, .slice xa c.xs.length xc] w' fun e w2 => e = .returned (.bool (alB s.now c.rows[j] c.xs c.xs.length)) ∧ Below w'.heap.size w' w2) := fun w' u j hj hb hu => alive_any B lp g p nv mv s Q w' (h.below hb) u _ c.rows[j] c.xs hu (hI0 w' (Kq.of_below hb hBs)) hx (hr _ (List.getElem_mem hj)) hl
  have HLw : Hid (∀ w', Below w.heap.size w w' → LfQ B lp g p nv mv s Q w') := fun w' hb => h.below hb
  have HI0 : Hid (IntsK B w (.slice xa c.xs.length xc) c.xs) := hI0
  have HX : Hid (∀ x ∈ c.xs, 0 ≤ x ∧ x < (s.now.length : Int)) := hx
  have HTs : Hid (∀ q ∈ Q, q.ts.length ≤ 1000) := hts
  have HSm : Hid (∀ w' (x : Nat) (hx : x < s.now.length) Q' fn caps t, LfQ B lp g p nv mv s Q' w' → TestIs B w' (.func (.func fn) #[] caps) t → (∀ q ∈ Q', q.ts.length ≤ 100000) → Calls Tryz.prog 83 #[.pointer (some ⟨lp, 0, none⟩), .int .i64 (x : Int), .func (.func fn) #[] caps] w' (KqOut B lp g p nv mv s (someQ Q' x t) w')) := fun w' x hx Q' fn caps t hL hT hl => hL.some x hx fn caps t hT hl
  obtain ⟨f, hf⟩ : ∃ f : List Int → Bool, (fun r => alB s.now r c.xs c.xs.length) = f := ⟨_, rfl⟩
  have HF : Hid ((fun r => alB s.now r c.xs c.xs.length) = f) := hf
  have HRr : Hid (∀ r ∈ c.rows, r.length = c.xs.length) := hr
  have c9 : W.cell? ⟨w.heap.size, 9, none⟩ = some (.slice ra c.rows.length rc) := cell_of g0 9
  have HG1 : Hid (W.heap[w.heap.size + 1]? = some (.cells #[.slice none 0 0] 29 (0, 0))) := g1
  have hcv : cnVal c vt (.slice xa c.xs.length xc) vb (.slice ra c.rows.length rc) = .agg #[.int .i64 c.kind, .int .i64 c.op, vt, .int .i64 c.k, .int .i64 c.v, .int .i64 c.x, .int .i64 c.y, .slice xa c.xs.length xc, vb, .slice ra c.rows.length rc] := rfl
  rw [hcv]
  clear h hts hx hr hBs hb0 g0 g1 hcv hI0 hC hf hrows hsz
  go_enter Tryz.func51, Tryz.ntmps51
  go_wp2_with fail
  try rw [hW]
  clear hW
  go_wp2_with fail
  go_loopw [13] (fun iv wr => ∃ (k : Nat) (aa : Option Addr) (ac : Nat) (us : List Value), iv = .int .i64 (k : Int) ∧ k ≤ c.rows.length ∧ Hid (wr.heap[w.heap.size + 1]? = some (.cells #[.slice aa ((c.rows.take k).filter f).length ac] 29 (0, 0))) ∧ Hid (wr.ownsRow (w.heap.size + 2) 28 1 (.slice aa ((c.rows.take k).filter f).length ac) ((c.rows.take k).filter f).length us) ∧ Hid (UsK B w us ((c.rows.take k).filter f)) ∧ Hid (Below (w.heap.size + 1) W wr)) (fun iv _ => c.rows.length - (intOf iv).toNat)
  case atStart => exact ⟨0, none, 0, [], rfl, Nat.zero_le _, HG1, World.ownsRow_nil _ _ _ _, ⟨rfl, fun j h1 _ _ _ => absurd h1 (Nat.not_lt_zero _)⟩, Below.refl _ _⟩
  case round =>
  obtain ⟨k, aa, ac, us, rfl, hk, HA, HO, HU, HBr⟩ := hrel
  clear c9
  by_cases hkn : k < c.rows.length
  · have hkI : (k : Int) < (c.rows.length : Int) := by omega
    obtain ⟨b, off, u, rfl, hu⟩ := HRw.out k hkn
    have HUr : Hid (∀ w', Below B w w' → IntsAt w' u c.rows[k]) := fun w' hb => (hu w' hb).2
    have hBw : Below B w wr := (HWw.out wr HBr.out).mono HBs.out
    have f0 := (hu wr hBw).1
    obtain ⟨ua, uc, hue, _⟩ := (hu wr hBw).2.form
    subst hue
    have f7 : wr.cell? ⟨w.heap.size, 7, none⟩ = some (.slice xa c.xs.length xc) := cell_of (HN.out wr HBr.out) 7
    have hlen := List.length_filter_le f (c.rows.take k)
    have hlen2 : (c.rows.take k).length ≤ 64 := by rw [List.length_take]; omega
    have HAk := HAl.out wr _ k hkn (HWw.out wr HBr.out) (hu wr hBw).2
    have hnx := take_filter_next (f := f) hkn
    have hfk : alB s.now c.rows[k] c.xs c.xs.length = f c.rows[k] := congrFun HF.out c.rows[k]
    rw [hfk] at HAk
    have HSz2 : Hid (w.heap.size + 2 ≤ wr.heap.size) := Nat.le_trans (Nat.le_of_eq HSz.out.symm) HBr.out.size
    obtain ⟨AL, hAL⟩ : ∃ AL, (c.rows.take k).filter f = AL := ⟨_, rfl⟩
    rw [hAL] at hnx HA HO HU hlen
    obtain ⟨row, hrow⟩ : ∃ row, c.rows[k] = row := ⟨_, rfl⟩
    rw [hrow] at hnx HAk HUr f0
    have HN2 : Hid ((c.rows.take (k + 1)).filter f = AL ++ (if f row = true then [row] else [])) := hnx
    obtain ⟨r, hr⟩ : ∃ r, f row = r := ⟨_, rfl⟩
    rw [hr] at HAk HN2
    obtain ⟨rl, hrl2⟩ : ∃ n, row.length = n := ⟨_, rfl⟩
    rw [hrl2] at HAk f0 HUr
    have HAk' : Hid (Calls Tryz.prog 93 #[.pointer (some ⟨lp, 0, none⟩), .slice ua rl uc, .slice xa c.xs.length xc] wr fun e w2 => e = .returned (.bool r) ∧ Below wr.heap.size wr w2) := HAk
    clear hu hBw HAk hnx hfk hAL hrow hr hrl2
    cases r with
    | false =>
      have HN3 : Hid ((c.rows.take (k + 1)).filter f = AL) := by show _ = _; rw [HN2.out]; simp
      go_wp2_with (go_at_call 93; refine calls_at HAk'.out (by with_reducible rfl) (by with_reducible rfl) ?_; rintro e w2 ⟨rfl, hb2⟩)
      go_roundw
      case rel =>
        refine ⟨k + 1, aa, ac, us, by go_num, hkn, ?_, ?_, ?_, ?_⟩
        · show _ = _; rw [HN3.out]; exact (hb2.block _ (by have := HSz2.out; omega)).trans HA.out
        · show World.ownsRow _ _ _ _ _ _ _; rw [HN3.out]; exact own_below HO.out hb2
        · show UsK _ _ _ _; rw [HN3.out]; exact HU.out
        · exact HBr.out.trans (hb2.mono (by have := HSz2.out; omega))
      case measure => simp [intOf]; omega
    | true =>
      have HN3 : Hid ((c.rows.take (k + 1)).filter f = AL ++ [row]) := by show _ = _; rw [HN2.out]; simp
      have HSt : Hid (∀ w2, Below wr.heap.size wr w2 → w2.cell? ⟨w.heap.size + 1, 0, none⟩ = some (.slice aa AL.length ac)) := fun w2 hb2 => cell_of ((hb2.block _ (by have := HSz2.out; omega)).trans HA.out) 0
      have HVs : Hid (∀ w2, Below wr.heap.size wr w2 → ∃ V, w2.alloc (.cells #[.slice ua rl uc] 28) = V ∧ Hid (SrcAt V (.slice (some ⟨w2.heap.size, 0, none⟩) 1 1) 1 1 [.slice ua rl uc]) ∧ Hid (V.ownsRow (w.heap.size + 2) 28 1 (.slice aa AL.length ac) AL.length us) ∧ Hid (Below (w.heap.size + 1) W V) ∧ Hid (V.heap[w.heap.size + 1]? = some (.cells #[.slice aa AL.length ac] 29 (0, 0))) ∧ Hid (w.heap.size + 2 ≤ V.heap.size)) := fun w2 hb2 => by
        obtain ⟨V, hV⟩ : ∃ V, w2.alloc (.cells #[.slice ua rl uc] 28) = V := ⟨_, rfl⟩
        have hbV : Below w2.heap.size w2 V := by rw [← hV]; exact (Below.refl _ _).alloc (Nat.le_refl _) _
        have gV : V.heap[w2.heap.size]? = some (.cells #[.slice ua rl uc] 28 (0, 0)) := by rw [← hV]; exact heap_alloc_new w2 _
        have hA2 : w2.heap[w.heap.size + 1]? = some (.cells #[.slice aa AL.length ac] 29 (0, 0)) := (hb2.block _ (by have := HSz2.out; omega)).trans HA.out
        exact ⟨V, hV, src_one gV rfl, own_below (own_below HO.out hb2) hbV, (HBr.out.trans (hb2.mono (by have := HSz2.out; omega))).trans (hbV.mono (by have := HSz2.out; have := hb2.size; omega)), (hbV.block _ (by have := HSz2.out; have := hb2.size; omega)).trans hA2, Nat.le_trans HSz2.out (Nat.le_trans hb2.size hbV.size)⟩
      go_wp2_with (first
        | (go_at_call 93; refine calls_at HAk'.out (by with_reducible rfl) (by with_reducible rfl) ?_; rintro e w2 ⟨rfl, hb2⟩; (have d0 := HSt.out w2 hb2); (obtain ⟨V, hV, HSc, HOV, HBV, HAV, HSV⟩ := HVs.out w2 hb2); clear hb2 f0 f7)
        | (at_builtin; (try rw [hV]); refine append_src V rfl (.tmp 22) (.tmp 24) 29 28 (.slice none 0 0) 1 24 rfl und30 info28 rfl (by decide) (w.heap.size + 2) _ _ AL.length 1 us [.slice ua rl uc] (by rfl) (by rfl) HOV.out HSc.out (by unfold maxLen; omega) (by omega) HSV.out ?_; intro v4 w4 g1 g2 g3; (obtain ⟨aa4, ac4, rfl⟩ := own_slice g1); (have hA4 : w4.heap[w.heap.size + 1]? = some (.cells #[.slice aa AL.length ac] 29 (0, 0)) := (g2.block _ (by have := HSV.out; omega) (fun e => own_type HOV.out HAV.out (by decide) e.symm)).trans HAV.out); (have d04 : w4.cell? ⟨w.heap.size + 1, 0, none⟩ = some (.slice aa AL.length ac) := cell_of hA4 0); (have dz : w4.frozen? ⟨w.heap.size + 1, 0, none⟩ = false := frozen_of hA4 0)))
      have HB4 : Hid (Below (w.heap.size + 1) W w4) := HBV.out.grown g2 (by have := HSV.out; omega) (fun g hg => by have := (HOV.out.lt g hg).1; omega)
      have HO4 : Hid (w4.ownsRow (w.heap.size + 2) 28 1 (.slice aa4 (AL.length + 1) ac4) (AL.length + 1) (us ++ [.slice ua rl uc])) := g1
      have HA4 : Hid (w4.heap[w.heap.size + 1]? = some (.cells #[.slice aa AL.length ac] 29 (0, 0))) := hA4
      clear g1 g2 g3 hA4
      go_wp2_with fail
      go_roundw
      case rel =>
        have e1 : ((c.rows.take (k + 1)).filter f).length = AL.length + 1 := by rw [HN3.out, List.length_append]; rfl
        refine ⟨k + 1, aa4, ac4, us ++ [.slice ua rl uc], by go_num, hkn, ?_, ?_, ?_, ?_⟩
        · show _ = _; rw [e1]; exact heap_setCell_same _ _ _ _ _ _ HA4.out
        · show World.ownsRow _ _ _ _ _ _ _; rw [e1]; exact own_set HO4.out (by omega) _
        · show UsK _ _ _ _; rw [HN3.out]; exact HU.out.snoc HUr.out
        · exact HB4.out.setCell (by show _ ≤ w.heap.size + 1; omega) _
      case measure => simp [intOf]; omega
  · have hke : k = c.rows.length := by omega
    subst hke
    have hkI : ¬ (c.rows.length : Int) < (c.rows.length : Int) := by omega
    have HO2 : Hid (wr.ownsRow (w.heap.size + 2) 28 1 (.slice aa (aliveL s.now c).length ac) (aliveL s.now c).length us) := by
      have := HO.out
      rw [List.take_length, ← HF.out] at this
      exact this
    have HA2 : Hid (wr.heap[w.heap.size + 1]? = some (.cells #[.slice aa (aliveL s.now c).length ac] 29 (0, 0))) := by
      have := HA.out
      rw [List.take_length, ← HF.out] at this
      exact this
    have HU2 : Hid (UsK B w us (aliveL s.now c)) := by
      have := HU.out
      rw [List.take_length, ← HF.out] at this
      exact this
    clear HO HA HU
    have f7 : wr.cell? ⟨w.heap.size, 7, none⟩ = some (.slice xa c.xs.length xc) := cell_of (HN.out wr HBr.out) 7
    have HKw : Hid (Kq B w wr) := Kq.of_below (HWw.out wr HBr.out) HBs.out
    have hBr : B ≤ wr.heap.size := Nat.le_trans HBs.out HKw.out.below.size
    have hal : (aliveL s.now c).length ≤ 64 := Nat.le_trans (List.length_filter_le _ _) hrl
    have HL0 : Hid (LfQ B lp g p nv mv s Q wr) := HLw.out wr (HWw.out wr HBr.out)
    have HG : Hid (∀ w', Kq B wr w' → w'.heap[w.heap.size + 1]? = some (.cells #[.slice aa (aliveL s.now c).length ac] 29 (0, 0)) ∧ RowsAt w' (.slice aa (aliveL s.now c).length ac) (aliveL s.now c)) := fun w' hk => ⟨hk.block HA2.out (by decide) (by decide), HU2.out.rows HO2.out (by unfold maxLen; omega) HKw.out.below hk⟩
    have HRl : Hid (∀ r ∈ aliveL s.now c, r.length = c.xs.length) := fun r hr => HRr.out r (List.mem_filter.1 hr).1
    have HTe : Hid (∀ (K k : Nat) V, Kq B wr V → V.heap[K]? = some (.cells #[.int .i64 (k : Int)] 3 (0, 0)) → k < c.xs.length → TestIs B V (.func (.func 94) #[] #[.pointer (some ⟨w.heap.size + 1, 0, none⟩), .pointer (some ⟨K, 0, none⟩)]) (fun v => (aliveL s.now c).any (rowB k v))) := fun K k V hk hK hkx => ⟨94, _, rfl, enters94, fun w2 hk2 u _ _ => by
      have h2 := HG.out w2 (hk.trans hk2)
      exact clos94 _ (aliveL s.now c) (w.heap.size + 1) K k c.xs.length u w2 (cell_of h2.1 0) h2.2 (cell_of (hk2.block hK (by decide) (by decide)) 0) HRl.out hkx hl hal⟩
    have HXc : Hid (∀ k (hk : k < c.xs.length) w', Kq B wr w' → ∃ b off, xa = some ⟨b, off, none⟩ ∧ w'.cell? ⟨b, off + k, none⟩ = some (.int .i64 c.xs[k])) := fun k hk w' hkq => by
      obtain ⟨a', c', e1, _, hcell⟩ := HI0.out w' (HKw.out.trans hkq)
      injection e1 with e1 _ _
      obtain ⟨b, off, ha, _, hcl⟩ := hcell (by omega)
      exact ⟨b, off, e1.trans ha, hcl k hk⟩
    have HQt : Hid (∀ k, ∀ q ∈ tabF s.now c Q k, q.ts.length ≤ 1000 + k) := fun k => tabF_ts HTs.out k
    have HQn : Hid (∀ k, tabF s.now c Q (k + 1) = someQ (tabF s.now c Q k) (c.xs.getD k 0).toNat (fun v => (aliveL s.now c).any (rowB k v))) := tabF_next s.now c Q
    have HR : Hid (tableQ s.now c Q = if 0 < (aliveL s.now c).length then some (tabF s.now c Q c.xs.length) else none) := rfl
    have HT0 : Hid (LfQ B lp g p nv mv s (tabF s.now c Q 0) wr) := HL0.out
    generalize tabF s.now c Q = T at HQt HQn HR HT0
    have HA3 : Hid (∀ w', Kq B wr w' → w'.cell? ⟨w.heap.size + 1, 0, none⟩ = some (.slice aa (aliveL s.now c).length ac)) := fun w' hk => cell_of (HG.out w' hk).1 0
    clear HA2 HO2 HU2 HRl HG HN HRw HAl HRr HL0 HLw HG1 HTs
    generalize aliveL s.now c = L at *
    go_wp2_with fail
    clear f7
    go_loopw [30] (fun iv wq => ∃ (k : Nat), iv = .int .i64 (k : Int) ∧ k ≤ c.xs.length ∧ Hid (LfQ B lp g p nv mv s (T k) wq) ∧ Hid (Kq B wr wq)) (fun iv _ => c.xs.length - (intOf iv).toNat)
    case atStart => exact ⟨0, rfl, Nat.zero_le _, HT0, Kq.refl _ _⟩
    case round =>
    obtain ⟨k, rfl, hk, HLk, HKk⟩ := hrel
    rename World => wq
    by_cases hkn : k < c.xs.length
    · have hkI : (k : Int) < (c.xs.length : Int) := by omega
      obtain ⟨b, off, rfl, f0⟩ := HXc.out k hkn wq HKk.out
      obtain ⟨m, hm, hmn⟩ : ∃ m : Nat, c.xs[k] = (m : Int) ∧ m < s.now.length := ⟨c.xs[k].toNat, by have := HX.out _ (List.getElem_mem hkn); omega, by have := HX.out _ (List.getElem_mem hkn); omega⟩
      have hnx := HQn.out k
      rw [getD_at hkn, hm, Int.toNat_natCast] at hnx
      rw [hm] at f0
      have HNx : Hid (T (k + 1) = someQ (T k) m (fun v => L.any (rowB k v))) := hnx
      obtain ⟨V, hV⟩ : ∃ V, wq.alloc (.cells #[.int .i64 (k : Int)] 3) = V := ⟨_, rfl⟩
      have hbV : Below wq.heap.size wq V := by rw [← hV]; exact (Below.refl _ _).alloc (Nat.le_refl _) _
      have gV : V.heap[wq.heap.size]? = some (.cells #[.int .i64 (k : Int)] 3 (0, 0)) := by rw [← hV]; exact heap_alloc_new wq _
      have hKV : Kq B wr V := HKk.out.next hbV (Nat.le_trans hBr HKk.out.below.size)
      have HKV : Hid (Kq B wr V) := hKV
      have HS : Hid (Calls Tryz.prog 83 #[.pointer (some ⟨lp, 0, none⟩), .int .i64 (m : Int), .func (.func 94) #[] #[.pointer (some ⟨w.heap.size + 1, 0, none⟩), .pointer (some ⟨wq.heap.size, 0, none⟩)]] V (KqOut B lp g p nv mv s (someQ (T k) m (fun v => L.any (rowB k v))) V)) := HSm.out V m hmn (T k) 94 _ _ (HLk.out.below hbV) (HTe.out wq.heap.size k V hKV gV hkn) (fun q hq => Nat.le_trans (HQt.out k q hq) (by omega))
      clear hnx hm hbV gV hKV
      go_wp2_with (first
        | (go_at_call 83; (try rw [hV]); refine calls_at HS.out (by with_reducible rfl) (by with_reducible rfl) ?_; rintro e w5 ⟨rfl, hL5, hk5⟩; clear hV f0))
      go_roundw
      case rel => exact ⟨k + 1, by go_num, hkn, (by show LfQ _ _ _ _ _ _ _ _ _; rw [HNx.out]; exact hL5), HKV.out.trans hk5⟩
      case measure => simp [intOf]; omega
    · have hke : k = c.xs.length := by omega
      subst hke
      have hkI : ¬ (c.xs.length : Int) < (c.xs.length : Int) := by omega
      have d0 := HA3.out wq HKk.out
      go_wp2_with fail
      go_ret
      by_cases h0 : 0 < L.length
      · have hRe : tableQ s.now c Q = some (T c.xs.length) := by rw [HR.out, if_pos h0]
        refine ⟨ret_bool (by rw [hRe]; simp; omega), fun Q' hq => ?_, HKw.out.trans HKk.out⟩
        rw [hRe] at hq
        injection hq with hq
        rw [← hq]
        exact HLk.out
      · have hRe : tableQ s.now c Q = none := by rw [HR.out, if_neg h0]
        refine ⟨ret_bool (by rw [hRe]; exact decide_eq_false h0), fun Q' hq => ?_, HKw.out.trans HKk.out⟩
        rw [hRe] at hq
        cases hq
end Go.Proofs.YtlcegpnnanhloaaGreatDoor

namespace Go.Proofs.YtlcegpnnanhloaaGreatDoor
open Go.RowKit

/-- What a constraint leaves, by its kind. -/
def ruleQ (D : List Dm) (c : Md.Cn) (Q : List Sq) : Option (List Sq) :=
  if c.kind = 1 then linQ D c Q else if c.kind = 2 then neQ D c Q else if c.kind = 3 then some Q else if c.kind = 4 then some (elemQ D c Q) else if c.kind = 5 then maxQ false D c Q
  else if c.kind = 6 then maxQ true D c Q else if c.kind = 7 then reifQ D c Q else if c.kind = 8 then tableQ D c Q else countQ D c Q
theorem c0_lists (c : Md.Cn) : (c0 c).terms = c.terms ∧ (c0 c).xs = c.xs ∧ (c0 c).table = c.table ∧ (c0 c).rows = c.rows := by
  unfold c0
  split <;> exact ⟨rfl, rfl, rfl, rfl⟩

set_option maxRecDepth 10000 in
theorem rule_any (B lp g p : Nat) (nv mv : Value) (s : St) (Q : List Sq) (w : World) (h : LfQ B lp g p nv mv s Q w) (hts : ∀ q ∈ Q, q.ts.length ≤ 1000) (c : Md.Cn) (vt vx vb vr : Value) (hC : CnU B w c vt vx vb vr) (hf : Md.Fit (c0 c) s.now.length) (fn : Nat) (hfn : (fn : Int) = 43 + c.kind) : Calls Tryz.prog fn #[.pointer (some ⟨lp, 0, none⟩), cnVal c vt vx vb vr] w (RlOut B lp g p nv mv s (ruleQ s.now c Q) w) := by
  obtain ⟨e1, e2, e3, e4, e5, e6⟩ := c0_k c
  obtain ⟨l1, l2, l3, l4⟩ := c0_lists c
  have fk := hf.kind
  have fop := hf.op
  have fx := hf.x
  have fy := hf.y
  have ftx := hf.tx
  have fxs := hf.xs
  have ftc := hf.tc
  have ftl := hf.tl
  have fxl := hf.xl
  have fxp := hf.xp
  have fbl := hf.bl
  have frl := hf.rl
  have frr := hf.rr
  have fkk := hf.k
  rw [e1] at fk fop fxp
  rw [e2] at fop
  rw [e4] at fx
  rw [e5] at fy
  rw [l1] at ftx ftc ftl
  rw [l2] at fxs fxl fxp frr
  rw [l3] at fbl
  rw [l4] at frl frr
  rw [e6] at fkk
  have hk : c.kind = 1 ∨ c.kind = 2 ∨ c.kind = 3 ∨ c.kind = 4 ∨ c.kind = 5 ∨ c.kind = 6 ∨ c.kind = 7 ∨ c.kind = 8 ∨ c.kind = 9 := by omega
  have hR : ∀ k : Int, c.kind = k → ruleQ s.now c Q = if k = 1 then linQ s.now c Q else if k = 2 then neQ s.now c Q else if k = 3 then some Q else if k = 4 then some (elemQ s.now c Q) else if k = 5 then maxQ false s.now c Q else if k = 6 then maxQ true s.now c Q else if k = 7 then reifQ s.now c Q else if k = 8 then tableQ s.now c Q else countQ s.now c Q := fun k e => by unfold ruleQ; rw [e]
  rcases hk with e | e | e | e | e | e | e | e | e <;> (have hr := hR _ e; rw [hr]; rw [e] at hfn fkk fop fxp; clear hR hr)
  · obtain rfl : fn = 44 := by omega
    exact lin_any B lp g p nv mv s Q w h c vt vx vb vr hC.k (fop rfl) ftl ftc ftx
  · obtain rfl : fn = 45 := by omega
    exact neRule_any B lp g p nv mv s Q w h hts c vt vx vb vr fx fy fkk
  · obtain rfl : fn = 46 := by omega
    refine (allDiff_any lp c vt vx vb vr w).mono ?_
    rintro e w' ⟨rfl, hb⟩
    exact ⟨rfl, fun Q' hq => by injection hq with hq; rw [← hq]; exact h.below hb, Kq.of_below hb h.size⟩
  · obtain rfl : fn = 47 := by omega
    exact elem_any B lp g p nv mv s Q w h hts c vt vx vb vr hC.k fx fy fbl
  · obtain rfl : fn = 48 := by omega
    exact max_any B lp g p nv mv s Q w h c vt vx vb vr hC.k fy fxs fxl (fxp rfl)
  · obtain rfl : fn = 49 := by omega
    exact min_any B lp g p nv mv s Q w h c vt vx vb vr hC.k fy fxs fxl (fxp rfl)
  · obtain rfl : fn = 50 := by omega
    exact reif_any B lp g p nv mv s Q w h c vt vx vb vr hC.k fx ftl ftc ftx fkk
  · obtain rfl : fn = 51 := by omega
    exact table_any B lp g p nv mv s Q w h hts c vt vx vb vr hC fxs fxl frr frl
  · obtain rfl : fn = 52 := by omega
    exact count_any B lp g p nv mv s Q w h hts c vt vx vb vr hC.k fxs fxl fkk
/-- A constraint that may stand is well formed. -/
theorem fit_check {c : Md.Cn} {n : Nat} (h : (Md.check (stM c n)).2 = 0) : Md.Fit (c0 c) n := by
  have hne : ∀ {m : Nat} {f : Nat → Int} {i : Nat}, Md.firstBad m f = some i → f i ≠ 0 := fun {m f i} hh => by
    have := List.find?_some hh
    simpa using this
  unfold Md.check at h
  split at h
  · cases h
  · split at h
    · rename_i i hi
      exact absurd h (hne hi)
    · split at h
      · cases h
      · split at h
        · rename_i i hi
          exact absurd h (hne hi)
        · rename_i hn
          unfold Md.firstBad at hn
          rw [List.find?_eq_none] at hn
          have h0 := hn 0 (List.mem_range.2 (Nat.zero_lt_succ _))
          have hl : (stM c n).vars.length = n := by unfold stM; simp
          rw [hl] at h0
          have h1 : Md.fault (c0 c) n = 0 := by simpa [Md.cFault, stM] using h0
          exact Md.fit_of h1
end Go.Proofs.YtlcegpnnanhloaaGreatDoor

namespace Go.Proofs.YtlcegpnnanhloaaGreatDoor
open Go.RowKit

/-- The kinds' rules. -/
def rulesV : Value := .agg #[.nilFunc, .func (.func 44) #[] #[], .func (.func 45) #[] #[], .func (.func 46) #[] #[], .func (.func 47) #[] #[], .func (.func 48) #[] #[], .func (.func 49) #[] #[], .func (.func 50) #[] #[], .func (.func 51) #[] #[], .func (.func 52) #[] #[]]
set_option maxRecDepth 10000 in
set_option maxHeartbeats 1000000 in
theorem allRules_any (w : World) : Calls Tryz.prog 29 #[] w fun e w' => e = .returned rulesV ∧ Below w.heap.size w w' := by
  go_enter Tryz.func29, Tryz.ntmps29
  go_wp2_with fail
  exact bodyPost_ret (v := rulesV) (by simp [results, Tryz.results29, go_sem]; try rfl) rfl ⟨rfl, (Below.refl _ _).alloc (Nat.le_refl _) _⟩
theorem rule_at (k : Int) (h1 : 1 ≤ k) (h2 : k ≤ 9) : ∃ fn : Nat, (fn : Int) = 43 + k ∧ Enters Tryz.prog fn ∧ (∀ w, (Instr.index 70 rulesV (.int .i64 k)).run Tryz.prog w = .ok (.agg #[.func (.func fn) #[] #[]]) w) := by
  have hk : k = 1 ∨ k = 2 ∨ k = 3 ∨ k = 4 ∨ k = 5 ∨ k = 6 ∨ k = 7 ∨ k = 8 ∨ k = 9 := by omega
  rcases hk with rfl | rfl | rfl | rfl | rfl | rfl | rfl | rfl | rfl
  · exact ⟨44, rfl, enters_of Tryz.func44 (by kernel_rfl) rfl, fun w => by kernel_rfl⟩
  · exact ⟨45, rfl, enters_of Tryz.func45 (by kernel_rfl) rfl, fun w => by kernel_rfl⟩
  · exact ⟨46, rfl, enters_of Tryz.func46 (by kernel_rfl) rfl, fun w => by kernel_rfl⟩
  · exact ⟨47, rfl, enters_of Tryz.func47 (by kernel_rfl) rfl, fun w => by kernel_rfl⟩
  · exact ⟨48, rfl, enters_of Tryz.func48 (by kernel_rfl) rfl, fun w => by kernel_rfl⟩
  · exact ⟨49, rfl, enters_of Tryz.func49 (by kernel_rfl) rfl, fun w => by kernel_rfl⟩
  · exact ⟨50, rfl, enters_of Tryz.func50 (by kernel_rfl) rfl, fun w => by kernel_rfl⟩
  · exact ⟨51, rfl, enters_of Tryz.func51 (by kernel_rfl) rfl, fun w => by kernel_rfl⟩
  · exact ⟨52, rfl, enters_of Tryz.func52 (by kernel_rfl) rfl, fun w => by kernel_rfl⟩
theorem rule_fld (fn : Nat) : ∀ w, (Instr.field 69 (.agg #[.func (.func fn) #[] #[]]) 0).run Tryz.prog w = .ok (.func (.func fn) #[] #[]) w := fun w => by kernel_rfl
end Go.Proofs.YtlcegpnnanhloaaGreatDoor

namespace Go.Proofs.YtlcegpnnanhloaaGreatDoor
open Go.RowKit

theorem own_max {w : World} {B : Nat} {e : TypeId} {size : Nat} {v : Value} {n : Nat} {xs : List Value} (h : w.ownsRow B e size v n xs) : n ≤ 9223372036854775807 := by
  rcases h.2 with ⟨_, hn⟩ | ⟨g, cap, cur, _, _, _, h1, h2, _⟩
  · omega
  · unfold maxLen at h2
    omega
theorem LfAt.tmax {B lp g p : Nat} {nv mv : Value} {s : St} {S : List Sv} {w : World} (h : LfAt B lp g p nv mv s S w) : ∀ q ∈ S, q.ts.length ≤ 9223372036854775807 := fun q hq => by
  obtain ⟨x, hx, rfl⟩ := List.mem_iff_getElem.1 hq
  obtain ⟨fs, h1, _⟩ := h.tests x hx
  exact own_max h1
/-- What Cuts answers. -/
def cutR (D : List Dm) (c : Md.Cn) : List Ct × Bool :=
  if (Md.check (stM c D.length)).2 = 0 then (match ruleQ D c (List.replicate D.length sqA) with | none => ([], false) | some Q => (cutsUpto Q D D.length, true)) else ([], true)
theorem LfQ.leftCuts {B lp g p : Nat} {nv mv : Value} {s : St} {Q : List Sq} {w : World} (h : LfQ B lp g p nv mv s Q w) : Calls Tryz.prog 30 #[.pointer (Option.some ⟨lp, 0, none⟩)] w (CsOut (cutsUpto Q s.now s.now.length) w) := by
  obtain ⟨S, h1, rfl⟩ := h
  rw [← h1.len]
  exact leftCuts_any B lp g p nv mv s S w h1 h1.tmax
theorem cn_cells {w : World} {N : Nat} {a0 a1 a2 a3 a4 a5 a6 a7 a8 a9 : Value} (h : w.heap[N]? = some (.cells #[a0, a1, a2, a3, a4, a5, a6, a7, a8, a9] 31 (0, 0))) : w.cell? ⟨N, 0, none⟩ = some a0 ∧ w.cell? ⟨N, 1, none⟩ = some a1 ∧ w.cell? ⟨N, 2, none⟩ = some a2 ∧ w.cell? ⟨N, 3, none⟩ = some a3 ∧ w.cell? ⟨N, 4, none⟩ = some a4 ∧ w.cell? ⟨N, 5, none⟩ = some a5 ∧ w.cell? ⟨N, 6, none⟩ = some a6 ∧ w.cell? ⟨N, 7, none⟩ = some a7 ∧ w.cell? ⟨N, 8, none⟩ = some a8 ∧ w.cell? ⟨N, 9, none⟩ = some a9 :=
  ⟨cell_of h 0, cell_of h 1, cell_of h 2, cell_of h 3, cell_of h 4, cell_of h 5, cell_of h 6, cell_of h 7, cell_of h 8, cell_of h 9⟩
theorem own_base {w : World} {B B' : Nat} {e : TypeId} {size : Nat} {v : Value} {n : Nat} {xs : List Value} (h : w.ownsRow B e size v n xs) (hB : B' ≤ B) : w.ownsRow B' e size v n xs := by
  obtain ⟨h1, h2⟩ := h
  refine ⟨h1, ?_⟩
  rcases h2 with h2 | ⟨g, cap, cur, e1, e2, e3⟩
  · exact .inl h2
  · exact .inr ⟨g, cap, cur, e1, Nat.le_trans hB e2, e3⟩
/-- What Cuts leaves. -/
def CuOut (D : List Dm) (c : Md.Cn) (w : World) (e : Ending) (w' : World) : Prop := ∃ v, e = .returned (.tuple #[v, .bool (cutR D c).2]) ∧ w'.ownsRow w.heap.size 46 3 v (cutR D c).1.length (cts (cutR D c).1) ∧ Below w.heap.size w w'

set_option maxRecDepth 10000 in
set_option maxHeartbeats 4000000 in
theorem cuts_any (p : Nat) (nv mv : Value) (s : St) (w : World) (hst : ∃ Bs, StAt Bs w p nv mv s) (hown : ∀ k, Own p nv mv k → k < w.heap.size) (htz : Tz w) (c : Md.Cn) (vt vx vb vr : Value) (hC : CnAt w c vt vx vb vr) : Calls Tryz.prog 10 #[cnVal c vt vx vb vr, .pointer (some ⟨p, 0, none⟩)] w (CuOut s.now c w) := by
  obtain ⟨Bs, hS⟩ := hst
  have hn := hS.n32
  have hp : 0 < w.heap.size := Nat.lt_of_le_of_lt (Nat.zero_le p) (hown p (.inl rfl))
  obtain ⟨W, hW⟩ : ∃ W, w.alloc (.cells #[.int .i64 c.kind, .int .i64 c.op, vt, .int .i64 c.k, .int .i64 c.v, .int .i64 c.x, .int .i64 c.y, vx, vb, vr] 31) = W := ⟨_, rfl⟩
  have hb0 : Below w.heap.size w W := by rw [← hW]; exact (Below.refl _ _).alloc (Nat.le_refl _) _
  have g0 : W.heap[w.heap.size]? = some (.cells #[.int .i64 c.kind, .int .i64 c.op, vt, .int .i64 c.k, .int .i64 c.v, .int .i64 c.x, .int .i64 c.y, vx, vb, vr] 31 (0, 0)) := by rw [← hW]; exact heap_alloc_new w _
  have hlt := (Array.getElem?_eq_some_iff.1 g0).1
  have HB0 : Hid (Below w.heap.size w W) := hb0
  have HWs : Hid (∀ w', Below W.heap.size W w' → Below w.heap.size w w') := fun w' hb => hb0.trans (hb.mono hb0.size)
  have HG : Hid (∀ w', Below W.heap.size W w' → w'.heap[w.heap.size]? = some (.cells #[.int .i64 c.kind, .int .i64 c.op, vt, .int .i64 c.k, .int .i64 c.v, .int .i64 c.x, .int .i64 c.y, vx, vb, vr] 31 (0, 0))) := fun w' hb => (hb.block _ hlt).trans g0
  have HVr : Hid (∀ w', Below W.heap.size W w' → Calls Tryz.prog 17 #[.pointer (some ⟨p, 0, none⟩)] w' fun e w2 => e = .returned (.int .i64 (s.now.length : Int)) ∧ w2 = w') := fun w' hb => vars_any Bs p nv mv s w' (hS.keep fun k _ ho => (HWs.out w' hb).block k (hown k ho))
  have HMs : Hid (∀ w', Below W.heap.size W w' → Calls Tryz.prog 27 #[.agg #[.int .i64 c.kind, .int .i64 c.op, vt, .int .i64 c.k, .int .i64 c.v, .int .i64 c.x, .int .i64 c.y, vx, vb, vr], .int .i64 (s.now.length : Int)] w' fun e w2 => e = .returned (.bool (decide ((Md.check (stM c s.now.length)).2 = 0))) ∧ Below w'.heap.size w' w2) := fun w' hb => mayStand_any c vt vx vb vr s.now.length w' (hC.below (HWs.out w' hb)) hn
  have HAl : Hid (∀ w', Below W.heap.size W w' → Calls Tryz.prog 28 #[.pointer (some ⟨p, 0, none⟩)] w' (AlOut p nv mv s w')) := fun w' hb => all_any p nv mv s w' ⟨Bs, hS.keep fun k _ ho => (HWs.out w' hb).block k (hown k ho)⟩ (fun k ho => Nat.lt_of_lt_of_le (hown k ho) (HWs.out w' hb).size) (htz.below (HWs.out w' hb) hp)
  have HRl : Hid (∀ w' : World, Calls Tryz.prog 29 #[] w' fun e w2 => e = .returned rulesV ∧ Below w'.heap.size w' w2) := fun w' => allRules_any w'
  have HCu : Hid (∀ B w', Below w.heap.size w w' → w.heap.size ≤ B → CnU B w' c vt vx vb vr) := fun B w' hb hB => ⟨w, hC, hB, hb⟩
  have HRu : Hid (∀ (fn B lp g : Nat) (w' : World), (fn : Int) = 43 + c.kind → (Md.check (stM c s.now.length)).2 = 0 → LfQ B lp g p nv mv s (List.replicate s.now.length sqA) w' → CnU B w' c vt vx vb vr → Calls Tryz.prog fn #[.pointer (some ⟨lp, 0, none⟩), .agg #[.int .i64 c.kind, .int .i64 c.op, vt, .int .i64 c.k, .int .i64 c.v, .int .i64 c.x, .int .i64 c.y, vx, vb, vr]] w' (RlOut B lp g p nv mv s (ruleQ s.now c (List.replicate s.now.length sqA)) w')) := fun fn B lp g w' h1 h2 h3 h4 => rule_any B lp g p nv mv s _ w' h3 (fun q hq => by rw [List.eq_of_mem_replicate hq]; exact Nat.zero_le _) c vt vx vb vr h4 (fit_check h2) fn h1
  have HKd : Hid ((Md.check (stM c s.now.length)).2 = 0 → 1 ≤ c.kind ∧ c.kind ≤ 9) := fun h => by
    have := (fit_check h).kind
    rw [(c0_k c).1] at this
    exact this
  have HR : Hid (cutR s.now c = if (Md.check (stM c s.now.length)).2 = 0 then (match ruleQ s.now c (List.replicate s.now.length sqA) with | none => ([], false) | some Q => (cutsUpto Q s.now s.now.length, true)) else ([], true)) := rfl
  have HO : Hid (∀ v w' L b, cutR s.now c = (L, b) → w'.ownsRow w.heap.size 46 3 v L.length (cts L) → Below w.heap.size w w' → CuOut s.now c w (.returned (.tuple #[v, .bool b])) w') := fun v w' L b h1 h2 h3 => ⟨v, by rw [h1], by rw [h1]; exact h2, h3⟩
  have hcv : cnVal c vt vx vb vr = .agg #[.int .i64 c.kind, .int .i64 c.op, vt, .int .i64 c.k, .int .i64 c.v, .int .i64 c.x, .int .i64 c.y, vx, vb, vr] := rfl
  rw [hcv]
  clear hown htz hC hS hb0 g0 hlt hcv hp
  go_enter Tryz.func10, Tryz.ntmps10
  go_upto_region 1 with fail
  obtain ⟨b, hbe⟩ : ∃ b, decide ((Md.check (stM c s.now.length)).2 = 0) = b := ⟨_, rfl⟩
  rw [hbe] at HMs
  have HBe : Hid (decide ((Md.check (stM c s.now.length)).2 = 0) = b) := hbe
  clear hbe
  try rw [hW]
  clear hW
  go_cut [11] from 7 to 24 (fun s11 wx => s11 = .bool (!b) ∧ Hid (Below W.heap.size W wx))
  case first =>
    have HS : Hid (∀ w', Below W.heap.size W w' → w'.cell? ⟨w.heap.size, 0, none⟩ = some (.int .i64 c.kind) ∧ w'.cell? ⟨w.heap.size, 1, none⟩ = some (.int .i64 c.op) ∧ w'.cell? ⟨w.heap.size, 2, none⟩ = some vt ∧ w'.cell? ⟨w.heap.size, 3, none⟩ = some (.int .i64 c.k) ∧ w'.cell? ⟨w.heap.size, 4, none⟩ = some (.int .i64 c.v) ∧ w'.cell? ⟨w.heap.size, 5, none⟩ = some (.int .i64 c.x) ∧ w'.cell? ⟨w.heap.size, 6, none⟩ = some (.int .i64 c.y) ∧ w'.cell? ⟨w.heap.size, 7, none⟩ = some vx ∧ w'.cell? ⟨w.heap.size, 8, none⟩ = some vb ∧ w'.cell? ⟨w.heap.size, 9, none⟩ = some vr) := fun w' hb => cn_cells (HG.out w' hb)
    have HBd : Hid (Below W.heap.size W W.drew) := (Below.refl _ _).drew
    go_region_held3 (fun w' => w'.cell? ⟨w.heap.size, 0, none⟩ = some (.int .i64 c.kind) ∧ w'.cell? ⟨w.heap.size, 1, none⟩ = some (.int .i64 c.op) ∧ w'.cell? ⟨w.heap.size, 2, none⟩ = some vt ∧ w'.cell? ⟨w.heap.size, 3, none⟩ = some (.int .i64 c.k) ∧ w'.cell? ⟨w.heap.size, 4, none⟩ = some (.int .i64 c.v) ∧ w'.cell? ⟨w.heap.size, 5, none⟩ = some (.int .i64 c.x) ∧ w'.cell? ⟨w.heap.size, 6, none⟩ = some (.int .i64 c.y) ∧ w'.cell? ⟨w.heap.size, 7, none⟩ = some vx ∧ w'.cell? ⟨w.heap.size, 8, none⟩ = some vb ∧ w'.cell? ⟨w.heap.size, 9, none⟩ = some vr)
      (first | exact HS.out _ HB5.out | exact HS.out _ HB4.out | exact HS.out _ HBd.out)
      (first | (go_at_call 17; refine calls_at (HVr.out _ HBd.out) (by with_reducible rfl) (by with_reducible rfl) ?_; rintro e w4 ⟨rfl, h4⟩; (have HB4 : Hid (Below W.heap.size W w4) := (by rw [h4]; exact HBd.out)); clear h4) | (go_at_call 27; refine calls_at (HMs.out _ HB4.out) (by with_reducible rfl) (by with_reducible rfl) ?_; rintro e w5 ⟨rfl, hb5⟩; (have HB5 : Hid (Below W.heap.size W w5) := bl_next HB4.out hb5); clear hb5))
    go_wp2_with fail
    go_meet
    exact ⟨rfl, HB5⟩
  case rest =>
  obtain ⟨rfl, HBx⟩ := hcut
  rename World => wx
  cases b with
  | false =>
    go_wp2_with fail
    go_ret2
    exact HO.out _ _ [] true (by rw [HR.out, if_neg (of_decide_eq_false HBe.out)]) (World.ownsRow_nil _ _ _ _) (HWs.out _ HBx.out)
  | true =>
    have hck : (Md.check (stM c s.now.length)).2 = 0 := of_decide_eq_true HBe.out
    obtain ⟨hk1, hk2⟩ := HKd.out hck
    obtain ⟨fn, hfn, hen, hidx⟩ := rule_at c.kind hk1 hk2
    have hfld := rule_fld fn
    have HAx : Hid (Calls Tryz.prog 28 #[.pointer (some ⟨p, 0, none⟩)] wx (AlOut p nv mv s wx)) := HAl.out wx HBx.out
    have HRf := fun (B lp g : Nat) (w' : World) => HRu.out fn B lp g w' hfn hck
    have HRc : Hid (cutR s.now c = (match ruleQ s.now c (List.replicate s.now.length sqA) with | none => ([], false) | some Q => (cutsUpto Q s.now s.now.length, true))) := by show _ = _; rw [HR.out, if_pos hck]
    obtain ⟨R, hR⟩ : ∃ R, ruleQ s.now c (List.replicate s.now.length sqA) = R := ⟨_, rfl⟩
    rw [hR] at HRf HRc
    have HRg : Hid (∀ (B lp g : Nat) (w' : World), LfQ B lp g p nv mv s (List.replicate s.now.length sqA) w' → CnU B w' c vt vx vb vr → Calls Tryz.prog fn #[.pointer (some ⟨lp, 0, none⟩), .agg #[.int .i64 c.kind, .int .i64 c.op, vt, .int .i64 c.k, .int .i64 c.v, .int .i64 c.x, .int .i64 c.y, vx, vb, vr]] w' (RlOut B lp g p nv mv s R w')) := HRf
    have HWx : Hid (w.heap.size < wx.heap.size) := Nat.lt_of_lt_of_le (Array.getElem?_eq_some_iff.1 (HG.out wx HBx.out)).1 (Nat.le_refl _)
    clear HR HRf hR hck hk1 hk2 hfn HBe HMs HVr HAl HRu HKd
    unfold Enters at hen
    go_upto_region 4 with (go_at_call 28; refine calls_at HAx.out (by with_reducible rfl) (by with_reducible rfl) ?_; rintro e w3 ⟨rfl, hL3, hb3⟩)
    have HL3 : Hid (LfQ wx.heap.size (wx.heap.size + 1) wx.heap.size p nv mv s (List.replicate s.now.length sqA) w3) := hL3
    have HB3 : Hid (Below wx.heap.size wx w3) := hb3
    have HS : Hid (∀ w', Below wx.heap.size w3 w' → w'.cell? ⟨w.heap.size, 0, none⟩ = some (.int .i64 c.kind) ∧ w'.cell? ⟨w.heap.size, 1, none⟩ = some (.int .i64 c.op) ∧ w'.cell? ⟨w.heap.size, 2, none⟩ = some vt ∧ w'.cell? ⟨w.heap.size, 3, none⟩ = some (.int .i64 c.k) ∧ w'.cell? ⟨w.heap.size, 4, none⟩ = some (.int .i64 c.v) ∧ w'.cell? ⟨w.heap.size, 5, none⟩ = some (.int .i64 c.x) ∧ w'.cell? ⟨w.heap.size, 6, none⟩ = some (.int .i64 c.y) ∧ w'.cell? ⟨w.heap.size, 7, none⟩ = some vx ∧ w'.cell? ⟨w.heap.size, 8, none⟩ = some vb ∧ w'.cell? ⟨w.heap.size, 9, none⟩ = some vr) := fun w' hb => cn_cells (((HB3.out.trans hb).block _ HWx.out).trans (HG.out wx HBx.out))
    clear hL3 hb3
    have HBs : Hid (wx.heap.size ≤ w3.heap.size) := HB3.out.size
    have HCu3 : Hid (∀ w', Below wx.heap.size w3 w' → CnU wx.heap.size w' c vt vx vb vr) := fun w' hb => HCu.out _ _ ((HWs.out _ HBx.out).trans ((HB3.out.trans hb).mono (Nat.le_of_lt HWx.out))) (Nat.le_of_lt HWx.out)
    go_cut [22] from 14 to 24 (fun s22 wy => s22 = .bool (!R.isSome) ∧ Hid (∀ Q', R = some Q' → LfQ wx.heap.size (wx.heap.size + 1) wx.heap.size p nv mv s Q' wy) ∧ Hid (Kq wx.heap.size w3 wy))
    case first =>
      have HBd : Hid (Below w3.heap.size w3 w3.drew) := (Below.refl _ _).drew
      go_region_held3 (fun w' => w'.cell? ⟨w.heap.size, 0, none⟩ = some (.int .i64 c.kind) ∧ w'.cell? ⟨w.heap.size, 1, none⟩ = some (.int .i64 c.op) ∧ w'.cell? ⟨w.heap.size, 2, none⟩ = some vt ∧ w'.cell? ⟨w.heap.size, 3, none⟩ = some (.int .i64 c.k) ∧ w'.cell? ⟨w.heap.size, 4, none⟩ = some (.int .i64 c.v) ∧ w'.cell? ⟨w.heap.size, 5, none⟩ = some (.int .i64 c.x) ∧ w'.cell? ⟨w.heap.size, 6, none⟩ = some (.int .i64 c.y) ∧ w'.cell? ⟨w.heap.size, 7, none⟩ = some vx ∧ w'.cell? ⟨w.heap.size, 8, none⟩ = some vb ∧ w'.cell? ⟨w.heap.size, 9, none⟩ = some vr)
        (first | exact HS.out _ HK5.out.below | exact HS.out _ (HB4.out.mono HBs.out) | exact HS.out _ (HBd.out.mono HBs.out))
        (first | (go_at_call 29; refine calls_at (HRl.out _) (by with_reducible rfl) (by with_reducible rfl) ?_; rintro e w4 ⟨rfl, hb4⟩; (have HB4 : Hid (Below w3.heap.size w3 w4) := bl_next HBd.out hb4); clear hb4) | (go_at_fn fn; refine calls_at (HRg.out wx.heap.size (wx.heap.size + 1) wx.heap.size w4 (HL3.out.below HB4.out) (HCu3.out w4 (HB4.out.mono HBs.out))) (by with_reducible rfl) (by with_reducible rfl) ?_; rintro e w5 ⟨rfl, hq5, hk5⟩; (have HQ5 : Hid (∀ Q', R = some Q' → LfQ wx.heap.size (wx.heap.size + 1) wx.heap.size p nv mv s Q' w5) := hq5); (have HK5 : Hid (Kq wx.heap.size w3 w5) := (Kq.of_below HB4.out HBs.out).trans hk5); clear hq5 hk5))
      go_wp2_with fail
      go_meet
      exact ⟨by cases R <;> rfl, HQ5, HK5⟩
    case rest =>
    obtain ⟨rfl, HQy, HKy⟩ := hcut
    rename World => wy
    have HBy : Hid (Below w.heap.size w wy) := (HWs.out _ HBx.out).trans ((HB3.out.trans HKy.out.below).mono (Nat.le_of_lt HWx.out))
    cases R with
    | none =>
      go_wp2_with fail
      go_ret2
      exact HO.out _ _ [] false HRc.out (World.ownsRow_nil _ _ _ _) HBy.out
    | some Q' =>
      have HCt : Hid (Calls Tryz.prog 30 #[.pointer (some ⟨wx.heap.size + 1, 0, none⟩)] wy (CsOut (cutsUpto Q' s.now s.now.length) wy)) := (HQy.out Q' rfl).leftCuts
      go_wp2_with (go_at_call 30; refine calls_at HCt.out (by with_reducible rfl) (by with_reducible rfl) ?_; rintro e w7 ⟨v, rfl, ho7, hb7⟩)
      go_ret2
      exact HO.out _ _ _ true HRc.out (own_base ho7 HBy.out.size) (HBy.out.trans (hb7.mono HBy.out.size))
end Go.Proofs.YtlcegpnnanhloaaGreatDoor

namespace Go.Proofs.YtlcegpnnanhloaaGreatDoor
open Go.RowKit

def kM : Md.Mo := ⟨[⟨⟨#[120]⟩, 0, 3⟩, ⟨⟨#[121]⟩, 0, 3⟩], [], false, []⟩
def kD : List Dm := [⟨0, 15, 0⟩, ⟨0, 15, 0⟩]
def kS : St := ⟨kD, [], 0⟩
def kcA : Md.Cn := ⟨1, 3, [(1, 0), (1, 1)], 5, 0, 0, 0, [], [], []⟩
def kcB : Md.Cn := ⟨4, 0, [], 0, 0, 0, 1, [], [2, 9, 0], []⟩
def kcC : Md.Cn := ⟨1, 3, [(1, 0), (1, 1)], 7, 0, 0, 0, [], [], []⟩
def kcE : Md.Cn := ⟨7, 0, [(1, 1)], 3, 0, 0, 0, [], [], []⟩
def kcF : Md.Cn := ⟨8, 0, [], 0, 0, 0, 0, [0, 1], [], [[0, 1], [3, 3], [9, 0]]⟩
def kcG : Md.Cn := ⟨9, 3, [], 2, 2, 0, 0, [0, 1, 1], [], []⟩
theorem knS : newS kM = kS := by kernel_rfl
theorem knA : cutR kD kcA = ([⟨1, 0, 2⟩, ⟨1, 1, 2⟩], true) := by kernel_rfl
theorem knB : cutR kD kcB = ([⟨3, 0, 1⟩, ⟨3, 0, 3⟩, ⟨3, 1, 1⟩, ⟨3, 1, 3⟩], true) := by kernel_rfl
theorem knC : cutR kD kcC = ([], false) := by kernel_rfl
theorem knE : cutR kD kcE = ([⟨1, 0, 1⟩, ⟨2, 0, 1⟩], true) := by kernel_rfl
theorem knF : cutR kD kcF = ([⟨3, 0, 1⟩, ⟨3, 0, 2⟩, ⟨3, 1, 0⟩, ⟨3, 1, 2⟩], true) := by kernel_rfl
theorem knG : cutR kD kcG = ([⟨1, 1, 2⟩, ⟨2, 1, 2⟩], true) := by kernel_rfl
end Go.Proofs.YtlcegpnnanhloaaGreatDoor
