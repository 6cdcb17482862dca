/-
  tables.
-/
import Derived.Test.YtmhfabnpfkkbcaaMdCounts
import Derived.Test.YtmhfabnpfkkbcaaMdMay
import Derived.Test.YtmhfabnpfkkbcaaMdReg
import Derived.Test.YtmhfabnpfkkbcaaMdCopyMN
namespace Go.Proofs.Ytmhfabnpfkkbcaa
open Go.RowKit

theorem three_blocks (W : World) (o : Obj) (x : Nat) (hx : W.heap.size ≤ x ∧ x < W.heap.size + 3) : (((W.alloc o).alloc o).alloc o).drew.heap[x]? = some o := by
  have key : ∀ (w : World) (y : Nat), (w.alloc o).heap[y]? = if y = w.heap.size then some o else w.heap[y]? := fun w y => by
    by_cases h : y = w.heap.size
    · rw [if_pos h, h]; exact heap_alloc_new w o
    · rw [if_neg h]
      rcases Nat.lt_or_ge y w.heap.size with h1 | h1
      · exact Below.heap_alloc w o y h1
      · rw [Array.getElem?_eq_none (by simp; omega), Array.getElem?_eq_none h1]
  show (((W.alloc o).alloc o).alloc o).heap[x]? = some o
  rw [key, key, key]
  simp only [World.size_alloc]
  rcases (show x = W.heap.size ∨ x = W.heap.size + 1 ∨ x = W.heap.size + 1 + 1 by omega) with h | h | h <;> simp [h]
theorem three_below (W : World) (o : Obj) : Below W.heap.size W (((W.alloc o).alloc o).alloc o).drew :=
  ((((Below.refl _ _).alloc (Nat.le_refl _) _).alloc (by simp) _).alloc (by simp; omega) _).drew
/-- The rows of d while they are laid: V's blocks are as they were, but for x1. -/
structure TabD (w V : World) (x1 : Nat) (CD : Value → Array Value) (us : List Value) (k : Nat) (vd : Value) (wr : World) : Prop where
  off : Off (fun b => b = x1) V wr
  box : wr.heap[x1]? = some (.cells (CD vd) 40 (0, 0))
  own : wr.ownsRow V.heap.size 27 1 vd k (us.reverse.take k)
  below : Below w.heap.size w wr
theorem rev_take (us : List Value) (k : Nat) (hk : k < us.length) : us.reverse.take (k + 1) = us.reverse.take k ++ [us[us.length - 1 - k]'(by omega)] := by
  rw [List.take_succ_eq_append_getElem (by simpa using hk), List.getElem_reverse]
/-- One row more, not yet laid in the box. -/
theorem TabD.next {w V wr w1 w7 : World} {x1 : Nat} {CD : Value → Array Value} {us : List Value} {k : Nat} {vd v7 : Value} (h : TabD w V x1 CD us k vd wr) (hx : x1 < V.heap.size) (hw : w.heap.size ≤ x1) (hb : Below wr.heap.size wr w1) (hg : w1.grownBy w7 vd.ownBlock) (ho : w7.ownsRow V.heap.size 27 1 v7 (k + 1) (us.reverse.take (k + 1))) : w7.heap[x1]? = some (.cells (CD vd) 40 (0, 0)) ∧ Off (fun b => b = x1) V (w7.setCell ⟨x1, 9, none⟩ v7) ∧ (w7.setCell ⟨x1, 9, none⟩ v7).ownsRow V.heap.size 27 1 v7 (k + 1) (us.reverse.take (k + 1)) ∧ Below w.heap.size w (w7.setCell ⟨x1, 9, none⟩ v7) := by
  have hl := h.own.lt
  have hsz := h.off.size
  have lB := (Array.getElem?_eq_some_iff.1 h.box).1
  have hne : some x1 ≠ vd.ownBlock := fun e => by have := (hl x1 e.symm).1; omega
  have o1 : Off (fun b => b = x1) V w7 := (h.off.trans (Off.of_below hb)).then (Off.grown (S := fun b => vd.ownBlock = some b) hg fun k hk => hk) (fun x hx => (hl x hx).1)
  refine ⟨(hg.block x1 (Nat.lt_of_lt_of_le lB hb.size) hne).trans ((hb.block x1 lB).trans h.box), o1.trans (Off.set (S := fun b => b = x1) _ rfl), own_off ho (fun g hg e => by have := (ho.lt g hg).1; omega) (Off.set (S := fun b => b = x1) _ rfl), ?_⟩
  exact ((h.below.trans (hb.mono h.below.size)).grown hg (Nat.le_trans h.below.size hb.size) (fun g hg => by have := (hl g hg).1; omega)).setCell hw _

theorem src_take {w : World} {b o n cp j : Nat} {us : List Value} (h : SrcAt w (.slice (some ⟨b, o, none⟩) n cp) n 1 us) (hj : j ≤ n) : SrcAt w (.slice (some ⟨b, o, none⟩) j cp) j 1 (us.take j) := by
  obtain ⟨a, c, he, hl, h1, _, hc⟩ := h
  injection he with e1 _ e3
  subst e1 e3
  refine ⟨_, cp, rfl, by rw [List.length_take, Nat.mul_one]; omega, fun u hu => h1 u (List.mem_of_mem_take hu), fun hn => (by cases hn), fun ad ha i u hi => hc ad ha i u ?_⟩
  rw [List.getElem?_take] at hi
  split at hi
  · exact hi
  · cases hi
/-- The rows of e and of f. -/
structure TabE (w V : World) (x : Nat) (CD : Value → Array Value) (xs : List Value) (n : Nat) (v : Value) (wr : World) : Prop where
  off : Off (fun b => b = x) V wr
  box : wr.heap[x]? = some (.cells (CD v) 40 (0, 0))
  own : wr.ownsRow V.heap.size 27 1 v n xs
  below : Below w.heap.size w wr
theorem tabE_of {w wr w5 : World} {x n : Nat} {xs : List Value} {v v0 a0 a1 a2 a3 a4 a5 a6 a7 a8 : Value} (hw : Below w.heap.size w wr) (hb : Below wr.heap.size wr w5) (hE : w5.heap[x]? = some (.cells #[a0, a1, a2, a3, a4, a5, a6, a7, a8, v0] 40 (0, 0))) (h1 : w.heap.size < x) (h2 : x < wr.heap.size) (ho : w5.ownsRow wr.heap.size 27 1 v n xs) : TabE w wr x (fun v => #[a0, a1, a2, a3, a4, a5, a6, a7, a8, v]) xs n v (w5.setCell ⟨x, 9, none⟩ v) :=
  ⟨(Off.of_below hb).trans (Off.set (S := fun b => b = x) _ rfl), heap_setCell_same w5 x 9 _ 40 _ hE, own_off ho (fun g hg e => by have := (ho.lt g hg).1; omega) (Off.set (S := fun b => b = x) _ rfl), (hw.trans (hb.mono hw.size)).setCell (by show w.heap.size ≤ x; omega) _⟩
theorem wrap_pred {n j : Nat} (h : n = j + 1) (hl : n ≤ 1000000) : IntKind.i64.wrap ((n : Int) - 1) = (j : Int) := by
  have e : (n : Int) - 1 = (j : Int) := by omega
  rw [e]
  exact IntWalk.i64_in _ (by omega)

theorem us_at {w w' : World} {v : Value} {l : List (List Int)} {us : List Value} (hU : KRows (fun _ => False) w v l us) (hb : Below w.heap.size w w') {i k : Nat} (hi : i < us.length) (hk : k < l.length) (e : i = k) : IntsAt w' us[i] l[k] := by
  subst e
  exact hU.each i hi hk w' (Off.of_below hb)
theorem rows_rev {w w' : World} {v0 v : Value} {l : List (List Int)} {us : List Value} {B : Nat} (hU : KRows (fun _ => False) w v0 l us) (hb : Below w.heap.size w w') (ho : w'.ownsRow B 27 1 v l.length us.reverse) (hm : l.length ≤ maxLen) : RowsAt w' v l.reverse := by
  have hl := hU.len
  refine rows_own (us := us.reverse) (by rw [List.length_reverse]; exact ho) (by simp [hl]) (by rw [List.length_reverse]; exact hm) fun i h1 h2 => ?_
  rw [List.getElem_reverse, List.getElem_reverse]
  simp at h1 h2
  exact us_at hU hb _ _ (by omega)
theorem rows_more {w w' : World} {v0 v : Value} {l : List (List Int)} {us : List Value} {B : Nat} (hU : KRows (fun _ => False) w v0 l us) (hb : Below w.heap.size w w') (h0 : l ≠ []) {j : Nat} (hj : j < us.length) (hjn : l.length = j + 1) (ho : w'.ownsRow B 27 1 v (l.length + 1) (us ++ [us[j]])) (hm : l.length + 1 ≤ maxLen) : RowsAt w' v (l ++ [l.getLast h0]) := by
  have hl := hU.len
  refine rows_own (us := us ++ [us[j]]) (by rw [List.length_append, List.length_singleton]; exact ho) (by simp [hl]) (by rw [List.length_append, List.length_singleton]; exact hm) fun i h1 h2 => ?_
  rcases Nat.lt_or_ge i us.length with h3 | h3
  · rw [List.getElem_append_left h3, List.getElem_append_left (by omega)]
    exact us_at hU hb _ _ rfl
  · rw [List.getElem_append_right h3, List.getElem_append_right (by omega)]
    simp only [List.getElem_singleton]
    rw [List.getLast_eq_getElem]
    exact us_at hU hb _ _ (by omega)
theorem rows_less {w w' : World} {v0 v : Value} {l : List (List Int)} {us : List Value} {B j : Nat} (hU : KRows (fun _ => False) w v0 l us) (hb : Below w.heap.size w w') (hjn : l.length = j + 1) (ho : w'.ownsRow B 27 1 v j (us.take j)) (hm : j ≤ maxLen) : RowsAt w' v l.dropLast := by
  have hl := hU.len
  have e : l.dropLast.length = j := by simp [hjn]
  refine rows_own (us := us.take j) (by rw [e]; exact ho) (by rw [e, List.length_take]; omega) (by rw [e]; exact hm) fun i h1 h2 => ?_
  rw [List.getElem_take, List.getElem_dropLast]
  exact us_at hU hb _ _ rfl
theorem tab_all {w V wr wc F : World} {N x1 x2 x3 n j : Nat} {CD : Value → Array Value} {C : Array Value} {us xs : List Value} {vd ve vf : Value} {m : Nat} (hT : TabD w V x1 CD us n vd wr) (hE : TabE w wr x2 CD xs m ve wc) (hF : TabE w wc x3 CD (us.take j) j vf F) (hN : V.heap[N]? = some (.cells C 40 (0, 0))) (h1 : N < x1) (h2 : N < x2) (h3 : N < x3) (l2 : x2 < V.heap.size) (l3 : x3 < V.heap.size) (n12 : x1 ≠ x2) (n13 : x1 ≠ x3) (n23 : x2 ≠ x3) (hn : us.length = n) :
    (F.heap[N]? = some (.cells C 40 (0, 0)) ∧ F.heap[x1]? = some (.cells (CD vd) 40 (0, 0)) ∧ F.heap[x2]? = some (.cells (CD ve) 40 (0, 0)) ∧ F.heap[x3]? = some (.cells (CD vf) 40 (0, 0))) ∧ F.ownsRow V.heap.size 27 1 vd n us.reverse ∧ F.ownsRow wr.heap.size 27 1 ve m xs := by
  have sV := hT.off.size
  have sE := hE.off.size
  have lN := (Array.getElem?_eq_some_iff.1 hN).1
  have l1 := (Array.getElem?_eq_some_iff.1 hT.box).1
  have l2' := (Array.getElem?_eq_some_iff.1 hE.box).1
  have hod := hT.own.lt
  have hoe := hE.own.lt
  have e1 : us.reverse.take n = us.reverse := List.take_of_length_le (by simp [hn])
  have o1 := hT.own
  rw [e1] at o1
  refine ⟨⟨?_, ?_, ?_, hF.box⟩, ?_, ?_⟩
  · exact (hF.off.block N (by omega) (by omega)).trans ((hE.off.block N (by omega) (by omega)).trans ((hT.off.block N lN (by omega)).trans hN))
  · exact (hF.off.block x1 (by omega) n13).trans ((hE.off.block x1 l1 n12).trans hT.box)
  · exact (hF.off.block x2 l2' n23).trans hE.box
  · exact own_off (own_off o1 (fun g hg e => by have := (hod g hg).1; omega) hE.off) (fun g hg e => by have := (hod g hg).1; omega) hF.off
  · exact own_off hE.own (fun g hg e => by have := (hoe g hg).1; omega) hF.off

set_option maxRecDepth 10000 in
set_option maxHeartbeats 2000000 in
theorem tables_any (c : Md.Cn) (vt vx vb vr vq : Value) (l : List Int) (w : World) (hC : CnAt w c vt vx vb vr) (hq : IntsAt w vq l) (hk : c.kind = 8) (h0 : 0 < c.rows.length) (hl : c.rows.length ≤ 1000000) (hrc0 : ∀ a n cp, vr = .slice a n cp → n ≤ cp) : Calls Try.prog 15 #[cnVal c vt vx vb vr, vq] w fun e w' => e = .returned (.bool true) ∧ Below w.heap.size w w' := by
  obtain ⟨ta, tc, rfl, _⟩ := hC.t.form
  obtain ⟨xa, xc, rfl, _⟩ := hC.x.form
  obtain ⟨ba, bc, rfl, _⟩ := hC.b.form
  obtain ⟨ra, rc, rfl, _⟩ := hC.r.form
  obtain ⟨qa, qc, rfl, hqm⟩ := hq.form
  have hrc : c.rows.length ≤ rc := hrc0 _ _ _ rfl
  clear hrc0
  obtain ⟨us, hUs⟩ := KRows.old (S := fun _ => False) hC.r (Below.refl _ _) (fun k h => h.elim)
  obtain ⟨W, hW⟩ : ∃ W, w.alloc (.cells #[.int .i64 c.kind, .int .i64 c.op, .slice ta c.terms.length tc, .int .i64 c.k, .int .i64 c.v, .int .i64 c.x, .int .i64 c.y, .slice xa c.xs.length xc, .slice ba c.table.length bc, .slice ra c.rows.length rc] 40) = W := ⟨_, rfl⟩
  have hbW : Below w.heap.size w W := by rw [← hW]; exact (Below.refl _ _).alloc (Nat.le_refl _) _
  have hN : W.heap[w.heap.size]? = some (.cells #[.int .i64 c.kind, .int .i64 c.op, .slice ta c.terms.length tc, .int .i64 c.k, .int .i64 c.v, .int .i64 c.x, .int .i64 c.y, .slice xa c.xs.length xc, .slice ba c.table.length bc, .slice ra c.rows.length rc] 40) := by rw [← hW]; exact heap_alloc_new w _
  have HB : Hid (Below w.heap.size w W) := hbW
  have HN : Hid (W.heap[w.heap.size]? = some (.cells #[.int .i64 c.kind, .int .i64 c.op, .slice ta c.terms.length tc, .int .i64 c.k, .int .i64 c.v, .int .i64 c.x, .int .i64 c.y, .slice xa c.xs.length xc, .slice ba c.table.length bc, .slice ra c.rows.length rc] 40)) := hN
  have HCc : Hid (∀ w', Below w.heap.size w w' → CnAt w' c (.slice ta c.terms.length tc) (.slice xa c.xs.length xc) (.slice ba c.table.length bc) (.slice ra c.rows.length rc)) := fun w' hb => hC.below hb
  have HX : Hid (∀ w', Below w.heap.size w w' → IntsAt w' (.slice qa l.length qc) l) := fun w' hb => hq.below hb
  have HUs : Hid (KRows (fun _ => False) w (.slice ra c.rows.length rc) c.rows us) := hUs
  have HK : Hid (c.kind = 8) := hk
  have HH : Hid (Calls Try.prog 13 #[.agg #[.int .i64 c.kind, .int .i64 c.op, .slice ta c.terms.length tc, .int .i64 c.k, .int .i64 c.v, .int .i64 c.x, .int .i64 c.y, .slice xa c.xs.length xc, .slice ba c.table.length bc, .slice ra c.rows.length rc], .slice qa l.length qc] W fun e w' => e = .returned (.bool (Md.holds c l)) ∧ Below W.heap.size W w') := by
    have h1 := Holds_any c _ _ _ _ _ l W (hC.below hbW) (hq.below hbW)
    unfold cnVal at h1
    exact h1
  obtain ⟨⟨p0, p1, p2, p3, p4, p5, p6, p7, p8, p9⟩, _⟩ := box10 hN
  obtain ⟨bi, hbi⟩ : ∃ b, Md.holds c l = b := ⟨_, rfl⟩
  have HBi : Hid (Md.holds c l = bi) := hbi
  rw [hbi] at HH
  unfold cnVal
  clear hC hq hbW hN hk hUs hbi
  go_enter Try.func15, Try.ntmps15
  go_wp2_with fail
  refine calls_at HH.out (by with_reducible rfl) (by with_reducible rfl) ?_
  rintro e w1 ⟨rfl, hb1⟩
  have HT1 : Hid (Below W.heap.size W w1) := hb1
  have HN1 : Hid (w1.heap[w.heap.size]? = some (.cells #[.int .i64 c.kind, .int .i64 c.op, .slice ta c.terms.length tc, .int .i64 c.k, .int .i64 c.v, .int .i64 c.x, .int .i64 c.y, .slice xa c.xs.length xc, .slice ba c.table.length bc, .slice ra c.rows.length rc] 40)) := (hb1.block _ (Array.getElem?_eq_some_iff.1 HN.out).1).trans HN.out
  have HS : Hid (w1.cell? ⟨w.heap.size, 0, none⟩ = some (.int .i64 c.kind) ∧ w1.cell? ⟨w.heap.size, 1, none⟩ = some (.int .i64 c.op) ∧ w1.cell? ⟨w.heap.size, 2, none⟩ = some (.slice ta c.terms.length tc) ∧ w1.cell? ⟨w.heap.size, 3, none⟩ = some (.int .i64 c.k) ∧ w1.cell? ⟨w.heap.size, 4, none⟩ = some (.int .i64 c.v) ∧ w1.cell? ⟨w.heap.size, 5, none⟩ = some (.int .i64 c.x) ∧ w1.cell? ⟨w.heap.size, 6, none⟩ = some (.int .i64 c.y) ∧ w1.cell? ⟨w.heap.size, 7, none⟩ = some (.slice xa c.xs.length xc) ∧ w1.cell? ⟨w.heap.size, 8, none⟩ = some (.slice ba c.table.length bc) ∧ w1.cell? ⟨w.heap.size, 9, none⟩ = some (.slice ra c.rows.length rc)) := (box10 HN1.out).1
  clear hb1 HH p0 p1 p2 p3 p4 p5 p6 p7 p8 p9 hW
  have p9 := HS.out.2.2.2.2.2.2.2.2.2
  go_wp2_with fail
  clear p9
  obtain ⟨W3, hW3⟩ : ∃ W3, (((w1.alloc (.cells #[.int .i64 c.kind, .int .i64 c.op, .slice ta c.terms.length tc, .int .i64 c.k, .int .i64 c.v, .int .i64 c.x, .int .i64 c.y, .slice xa c.xs.length xc, .slice ba c.table.length bc, .slice ra c.rows.length rc] 40)).alloc (.cells #[.int .i64 c.kind, .int .i64 c.op, .slice ta c.terms.length tc, .int .i64 c.k, .int .i64 c.v, .int .i64 c.x, .int .i64 c.y, .slice xa c.xs.length xc, .slice ba c.table.length bc, .slice ra c.rows.length rc] 40)).alloc (.cells #[.int .i64 c.kind, .int .i64 c.op, .slice ta c.terms.length tc, .int .i64 c.k, .int .i64 c.v, .int .i64 c.x, .int .i64 c.y, .slice xa c.xs.length xc, .slice ba c.table.length bc, .slice ra c.rows.length rc] 40)).drew = W3 := ⟨_, rfl⟩
  have HS3 : Hid (W3.cell? ⟨w.heap.size, 0, none⟩ = some (.int .i64 c.kind) ∧ W3.cell? ⟨w.heap.size, 1, none⟩ = some (.int .i64 c.op) ∧ W3.cell? ⟨w.heap.size, 2, none⟩ = some (.slice ta c.terms.length tc) ∧ W3.cell? ⟨w.heap.size, 3, none⟩ = some (.int .i64 c.k) ∧ W3.cell? ⟨w.heap.size, 4, none⟩ = some (.int .i64 c.v) ∧ W3.cell? ⟨w.heap.size, 5, none⟩ = some (.int .i64 c.x) ∧ W3.cell? ⟨w.heap.size, 6, none⟩ = some (.int .i64 c.y) ∧ W3.cell? ⟨w.heap.size, 7, none⟩ = some (.slice xa c.xs.length xc) ∧ W3.cell? ⟨w.heap.size, 8, none⟩ = some (.slice ba c.table.length bc) ∧ W3.cell? ⟨w.heap.size, 9, none⟩ = some (.slice ra c.rows.length rc)) := by
    rw [← hW3]
    exact ten_next (ten_next (ten_next HS.out (nal _ _)) (nal _ _)) (nal _ _).drew
  go_cut [7, 8, 9] from 17 to 109 (fun s7 s8 s9 wx => ∃ x1 x2 x3 : Nat, s7 = .pointer (some ⟨x1, 0, none⟩) ∧ s8 = .pointer (some ⟨x2, 0, none⟩) ∧ s9 = .pointer (some ⟨x3, 0, none⟩) ∧ (x1 ≠ x2 ∧ x1 ≠ x3 ∧ x2 ≠ x3) ∧ (∀ x, (x = x1 ∨ x = x2 ∨ x = x3) → w1.heap.size ≤ x ∧ x < w1.heap.size + 3) ∧ W3 = wx)
  case first =>
    go_region_held3 (fun w' => w'.cell? ⟨w.heap.size, 0, none⟩ = some (.int .i64 c.kind) ∧ w'.cell? ⟨w.heap.size, 1, none⟩ = some (.int .i64 c.op) ∧ w'.cell? ⟨w.heap.size, 2, none⟩ = some (.slice ta c.terms.length tc) ∧ w'.cell? ⟨w.heap.size, 3, none⟩ = some (.int .i64 c.k) ∧ w'.cell? ⟨w.heap.size, 4, none⟩ = some (.int .i64 c.v) ∧ w'.cell? ⟨w.heap.size, 5, none⟩ = some (.int .i64 c.x) ∧ w'.cell? ⟨w.heap.size, 6, none⟩ = some (.int .i64 c.y) ∧ w'.cell? ⟨w.heap.size, 7, none⟩ = some (.slice xa c.xs.length xc) ∧ w'.cell? ⟨w.heap.size, 8, none⟩ = some (.slice ba c.table.length bc) ∧ w'.cell? ⟨w.heap.size, 9, none⟩ = some (.slice ra c.rows.length rc))
      (first | exact HS3.out | exact ten_next HS.out (Below.refl _ _).drew | exact ten_next HS.out (nal _ _).drew | exact ten_next (ten_next HS.out (nal _ _)) (nal _ _).drew | exact ten_next (ten_next (ten_next HS.out (nal _ _)) (nal _ _)) (nal _ _).drew)
      (first | (fail))
    all_goals
      go_wp2_with fail
      go_meet
      refine ⟨_, _, _, rfl, rfl, rfl, ⟨?_, ?_, ?_⟩, ?_, rfl⟩
      all_goals first | omega | (intro x hx; omega)
  case rest =>
    obtain ⟨x1, x2, x3, rfl, rfl, rfl, ⟨n12, n13, n23⟩, hr, rfl⟩ := hcut
    have r1 := hr x1 (.inl rfl)
    have r2 := hr x2 (.inr (.inl rfl))
    have r3 := hr x3 (.inr (.inr rfl))
    have hNl : w.heap.size < w1.heap.size := (Array.getElem?_eq_some_iff.1 HN1.out).1
    have hk3 : ∀ x, w1.heap.size ≤ x ∧ x < w1.heap.size + 3 → W3.heap[x]? = some (.cells #[.int .i64 c.kind, .int .i64 c.op, .slice ta c.terms.length tc, .int .i64 c.k, .int .i64 c.v, .int .i64 c.x, .int .i64 c.y, .slice xa c.xs.length xc, .slice ba c.table.length bc, .slice ra c.rows.length rc] 40) := by
      intro x hx
      rw [← hW3]
      exact three_blocks w1 _ x hx
    have hbW3 : Below w1.heap.size w1 W3 := by
      rw [← hW3]
      exact three_below w1 _
    have b1 := hk3 x1 r1
    have b2 := hk3 x2 r2
    have b3 := hk3 x3 r3
    have bn : W3.heap[w.heap.size]? = some (.cells #[.int .i64 c.kind, .int .i64 c.op, .slice ta c.terms.length tc, .int .i64 c.k, .int .i64 c.v, .int .i64 c.x, .int .i64 c.y, .slice xa c.xs.length xc, .slice ba c.table.length bc, .slice ra c.rows.length rc] 40) := (hbW3.block _ hNl).trans HN1.out
    obtain ⟨V, hV⟩ : ∃ V, (((W3.setCell ⟨x1, 9, none⟩ (.slice none 0 0)).setCell ⟨x2, 9, none⟩ (.slice none 0 0)).setCell ⟨x3, 9, none⟩ (.slice none 0 0)) = V := ⟨_, rfl⟩
    have e1 : V.heap[x1]? = some (.cells #[.int .i64 c.kind, .int .i64 c.op, .slice ta c.terms.length tc, .int .i64 c.k, .int .i64 c.v, .int .i64 c.x, .int .i64 c.y, .slice xa c.xs.length xc, .slice ba c.table.length bc, .slice none 0 0] 40) := by
      rw [← hV, heap_setCell_other _ ⟨x3, 9, none⟩ x1 _ n13, heap_setCell_other _ ⟨x2, 9, none⟩ x1 _ n12]
      exact heap_setCell_same W3 x1 9 _ 40 _ b1
    have e2 : V.heap[x2]? = some (.cells #[.int .i64 c.kind, .int .i64 c.op, .slice ta c.terms.length tc, .int .i64 c.k, .int .i64 c.v, .int .i64 c.x, .int .i64 c.y, .slice xa c.xs.length xc, .slice ba c.table.length bc, .slice none 0 0] 40) := by
      rw [← hV, heap_setCell_other _ ⟨x3, 9, none⟩ x2 _ n23]
      exact heap_setCell_same _ x2 9 _ 40 _ ((heap_setCell_other W3 ⟨x1, 9, none⟩ x2 _ (Ne.symm n12)).trans b2)
    have e3 : V.heap[x3]? = some (.cells #[.int .i64 c.kind, .int .i64 c.op, .slice ta c.terms.length tc, .int .i64 c.k, .int .i64 c.v, .int .i64 c.x, .int .i64 c.y, .slice xa c.xs.length xc, .slice ba c.table.length bc, .slice none 0 0] 40) := by
      rw [← hV]
      exact heap_setCell_same _ x3 9 _ 40 _ ((heap_setCell_other _ ⟨x2, 9, none⟩ x3 _ (Ne.symm n23)).trans ((heap_setCell_other W3 ⟨x1, 9, none⟩ x3 _ (Ne.symm n13)).trans b3))
    have en : V.heap[w.heap.size]? = some (.cells #[.int .i64 c.kind, .int .i64 c.op, .slice ta c.terms.length tc, .int .i64 c.k, .int .i64 c.v, .int .i64 c.x, .int .i64 c.y, .slice xa c.xs.length xc, .slice ba c.table.length bc, .slice ra c.rows.length rc] 40) := by
      rw [← hV]
      exact (heap_setCell_other _ ⟨x3, 9, none⟩ _ _ (by show w.heap.size ≠ x3; omega)).trans ((heap_setCell_other _ ⟨x2, 9, none⟩ _ _ (by show w.heap.size ≠ x2; omega)).trans ((heap_setCell_other W3 ⟨x1, 9, none⟩ _ _ (by show w.heap.size ≠ x1; omega)).trans bn))
    have hbW1 : Below w.heap.size w w1 := HB.out.trans (HT1.out.mono HB.out.size)
    have hbV : Below w.heap.size w V := by
      rw [← hV]
      exact (((hbW1.trans (hbW3.mono hbW1.size)).setCell (by show w.heap.size ≤ x1; omega) _).setCell (by show w.heap.size ≤ x2; omega) _).setCell (by show w.heap.size ≤ x3; omega) _
    have HV : Hid (V.heap[x1]? = some (.cells #[.int .i64 c.kind, .int .i64 c.op, .slice ta c.terms.length tc, .int .i64 c.k, .int .i64 c.v, .int .i64 c.x, .int .i64 c.y, .slice xa c.xs.length xc, .slice ba c.table.length bc, .slice none 0 0] 40) ∧ V.heap[x2]? = some (.cells #[.int .i64 c.kind, .int .i64 c.op, .slice ta c.terms.length tc, .int .i64 c.k, .int .i64 c.v, .int .i64 c.x, .int .i64 c.y, .slice xa c.xs.length xc, .slice ba c.table.length bc, .slice none 0 0] 40) ∧ V.heap[x3]? = some (.cells #[.int .i64 c.kind, .int .i64 c.op, .slice ta c.terms.length tc, .int .i64 c.k, .int .i64 c.v, .int .i64 c.x, .int .i64 c.y, .slice xa c.xs.length xc, .slice ba c.table.length bc, .slice none 0 0] 40) ∧ V.heap[w.heap.size]? = some (.cells #[.int .i64 c.kind, .int .i64 c.op, .slice ta c.terms.length tc, .int .i64 c.k, .int .i64 c.v, .int .i64 c.x, .int .i64 c.y, .slice xa c.xs.length xc, .slice ba c.table.length bc, .slice ra c.rows.length rc] 40)) := ⟨e1, e2, e3, en⟩
    have HX1 : Hid (w.heap.size < x1 ∧ x1 < V.heap.size) := ⟨by omega, (Array.getElem?_eq_some_iff.1 e1).1⟩
    have HX2 : Hid ((w.heap.size < x2 ∧ x2 < V.heap.size) ∧ w.heap.size < x3 ∧ x3 < V.heap.size) := ⟨⟨by omega, (Array.getElem?_eq_some_iff.1 e2).1⟩, by omega, (Array.getElem?_eq_some_iff.1 e3).1⟩
    have HI0 : Hid (TabD w V x1 (fun v => #[.int .i64 c.kind, .int .i64 c.op, .slice ta c.terms.length tc, .int .i64 c.k, .int .i64 c.v, .int .i64 c.x, .int .i64 c.y, .slice xa c.xs.length xc, .slice ba c.table.length bc, v]) us 0 (.slice none 0 0) V) := ⟨Off.refl _ _, e1, World.ownsRow_nil _ _ _ _, hbV⟩
    obtain ⟨⟨_, _, _, _, _, _, _, _, _, k1⟩, z1⟩ := box10 b1
    obtain ⟨⟨_, _, _, _, _, _, _, _, _, k2⟩, z2⟩ := box10 b2
    obtain ⟨⟨_, _, _, _, _, _, _, _, _, k3⟩, z3⟩ := box10 b3
    have z19 := z1 9
    have z29 := z2 9
    have z39 := z3 9
    obtain ⟨rb, ro, rfl, hRb, hRc⟩ : ∃ b off, ra = some ⟨b, off, none⟩ ∧ b < w.heap.size ∧ ∀ j (h : j < us.length), w.cell? ⟨b, off + j, none⟩ = some us[j] := by
      obtain ⟨a, cap, he, _, hc⟩ := HUs.out.form
      injection he with he1 _ _
      obtain ⟨b, off, ha, hb, _, hj⟩ := hc h0
      exact ⟨b, off, he1.trans ha, hb, hj⟩
    have HRb : Hid (rb < w.heap.size) := hRb
    have HRc : Hid (∀ j (h : j < us.length), w.cell? ⟨rb, ro + j, none⟩ = some us[j]) := hRc
    have HUl : Hid (us.length = c.rows.length) := HUs.out.len
    clear z1 z2 z3 e1 e2 e3 en hbV b1 b2 b3 bn hbW3 hk3 hr HS HS3 hW3 r1 r2 r3 hNl HN hbW1 hRb hRc
    have hn1 : (c.rows.length : Int) ≤ 1000000 := by omega
    go_wp2_with fail
    clear k1 k2 k3 z19 z29 z39 hV
    go_loopw [10] (fun iv wr => ∃ (k : Nat) (z : Int) (da : Option Addr) (dc : Nat), iv = .int .i64 z ∧ Hid (z = (c.rows.length : Int) - 1 - (k : Int)) ∧ k ≤ c.rows.length ∧ Hid (TabD w V x1 (fun v => #[.int .i64 c.kind, .int .i64 c.op, .slice ta c.terms.length tc, .int .i64 c.k, .int .i64 c.v, .int .i64 c.x, .int .i64 c.y, .slice xa c.xs.length xc, .slice ba c.table.length bc, v]) us k (.slice da k dc) wr)) (fun iv _ => (intOf iv + 1).toNat)
    case atStart => exact ⟨0, _, none, 0, rfl, by show _ = _; first | omega | simp, Nat.zero_le _, HI0⟩
    case round =>
      obtain ⟨k, z, da, dc, rfl, hz, hk, hT⟩ := hrel
      by_cases hlt : k < c.rows.length
      · obtain ⟨j, rfl⟩ : ∃ j : Nat, z = (j : Int) := ⟨z.toNat, by have := hz.out; omega⟩
        have hjl : j < c.rows.length := by have := hz.out; omega
        have hjI : (j : Int) < (c.rows.length : Int) := by omega
        have hju : j < us.length := by have := HUl.out; omega
        have hB := hT.out.below
        have d2 : wr.cell? ⟨rb, ro + j, none⟩ = some us[j] := (hB.cell (p := ⟨rb, ro + j, none⟩) HRb.out).trans (HRc.out j hju)
        obtain ⟨ua, uc, hu, _⟩ := (HUs.out.each j hju hjl).now.form
        have HRev : Hid (us.reverse.take (k + 1) = us.reverse.take k ++ [us[j]]) := by
          show _ = _
          rw [rev_take us k (by have := HUl.out; omega)]
          have : us.length - 1 - k = j := by have := HUl.out; have := hz.out; omega
          simp only [this]
        have s1 : wr.cell? ⟨w.heap.size, 9, none⟩ = some (.slice (some ⟨rb, ro, none⟩) c.rows.length rc) := by
          have hb := hT.out.off.block w.heap.size (Array.getElem?_eq_some_iff.1 HV.out.2.2.2).1 (by have := HX1.out.1; omega)
          exact (box10 (hb.trans HV.out.2.2.2)).1.2.2.2.2.2.2.2.2.2
        have s3 : wr.cell? ⟨x1, 9, none⟩ = some (.slice da k dc) := (box10 hT.out.box).1.2.2.2.2.2.2.2.2.2
        have HO8 : Hid ((wr.alloc (.cells #[us[j]] 27)).drew.ownsRow V.heap.size 27 1 (.slice da k dc) k (us.reverse.take k)) := hT.out.own.alloc _
        have HSrc : Hid (SrcAt (wr.alloc (.cells #[us[j]] 27)).drew (.slice (some ⟨wr.heap.size, 0, none⟩) 1 1) 1 1 [us[j]]) := src_one (t := 27) (heap_alloc_new wr _) (by rw [hu]; rfl)
        have HLe : Hid (V.heap.size ≤ (wr.alloc (.cells #[us[j]] 27)).drew.heap.size) := by
          have := hT.out.off.size
          show V.heap.size ≤ (wr.alloc (.cells #[us[j]] 27)).heap.size
          simp
          omega
        have HFar : Hid (∀ b, b ≤ w.heap.size → some b ≠ (Value.slice da k dc).ownBlock) := fun b hb e => by
          have := (hT.out.own.lt b e.symm).1
          have := HX1.out
          omega
        have s2 := d2
        generalize us[j] = uj at *
        subst hu
        clear hB d2
        go_wp2_with fail
        refine wp_region_T (fun w' => w'.cell? ⟨w.heap.size, 9, none⟩ = some (.slice (some ⟨rb, ro, none⟩) c.rows.length rc) ∧ w'.cell? ⟨rb, ro + j, none⟩ = some (.slice ua (c.rows[j]).length uc)) (fun w' => w'.cell? ⟨x1, 9, none⟩ = some (.slice da k dc)) [8, 9, 10] (by kernel_rfl) ⟨⟨one_next (Below.refl _ _).drew s1, one_next (Below.refl _ _).drew s2⟩, one_next (Below.refl _ _).drew s3⟩ (fun hHeld => ?_)
        refine wpAnyT_takeB (i := 0) (oi := ⟨some 29, .fieldAddr 40 (.tmp 7) 9, _, _, _, _⟩) (v := ?vR8x0) rfl (by kernel_rfl) (by kernel_rfl) (by kernel_rfl) (by kernel_rfl) (fun _ _ _ h => h) (Or.inl ⟨by rfl, ?hyR8x0⟩) (by assumption) ?restR8x0
        case hyR8x0 => (intro w hSw; (try dsimp only at hSw); go_simp; try (with_reducible rfl))
        try simp only [Act.put, List.setIfInBounds_toArray, List.set_cons_zero, List.set_cons_succ]
        refine wpAnyT_take (i := 1) (oi := ⟨some 30, .load 38 (.tmp 29), _, _, _, _⟩) (v := ?vR8x1) rfl (by kernel_rfl) (by kernel_rfl) (by kernel_rfl) (by kernel_rfl) (by kernel_rfl) (fun _ _ _ h => h) (Or.inl ⟨by rfl, ?hyR8x1⟩) (by assumption) ?restR8x1
        case hyR8x1 => (intro w hSw; (try dsimp only at hSw); go_simp; try (with_reducible rfl))
        try simp only [Act.put, List.setIfInBounds_toArray, List.set_cons_zero, List.set_cons_succ]
        refine wpAnyT_takeB (i := 2) (oi := ⟨some 31, .fieldAddr 40 (.tmp 2) 9, _, _, _, _⟩) (v := ?vR8x2) rfl (by kernel_rfl) (by kernel_rfl) (by kernel_rfl) (by kernel_rfl) (fun _ _ _ h => h) (Or.inl ⟨by rfl, ?hyR8x2⟩) (by assumption) ?restR8x2
        case hyR8x2 => (intro w hSw; (try dsimp only at hSw); go_simp; try (with_reducible rfl))
        try simp only [Act.put, List.setIfInBounds_toArray, List.set_cons_zero, List.set_cons_succ]
        refine wpAnyT_takeB (i := 3) (oi := ⟨some 32, .load 38 (.tmp 31), _, _, _, _⟩) (v := ?vR8x3) rfl (by kernel_rfl) (by kernel_rfl) (by kernel_rfl) (by kernel_rfl) (fun _ _ _ h => h) (Or.inl ⟨by rfl, ?hyR8x3⟩) (by assumption) ?restR8x3
        case hyR8x3 => (intro w hSw; (try dsimp only at hSw); go_simp; try (with_reducible rfl))
        try simp only [Act.put, List.setIfInBounds_toArray, List.set_cons_zero, List.set_cons_succ]
        refine wpAnyT_takeB (i := 4) (oi := ⟨some 33, .move (.tmp 10), _, _, _, _⟩) (v := ?vR8x4) rfl (by kernel_rfl) (by kernel_rfl) (by kernel_rfl) (by kernel_rfl) (fun _ _ _ h => h) (Or.inl ⟨by rfl, ?hyR8x4⟩) (by assumption) ?restR8x4
        case hyR8x4 => (intro w hSw; (try dsimp only at hSw); go_simp; try (with_reducible rfl))
        try simp only [Act.put, List.setIfInBounds_toArray, List.set_cons_zero, List.set_cons_succ]
        refine wpAnyT_takeB (i := 5) (oi := ⟨some 34, .indexAddr 38 (.tmp 32) (.tmp 33), _, _, _, _⟩) (v := ?vR8x5) rfl (by kernel_rfl) (by kernel_rfl) (by kernel_rfl) (by kernel_rfl) (fun _ _ _ h => h) (Or.inl ⟨by rfl, ?hyR8x5⟩) (by assumption) ?restR8x5
        case hyR8x5 => (intro w hSw; (try dsimp only at hSw); go_simp; try (with_reducible rfl))
        try simp only [Act.put, List.setIfInBounds_toArray, List.set_cons_zero, List.set_cons_succ]
        refine wpAnyT_takeB (i := 6) (oi := ⟨some 35, .load 27 (.tmp 34), _, _, _, _⟩) (v := ?vR8x6) rfl (by kernel_rfl) (by kernel_rfl) (by kernel_rfl) (by kernel_rfl) (fun _ _ _ h => h) (Or.inl ⟨by rfl, ?hyR8x6⟩) (by assumption) ?restR8x6
        case hyR8x6 => (intro w hSw; (try dsimp only at hSw); go_simp; try (with_reducible rfl))
        try simp only [Act.put, List.setIfInBounds_toArray, List.set_cons_zero, List.set_cons_succ]
        refine wpAnyT_one (i := 7) (o := ⟨some 36, .buildSlice 38 1 #[(0, (.tmp 35))], _, _, _, _⟩) (by kernel_rfl) rfl (fun K hK => ?_)
        go_simp
        have hH7 : ((wr.alloc (.cells #[(.slice ua (c.rows[j]).length uc)] 27)).drew.cell? ⟨w.heap.size, 9, none⟩ = some (.slice (some ⟨rb, ro, none⟩) c.rows.length rc) ∧ (wr.alloc (.cells #[(.slice ua (c.rows[j]).length uc)] 27)).drew.cell? ⟨rb, ro + j, none⟩ = some (.slice ua (c.rows[j]).length uc)) ∧ (wr.alloc (.cells #[(.slice ua (c.rows[j]).length uc)] 27)).drew.cell? ⟨x1, 9, none⟩ = some (.slice da k dc) := ⟨⟨one_next (nal _ _).drew s1, one_next (nal _ _).drew s2⟩, one_next (nal _ _).drew s3⟩
        refine hK.out _ _ ⟨hH7.1, fun _ => hH7.2⟩ ?_
        clear hK K
        try simp only [Act.put, List.setIfInBounds_toArray, List.set_cons_zero, List.set_cons_succ]
        refine wpAnyT_late (i := 8) (o := ⟨some 37, .call { callee := .builtin .append, args := #[.tmp 30, .tmp 36], argTypes := #[38, 38] }, _, _, _, _⟩) (by kernel_rfl) rfl (by kernel_rfl) (fun K hK => ?_)
        refine op_append_src (wr.alloc (.cells #[(.slice ua (c.rows[j]).length uc)] 27)).drew (.tmp 30) (.tmp 36) 38 27 (.slice none 0 0) 1 24 rfl und38' info27' rfl (by decide) V.heap.size _ _ k 1 _ _ (by rfl) (by rfl) HO8.out HSrc.out (by unfold maxLen; omega) (by omega) HLe.out (by rfl) ?_
        intro v7 w7 ho7 hg7 _
        obtain ⟨a7, c7, rfl⟩ := own_form ho7
        have HQ7 := hT.out.next (v7 := .slice a7 (k + 1) c7) HX1.out.2 (Nat.le_of_lt HX1.out.1) (nal wr (.cells #[(.slice ua (c.rows[j]).length uc)] 27)).drew hg7 (by rw [HRev.out]; exact ho7)
        have HQ8 : Hid (w7.heap[x1]? = some (.cells #[.int .i64 c.kind, .int .i64 c.op, .slice ta c.terms.length tc, .int .i64 c.k, .int .i64 c.v, .int .i64 c.x, .int .i64 c.y, .slice xa c.xs.length xc, .slice ba c.table.length bc, .slice da k dc] 40 (0, 0)) ∧ TabD w V x1 (fun v => #[.int .i64 c.kind, .int .i64 c.op, .slice ta c.terms.length tc, .int .i64 c.k, .int .i64 c.v, .int .i64 c.x, .int .i64 c.y, .slice xa c.xs.length xc, .slice ba c.table.length bc, v]) us (k + 1) (.slice a7 (k + 1) c7) (w7.setCell ⟨x1, 9, none⟩ (.slice a7 (k + 1) c7))) := ⟨HQ7.1, ⟨HQ7.2.1, heap_setCell_same w7 x1 9 _ 40 _ HQ7.1, HQ7.2.2.1, HQ7.2.2.2⟩⟩
        obtain ⟨⟨_, _, _, _, _, _, _, _, _, y9⟩, hy⟩ := box10 HQ8.out.1
        have hy9 := hy 9
        have hS7 : w7.cell? ⟨w.heap.size, 9, none⟩ = some (.slice (some ⟨rb, ro, none⟩) c.rows.length rc) ∧ w7.cell? ⟨rb, ro + j, none⟩ = some (.slice ua (c.rows[j]).length uc) := ⟨hg7.cell hH7.1.1 (HFar.out w.heap.size (Nat.le_refl _)), hg7.cell hH7.1.2 (HFar.out rb (Nat.le_of_lt HRb.out))⟩
        have hS8 : (w7.setCell ⟨x1, 9, none⟩ (.slice a7 (k + 1) c7)).cell? ⟨w.heap.size, 9, none⟩ = some (.slice (some ⟨rb, ro, none⟩) c.rows.length rc) ∧ (w7.setCell ⟨x1, 9, none⟩ (.slice a7 (k + 1) c7)).cell? ⟨rb, ro + j, none⟩ = some (.slice ua (c.rows[j]).length uc) := ⟨(World.cell?_setCell_far _ _ _ _ (by show x1 ≠ w.heap.size; have := HX1.out.1; omega)).trans hS7.1, (World.cell?_setCell_far _ _ _ _ (by show x1 ≠ rb; have := HX1.out.1; have := HRb.out; omega)).trans hS7.2⟩
        clear HQ7 ho7 hg7 hy
        refine hK.out _ _ hS7 ?_
        clear hK K
        try simp only [Act.put, List.setIfInBounds_toArray, List.set_cons_zero, List.set_cons_succ]
        refine wpAnyT_late (i := 9) (o := ⟨some 38, .fieldAddr 40 (.tmp 7) 9, _, _, _, _⟩) (by kernel_rfl) rfl (by kernel_rfl) (fun K hK => ?_)
        go_simp
        refine hK.out _ _ ?shR8x9 ?restR8x9
        case shR8x9 => ((try dsimp only); first | exact hS7 | exact hS8)
        clear hK K
        try simp only [Act.put, List.setIfInBounds_toArray, List.set_cons_zero, List.set_cons_succ]
        refine wpAnyT_late (i := 10) (o := ⟨none, .store 38 (.tmp 38) (.tmp 37), _, _, _, _⟩) (by kernel_rfl) rfl (by kernel_rfl) (fun K hK => ?_)
        go_simp
        refine hK.out _ _ ?shR8x10 ?restR8x10
        case shR8x10 => ((try dsimp only); first | exact hS7 | exact hS8)
        clear hK K
        try simp only [Act.put, List.setIfInBounds_toArray, List.set_cons_zero, List.set_cons_succ]
        refine wpAnyT_done (by kernel_rfl) ?_ _
        have HN9 : Hid (TabD w V x1 (fun v => #[.int .i64 c.kind, .int .i64 c.op, .slice ta c.terms.length tc, .int .i64 c.k, .int .i64 c.v, .int .i64 c.x, .int .i64 c.y, .slice xa c.xs.length xc, .slice ba c.table.length bc, v]) us (k + 1) (.slice a7 (k + 1) c7) (w7.setCell ⟨x1, 9, none⟩ (.slice a7 (k + 1) c7))) := HQ8.out.2
        generalize w7.setCell ⟨x1, 9, none⟩ (.slice a7 (k + 1) c7) = w8 at *
        go_wp2_with fail
        go_roundw
        case rel => exact ⟨k + 1, (j : Int) - 1, a7, c7, by go_num, by have := hz.out; show _ = _; omega, by omega, HN9⟩
        case measure => simp [intOf]
      · obtain rfl : k = c.rows.length := by omega
        obtain rfl : z = -1 := by have := hz.out; omega
        obtain ⟨j, hjn⟩ : ∃ j : Nat, c.rows.length = j + 1 := ⟨c.rows.length - 1, by omega⟩
        have hju : j < us.length := by have := HUl.out; omega
        have hjl : j < c.rows.length := by omega
        have hjI : (j : Int) < (c.rows.length : Int) := by omega
        have hwr : IntKind.i64.wrap ((c.rows.length : Int) - 1) = (j : Int) := wrap_pred hjn hl
        have HJn : Hid (c.rows.length = j + 1) := hjn
        clear hjn
        have s1 : wr.cell? ⟨w.heap.size, 9, none⟩ = some (.slice (some ⟨rb, ro, none⟩) c.rows.length rc) := by
          have hb := hT.out.off.block w.heap.size (Array.getElem?_eq_some_iff.1 HV.out.2.2.2).1 (by have := HX1.out.1; omega)
          exact (box10 (hb.trans HV.out.2.2.2)).1.2.2.2.2.2.2.2.2.2
        have hE2 : wr.heap[x2]? = some (.cells #[.int .i64 c.kind, .int .i64 c.op, .slice ta c.terms.length tc, .int .i64 c.k, .int .i64 c.v, .int .i64 c.x, .int .i64 c.y, .slice xa c.xs.length xc, .slice ba c.table.length bc, .slice none 0 0] 40) := (hT.out.off.block x2 HX2.out.1.2 (Ne.symm n12)).trans HV.out.2.1
        have HE2 : Hid (wr.heap[x2]? = some (.cells #[.int .i64 c.kind, .int .i64 c.op, .slice ta c.terms.length tc, .int .i64 c.k, .int .i64 c.v, .int .i64 c.x, .int .i64 c.y, .slice xa c.xs.length xc, .slice ba c.table.length bc, .slice none 0 0] 40)) := hE2
        have HX2w : Hid (x2 < wr.heap.size) := (Array.getElem?_eq_some_iff.1 hE2).1
        have s4 : wr.cell? ⟨x2, 9, none⟩ = some (.slice none 0 0) := (box10 hE2).1.2.2.2.2.2.2.2.2.2
        have s2 : wr.cell? ⟨rb, ro + j, none⟩ = some us[j] := (hT.out.below.cell (p := ⟨rb, ro + j, none⟩) HRb.out).trans (HRc.out j hju)
        have HLast : Hid (us[j] = us.getLast (by intro e; rw [e] at hju; exact absurd hju (Nat.not_lt_zero _))) := by
          show _ = _
          rw [List.getLast_eq_getElem]
          have : us.length - 1 = j := by have := HUl.out; have := HJn.out; omega
          simp only [this]
        obtain ⟨ua, uc, hu, _⟩ := (HUs.out.each j hju hjl).now.form
        have HSr : Hid (∀ w', Below wr.heap.size wr w' → SrcAt w' (.slice (some ⟨rb, ro, none⟩) c.rows.length rc) c.rows.length 1 us) := fun w' hb => HUs.out.src.below (hT.out.below.trans (hb.mono hT.out.below.size))
        rw [hu] at s2 HLast
        clear hE2 hk
        go_upto_region 9 with fail
        go_cut [] from 39 to 109 (fun wx => ∃ (ea : Option Addr) (ec : Nat), Hid (TabE w wr x2 (fun v => #[.int .i64 c.kind, .int .i64 c.op, .slice ta c.terms.length tc, .int .i64 c.k, .int .i64 c.v, .int .i64 c.x, .int .i64 c.y, .slice xa c.xs.length xc, .slice ba c.table.length bc, v]) (us ++ [.slice ua (c.rows[j]).length uc]) (c.rows.length + 1) (.slice ea (c.rows.length + 1) ec) wx))
        case first =>
          refine wp_region_T (fun w' => w'.cell? ⟨w.heap.size, 9, none⟩ = some (.slice (some ⟨rb, ro, none⟩) c.rows.length rc) ∧ w'.cell? ⟨rb, ro + j, none⟩ = some (.slice ua (c.rows[j]).length uc)) (fun w' => w'.cell? ⟨x2, 9, none⟩ = some (.slice none 0 0)) [13, 14] (by kernel_rfl) ⟨⟨one_next (Below.refl _ _).drew s1, one_next (Below.refl _ _).drew s2⟩, one_next (Below.refl _ _).drew s4⟩ (fun hHeld => ?_)
          refine wpAnyT_takeB (i := 0) (oi := ⟨some 39, .fieldAddr 40 (.tmp 8) 9, _, _, _, _⟩) (v := ?vR9x0) rfl (by kernel_rfl) (by kernel_rfl) (by kernel_rfl) (by kernel_rfl) (fun _ _ _ h => h) (Or.inl ⟨by rfl, ?hyR9x0⟩) (by assumption) ?restR9x0
          case hyR9x0 => (intro w hSw; (try dsimp only at hSw); go_simp; try (with_reducible rfl))
          try simp only [Act.put, List.setIfInBounds_toArray, List.set_cons_zero, List.set_cons_succ]
          refine wpAnyT_take (i := 1) (oi := ⟨some 40, .load 38 (.tmp 39), _, _, _, _⟩) (v := ?vR9x1) rfl (by kernel_rfl) (by kernel_rfl) (by kernel_rfl) (by kernel_rfl) (by kernel_rfl) (fun _ _ _ h => h) (Or.inl ⟨by rfl, ?hyR9x1⟩) (by assumption) ?restR9x1
          case hyR9x1 => (intro w hSw; (try dsimp only at hSw); go_simp; try (with_reducible rfl))
          try simp only [Act.put, List.setIfInBounds_toArray, List.set_cons_zero, List.set_cons_succ]
          refine wpAnyT_takeB (i := 2) (oi := ⟨some 41, .fieldAddr 40 (.tmp 2) 9, _, _, _, _⟩) (v := ?vR9x2) rfl (by kernel_rfl) (by kernel_rfl) (by kernel_rfl) (by kernel_rfl) (fun _ _ _ h => h) (Or.inl ⟨by rfl, ?hyR9x2⟩) (by assumption) ?restR9x2
          case hyR9x2 => (intro w hSw; (try dsimp only at hSw); go_simp; try (with_reducible rfl))
          try simp only [Act.put, List.setIfInBounds_toArray, List.set_cons_zero, List.set_cons_succ]
          refine wpAnyT_takeB (i := 3) (oi := ⟨some 42, .load 38 (.tmp 41), _, _, _, _⟩) (v := ?vR9x3) rfl (by kernel_rfl) (by kernel_rfl) (by kernel_rfl) (by kernel_rfl) (fun _ _ _ h => h) (Or.inl ⟨by rfl, ?hyR9x3⟩) (by assumption) ?restR9x3
          case hyR9x3 => (intro w hSw; (try dsimp only at hSw); go_simp; try (with_reducible rfl))
          try simp only [Act.put, List.setIfInBounds_toArray, List.set_cons_zero, List.set_cons_succ]
          refine wpAnyT_takeB (i := 5) (oi := ⟨some 44, .fieldAddr 40 (.tmp 2) 9, _, _, _, _⟩) (v := ?vR9x5) rfl (by kernel_rfl) (by kernel_rfl) (by kernel_rfl) (by kernel_rfl) (fun _ _ _ h => h) (Or.inl ⟨by rfl, ?hyR9x5⟩) (by assumption) ?restR9x5
          case hyR9x5 => (intro w hSw; (try dsimp only at hSw); go_simp; try (with_reducible rfl))
          try simp only [Act.put, List.setIfInBounds_toArray, List.set_cons_zero, List.set_cons_succ]
          refine wpAnyT_takeB (i := 6) (oi := ⟨some 45, .load 38 (.tmp 44), _, _, _, _⟩) (v := ?vR9x6) rfl (by kernel_rfl) (by kernel_rfl) (by kernel_rfl) (by kernel_rfl) (fun _ _ _ h => h) (Or.inl ⟨by rfl, ?hyR9x6⟩) (by assumption) ?restR9x6
          case hyR9x6 => (intro w hSw; (try dsimp only at hSw); go_simp; try (with_reducible rfl))
          try simp only [Act.put, List.setIfInBounds_toArray, List.set_cons_zero, List.set_cons_succ]
          refine wpAnyT_takeB (i := 7) (oi := ⟨some 46, .move (.tmp 6), _, _, _, _⟩) (v := ?vR9x7) rfl (by kernel_rfl) (by kernel_rfl) (by kernel_rfl) (by kernel_rfl) (fun _ _ _ h => h) (Or.inl ⟨by rfl, ?hyR9x7⟩) (by assumption) ?restR9x7
          case hyR9x7 => (intro w hSw; (try dsimp only at hSw); go_simp; try (with_reducible rfl))
          try simp only [Act.put, List.setIfInBounds_toArray, List.set_cons_zero, List.set_cons_succ]
          refine wpAnyT_takeB (i := 8) (oi := ⟨some 47, .binOp .sub 3 (.tmp 46) ((.const (.int .i64 1))) 3, _, _, _, _⟩) (v := ?vR9x8) rfl (by kernel_rfl) (by kernel_rfl) (by kernel_rfl) (by kernel_rfl) (fun _ _ _ h => h) (Or.inl ⟨by rfl, ?hyR9x8⟩) (by assumption) ?restR9x8
          case hyR9x8 => (intro w hSw; (try dsimp only at hSw); go_simp; try (with_reducible rfl))
          try simp only [Act.put, List.setIfInBounds_toArray, List.set_cons_zero, List.set_cons_succ]
          refine wpAnyT_takeB (i := 9) (oi := ⟨some 48, .indexAddr 38 (.tmp 45) (.tmp 47), _, _, _, _⟩) (v := ?vR9x9) rfl (by kernel_rfl) (by kernel_rfl) (by kernel_rfl) (by kernel_rfl) (fun _ _ _ h => h) (Or.inl ⟨by rfl, ?hyR9x9⟩) (by assumption) ?restR9x9
          case hyR9x9 => (intro w hSw; (try dsimp only at hSw); go_simp; try (with_reducible rfl))
          try simp only [Act.put, List.setIfInBounds_toArray, List.set_cons_zero, List.set_cons_succ]
          refine wpAnyT_takeB (i := 10) (oi := ⟨some 49, .load 27 (.tmp 48), _, _, _, _⟩) (v := ?vR9x10) rfl (by kernel_rfl) (by kernel_rfl) (by kernel_rfl) (by kernel_rfl) (fun _ _ _ h => h) (Or.inl ⟨by rfl, ?hyR9x10⟩) (by assumption) ?restR9x10
          case hyR9x10 => (intro w hSw; (try dsimp only at hSw); go_simp; try (with_reducible rfl))
          try simp only [Act.put, List.setIfInBounds_toArray, List.set_cons_zero, List.set_cons_succ]
          refine wpAnyT_two (i := 4) (j := 11) (o := ⟨some 43, .call { callee := .builtin .append, args := #[.tmp 40, .tmp 42], argTypes := #[38, 38] }, _, _, _, _⟩) (o' := ⟨some 50, .buildSlice 38 1 #[(0, .tmp 49)], _, _, _, _⟩) (by kernel_rfl) rfl rfl (fun K hK => ?_) (fun K hK => ?_)
          · refine op_append_src wr.drew (.tmp 40) (.tmp 42) 38 27 (.slice none 0 0) 1 24 rfl und38' info27' rfl (by decide) wr.heap.size _ _ 0 c.rows.length _ _ (by rfl) (by rfl) (World.ownsRow_nil _ _ _ _) (HSr.out _ (Below.refl _ _).drew) (by unfold maxLen; omega) (by omega) (Nat.le_refl _) (by rfl) ?_
            intro v4 w4 ho4 hg4 _
            rw [Nat.zero_add, List.nil_append] at ho4
            have hb4 : Below wr.heap.size wr w4 := (Below.refl _ _).drew.grown hg4 (Nat.le_refl _) (fun k hk => by simp [Value.ownBlock] at hk)
            obtain ⟨a4, c4, rfl⟩ := own_form ho4
            have hH4 : (w4.cell? ⟨w.heap.size, 9, none⟩ = some (.slice (some ⟨rb, ro, none⟩) c.rows.length rc) ∧ w4.cell? ⟨rb, ro + j, none⟩ = some (.slice ua (c.rows[j]).length uc)) ∧ w4.cell? ⟨x2, 9, none⟩ = some (.slice none 0 0) := ⟨⟨one_next hb4 s1, one_next hb4 s2⟩, one_next hb4 s4⟩
            refine hK.out _ _ ⟨hH4.1, fun _ => hH4.2⟩ ?_
            clear hK K
            try simp only [Act.put, List.setIfInBounds_toArray, List.set_cons_zero, List.set_cons_succ]
            refine wpAnyT_one (i := 11) (o := ⟨some 50, .buildSlice 38 1 #[(0, .tmp 49)], _, _, _, _⟩) (by kernel_rfl) rfl (fun K hK => ?_)
            go_simp
            have hH5 : ((w4.alloc (.cells #[(.slice ua (c.rows[j]).length uc)] 27)).cell? ⟨w.heap.size, 9, none⟩ = some (.slice (some ⟨rb, ro, none⟩) c.rows.length rc) ∧ (w4.alloc (.cells #[(.slice ua (c.rows[j]).length uc)] 27)).cell? ⟨rb, ro + j, none⟩ = some (.slice ua (c.rows[j]).length uc)) ∧ (w4.alloc (.cells #[(.slice ua (c.rows[j]).length uc)] 27)).cell? ⟨x2, 9, none⟩ = some (.slice none 0 0) := ⟨⟨one_next (nal _ _) hH4.1.1, one_next (nal _ _) hH4.1.2⟩, one_next (nal _ _) hH4.2⟩
            refine hK.out _ _ ⟨hH5.1, fun _ => hH5.2⟩ ?_
            clear hK K
            try simp only [Act.put, List.setIfInBounds_toArray, List.set_cons_zero, List.set_cons_succ]
            refine wpAnyT_one (i := 12) (o := ⟨some 51, .call { callee := .builtin .append, args := #[.tmp 43, .tmp 50], argTypes := #[38, 38] }, _, _, _, _⟩) (by kernel_rfl) rfl (fun K hK => ?_)
            refine op_append_src (w4.alloc (.cells #[(.slice ua (c.rows[j]).length uc)] 27)) (.tmp 43) (.tmp 50) 38 27 (.slice none 0 0) 1 24 rfl und38' info27' rfl (by decide) wr.heap.size _ _ c.rows.length 1 _ _ (by rfl) (by rfl) (ho4.alloc _) (src_one (t := 27) (heap_alloc_new w4 _) rfl) (by unfold maxLen; omega) (by omega) (by have := hb4.size; simp; omega) (by rfl) ?_
            intro v5 w5 ho5 hg5 _
            have hb5 : Below wr.heap.size wr w5 := (hb4.alloc hb4.size _).grown hg5 (by have := hb4.size; simp; omega) (fun k hk => (ho4.lt k hk).1)
            obtain ⟨a5, c5, rfl⟩ := own_form ho5
            have hE : w5.heap[x2]? = some (.cells #[.int .i64 c.kind, .int .i64 c.op, .slice ta c.terms.length tc, .int .i64 c.k, .int .i64 c.v, .int .i64 c.x, .int .i64 c.y, .slice xa c.xs.length xc, .slice ba c.table.length bc, .slice none 0 0] 40) := (hb5.block x2 HX2w.out).trans HE2.out
            obtain ⟨⟨_, _, _, _, _, _, _, _, _, y9⟩, hy⟩ := box10 hE
            have hy9 := hy 9
            have hS5 : (w5.cell? ⟨w.heap.size, 9, none⟩ = some (.slice (some ⟨rb, ro, none⟩) c.rows.length rc) ∧ w5.cell? ⟨rb, ro + j, none⟩ = some (.slice ua (c.rows[j]).length uc)) := ⟨one_next hb5 s1, one_next hb5 s2⟩
            have hS6 : ((w5.setCell ⟨x2, 9, none⟩ (.slice a5 (c.rows.length + 1) c5)).cell? ⟨w.heap.size, 9, none⟩ = some (.slice (some ⟨rb, ro, none⟩) c.rows.length rc) ∧ (w5.setCell ⟨x2, 9, none⟩ (.slice a5 (c.rows.length + 1) c5)).cell? ⟨rb, ro + j, none⟩ = some (.slice ua (c.rows[j]).length uc)) := ⟨(World.cell?_setCell_far _ _ _ _ (by show x2 ≠ w.heap.size; have := HX2.out.1.1; omega)).trans hS5.1, (World.cell?_setCell_far _ _ _ _ (by show x2 ≠ rb; have := HX2.out.1.1; have := HRb.out; omega)).trans hS5.2⟩
            have HE5 : Hid (TabE w wr x2 (fun v => #[.int .i64 c.kind, .int .i64 c.op, .slice ta c.terms.length tc, .int .i64 c.k, .int .i64 c.v, .int .i64 c.x, .int .i64 c.y, .slice xa c.xs.length xc, .slice ba c.table.length bc, v]) (us ++ [.slice ua (c.rows[j]).length uc]) (c.rows.length + 1) (.slice a5 (c.rows.length + 1) c5) (w5.setCell ⟨x2, 9, none⟩ (.slice a5 (c.rows.length + 1) c5))) := tabE_of hT.out.below hb5 hE HX2.out.1.1 HX2w.out ho5
            clear ho5 hy
            refine hK.out _ _ ⟨hS5, fun _ => one_next hb5 s4⟩ ?_
            clear hK K
            try simp only [Act.put, List.setIfInBounds_toArray, List.set_cons_zero, List.set_cons_succ]
            refine wpAnyT_late (i := 13) (o := ⟨some 52, .fieldAddr 40 (.tmp 8) 9, _, _, _, _⟩) (by kernel_rfl) rfl (by kernel_rfl) (fun K hK => ?_)
            go_simp
            refine hK.out _ _ ?shR9x13p ?restR9x13p
            case shR9x13p => ((try dsimp only); first | exact hS5 | exact hS6)
            clear hK K
            try simp only [Act.put, List.setIfInBounds_toArray, List.set_cons_zero, List.set_cons_succ]
            refine wpAnyT_late (i := 14) (o := ⟨none, .store 38 (.tmp 52) (.tmp 51), _, _, _, _⟩) (by kernel_rfl) rfl (by kernel_rfl) (fun K hK => ?_)
            go_simp
            refine hK.out _ _ ?shR9x14p ?restR9x14p
            case shR9x14p => ((try dsimp only); first | exact hS5 | exact hS6)
            clear hK K
            try simp only [Act.put, List.setIfInBounds_toArray, List.set_cons_zero, List.set_cons_succ]
            refine wpAnyT_done (by kernel_rfl) ?_ _
            go_wp2_with fail
            go_meet
            exact ⟨_, _, HE5⟩
          · go_simp
            have hH4 : ((wr.alloc (.cells #[(.slice ua (c.rows[j]).length uc)] 27)).drew.cell? ⟨w.heap.size, 9, none⟩ = some (.slice (some ⟨rb, ro, none⟩) c.rows.length rc) ∧ (wr.alloc (.cells #[(.slice ua (c.rows[j]).length uc)] 27)).drew.cell? ⟨rb, ro + j, none⟩ = some (.slice ua (c.rows[j]).length uc)) ∧ (wr.alloc (.cells #[(.slice ua (c.rows[j]).length uc)] 27)).drew.cell? ⟨x2, 9, none⟩ = some (.slice none 0 0) := ⟨⟨one_next (nal _ _).drew s1, one_next (nal _ _).drew s2⟩, one_next (nal _ _).drew s4⟩
            refine hK.out _ _ ⟨hH4.1, fun _ => hH4.2⟩ ?_
            clear hK K
            try simp only [Act.put, List.setIfInBounds_toArray, List.set_cons_zero, List.set_cons_succ]
            refine wpAnyT_one (i := 4) (o := ⟨some 43, .call { callee := .builtin .append, args := #[.tmp 40, .tmp 42], argTypes := #[38, 38] }, _, _, _, _⟩) (by kernel_rfl) rfl (fun K hK => ?_)
            refine op_append_src (wr.alloc (.cells #[(.slice ua (c.rows[j]).length uc)] 27)).drew (.tmp 40) (.tmp 42) 38 27 (.slice none 0 0) 1 24 rfl und38' info27' rfl (by decide) wr.heap.size _ _ 0 c.rows.length _ _ (by rfl) (by rfl) (World.ownsRow_nil _ _ _ _) (HSr.out _ (nal _ _).drew) (by unfold maxLen; omega) (by omega) (nal wr _).drew.size (by rfl) ?_
            intro v4 w4 ho4 hg4 _
            rw [Nat.zero_add, List.nil_append] at ho4
            have hb4 : Below wr.heap.size wr w4 := (nal wr (.cells #[(.slice ua (c.rows[j]).length uc)] 27)).drew.grown hg4 (nal wr _).drew.size (fun k hk => by simp [Value.ownBlock] at hk)
            have hq4 : w4.heap[wr.heap.size]? = some (.cells #[(.slice ua (c.rows[j]).length uc)] 27) := (hg4.block _ (by show wr.heap.size < (wr.alloc _).heap.size; simp) (by simp [Value.ownBlock])).trans (heap_alloc_new wr _)
            obtain ⟨a4, c4, rfl⟩ := own_form ho4
            have hH5 : (w4.cell? ⟨w.heap.size, 9, none⟩ = some (.slice (some ⟨rb, ro, none⟩) c.rows.length rc) ∧ w4.cell? ⟨rb, ro + j, none⟩ = some (.slice ua (c.rows[j]).length uc)) ∧ w4.cell? ⟨x2, 9, none⟩ = some (.slice none 0 0) := ⟨⟨one_next hb4 s1, one_next hb4 s2⟩, one_next hb4 s4⟩
            refine hK.out _ _ ⟨hH5.1, fun _ => hH5.2⟩ ?_
            clear hK K
            try simp only [Act.put, List.setIfInBounds_toArray, List.set_cons_zero, List.set_cons_succ]
            refine wpAnyT_one (i := 12) (o := ⟨some 51, .call { callee := .builtin .append, args := #[.tmp 43, .tmp 50], argTypes := #[38, 38] }, _, _, _, _⟩) (by kernel_rfl) rfl (fun K hK => ?_)
            refine op_append_src w4 (.tmp 43) (.tmp 50) 38 27 (.slice none 0 0) 1 24 rfl und38' info27' rfl (by decide) wr.heap.size _ _ c.rows.length 1 _ _ (by rfl) (by rfl) ho4 (src_one (t := 27) hq4 rfl) (by unfold maxLen; omega) (by omega) hb4.size (by rfl) ?_
            intro v5 w5 ho5 hg5 _
            have hb5 : Below wr.heap.size wr w5 := hb4.grown hg5 hb4.size (fun k hk => (ho4.lt k hk).1)
            obtain ⟨a5, c5, rfl⟩ := own_form ho5
            have hE : w5.heap[x2]? = some (.cells #[.int .i64 c.kind, .int .i64 c.op, .slice ta c.terms.length tc, .int .i64 c.k, .int .i64 c.v, .int .i64 c.x, .int .i64 c.y, .slice xa c.xs.length xc, .slice ba c.table.length bc, .slice none 0 0] 40) := (hb5.block x2 HX2w.out).trans HE2.out
            obtain ⟨⟨_, _, _, _, _, _, _, _, _, y9⟩, hy⟩ := box10 hE
            have hy9 := hy 9
            have hS5 : (w5.cell? ⟨w.heap.size, 9, none⟩ = some (.slice (some ⟨rb, ro, none⟩) c.rows.length rc) ∧ w5.cell? ⟨rb, ro + j, none⟩ = some (.slice ua (c.rows[j]).length uc)) := ⟨one_next hb5 s1, one_next hb5 s2⟩
            have hS6 : ((w5.setCell ⟨x2, 9, none⟩ (.slice a5 (c.rows.length + 1) c5)).cell? ⟨w.heap.size, 9, none⟩ = some (.slice (some ⟨rb, ro, none⟩) c.rows.length rc) ∧ (w5.setCell ⟨x2, 9, none⟩ (.slice a5 (c.rows.length + 1) c5)).cell? ⟨rb, ro + j, none⟩ = some (.slice ua (c.rows[j]).length uc)) := ⟨(World.cell?_setCell_far _ _ _ _ (by show x2 ≠ w.heap.size; have := HX2.out.1.1; omega)).trans hS5.1, (World.cell?_setCell_far _ _ _ _ (by show x2 ≠ rb; have := HX2.out.1.1; have := HRb.out; omega)).trans hS5.2⟩
            have HE5 : Hid (TabE w wr x2 (fun v => #[.int .i64 c.kind, .int .i64 c.op, .slice ta c.terms.length tc, .int .i64 c.k, .int .i64 c.v, .int .i64 c.x, .int .i64 c.y, .slice xa c.xs.length xc, .slice ba c.table.length bc, v]) (us ++ [.slice ua (c.rows[j]).length uc]) (c.rows.length + 1) (.slice a5 (c.rows.length + 1) c5) (w5.setCell ⟨x2, 9, none⟩ (.slice a5 (c.rows.length + 1) c5))) := tabE_of hT.out.below hb5 hE HX2.out.1.1 HX2w.out ho5
            clear ho5 hy
            refine hK.out _ _ ⟨hS5, fun _ => one_next hb5 s4⟩ ?_
            clear hK K
            try simp only [Act.put, List.setIfInBounds_toArray, List.set_cons_zero, List.set_cons_succ]
            refine wpAnyT_late (i := 13) (o := ⟨some 52, .fieldAddr 40 (.tmp 8) 9, _, _, _, _⟩) (by kernel_rfl) rfl (by kernel_rfl) (fun K hK => ?_)
            go_simp
            refine hK.out _ _ ?shR9x13q ?restR9x13q
            case shR9x13q => ((try dsimp only); first | exact hS5 | exact hS6)
            clear hK K
            try simp only [Act.put, List.setIfInBounds_toArray, List.set_cons_zero, List.set_cons_succ]
            refine wpAnyT_late (i := 14) (o := ⟨none, .store 38 (.tmp 52) (.tmp 51), _, _, _, _⟩) (by kernel_rfl) rfl (by kernel_rfl) (fun K hK => ?_)
            go_simp
            refine hK.out _ _ ?shR9x14q ?restR9x14q
            case shR9x14q => ((try dsimp only); first | exact hS5 | exact hS6)
            clear hK K
            try simp only [Act.put, List.setIfInBounds_toArray, List.set_cons_zero, List.set_cons_succ]
            refine wpAnyT_done (by kernel_rfl) ?_ _
            go_wp2_with fail
            go_meet
            exact ⟨_, _, HE5⟩
        case rest =>
          obtain ⟨ea, ec, hTE⟩ := hcut
          clear s1 s2 s4 HE2
          have s1 : wc.cell? ⟨w.heap.size, 9, none⟩ = some (.slice (some ⟨rb, ro, none⟩) c.rows.length rc) := by
            have hb := hT.out.off.block w.heap.size (Array.getElem?_eq_some_iff.1 HV.out.2.2.2).1 (by have := HX1.out.1; omega)
            have hb2 := hTE.out.off.block w.heap.size (by have := (Array.getElem?_eq_some_iff.1 (hb.trans HV.out.2.2.2)).1; exact this) (by have := HX2.out.1.1; omega)
            exact (box10 (hb2.trans (hb.trans HV.out.2.2.2))).1.2.2.2.2.2.2.2.2.2
          have hE3w : wr.heap[x3]? = some (.cells #[.int .i64 c.kind, .int .i64 c.op, .slice ta c.terms.length tc, .int .i64 c.k, .int .i64 c.v, .int .i64 c.x, .int .i64 c.y, .slice xa c.xs.length xc, .slice ba c.table.length bc, .slice none 0 0] 40) := (hT.out.off.block x3 HX2.out.2.2 (Ne.symm n13)).trans HV.out.2.2.1
          have hE3 : wc.heap[x3]? = some (.cells #[.int .i64 c.kind, .int .i64 c.op, .slice ta c.terms.length tc, .int .i64 c.k, .int .i64 c.v, .int .i64 c.x, .int .i64 c.y, .slice xa c.xs.length xc, .slice ba c.table.length bc, .slice none 0 0] 40) := (hTE.out.off.block x3 (Array.getElem?_eq_some_iff.1 hE3w).1 (Ne.symm n23)).trans hE3w
          have HE3 : Hid (wc.heap[x3]? = some (.cells #[.int .i64 c.kind, .int .i64 c.op, .slice ta c.terms.length tc, .int .i64 c.k, .int .i64 c.v, .int .i64 c.x, .int .i64 c.y, .slice xa c.xs.length xc, .slice ba c.table.length bc, .slice none 0 0] 40)) := hE3
          have HX3w : Hid (x3 < wc.heap.size) := (Array.getElem?_eq_some_iff.1 hE3).1
          have s4 : wc.cell? ⟨x3, 9, none⟩ = some (.slice none 0 0) := (box10 hE3).1.2.2.2.2.2.2.2.2.2
          have HSp : Hid (∀ w', Below wc.heap.size wc w' → SrcAt w' (.slice (some ⟨rb, ro, none⟩) j rc) j 1 (us.take j)) := fun w' hb => src_take (HUs.out.src.below (hTE.out.below.trans (hb.mono hTE.out.below.size))) (by have := HJn.out; omega)
          have hjc : (j : Int) ≤ (rc : Int) := by have := HJn.out; have := hrc; omega
          have hjc2 : j ≤ rc := by omega
          have hrcI : (c.rows.length : Int) ≤ (rc : Int) := by omega
          have hj6 : j ≤ 1000000 := by have := HJn.out; omega
          clear hE3w hE3
          go_wp2_with fail
          refine wp_region_T (fun w' => w'.cell? ⟨w.heap.size, 9, none⟩ = some (.slice (some ⟨rb, ro, none⟩) c.rows.length rc)) (fun w' => w'.cell? ⟨x3, 9, none⟩ = some (.slice none 0 0)) [7, 8, 9] (by kernel_rfl) ⟨one_next (Below.refl _ _).drew s1, one_next (Below.refl _ _).drew s4⟩ (fun hHeld => ?_)
          refine wpAnyT_takeB (i := 0) (oi := ⟨some 53, .fieldAddr 40 (.tmp 9) 9, _, _, _, _⟩) (v := ?vR10x0) rfl (by kernel_rfl) (by kernel_rfl) (by kernel_rfl) (by kernel_rfl) (fun _ _ _ h => h) (Or.inl ⟨by rfl, ?hyR10x0⟩) (by assumption) ?restR10x0
          case hyR10x0 => (intro w hSw; (try dsimp only at hSw); go_simp; try (with_reducible rfl))
          try simp only [Act.put, List.setIfInBounds_toArray, List.set_cons_zero, List.set_cons_succ]
          refine wpAnyT_take (i := 1) (oi := ⟨some 54, .load 38 (.tmp 53), _, _, _, _⟩) (v := ?vR10x1) rfl (by kernel_rfl) (by kernel_rfl) (by kernel_rfl) (by kernel_rfl) (by kernel_rfl) (fun _ _ _ h => h) (Or.inl ⟨by rfl, ?hyR10x1⟩) (by assumption) ?restR10x1
          case hyR10x1 => (intro w hSw; (try dsimp only at hSw); go_simp; try (with_reducible rfl))
          try simp only [Act.put, List.setIfInBounds_toArray, List.set_cons_zero, List.set_cons_succ]
          refine wpAnyT_takeB (i := 2) (oi := ⟨some 55, .fieldAddr 40 (.tmp 2) 9, _, _, _, _⟩) (v := ?vR10x2) rfl (by kernel_rfl) (by kernel_rfl) (by kernel_rfl) (by kernel_rfl) (fun _ _ _ h => h) (Or.inl ⟨by rfl, ?hyR10x2⟩) (by assumption) ?restR10x2
          case hyR10x2 => (intro w hSw; (try dsimp only at hSw); go_simp; try (with_reducible rfl))
          try simp only [Act.put, List.setIfInBounds_toArray, List.set_cons_zero, List.set_cons_succ]
          refine wpAnyT_takeB (i := 3) (oi := ⟨some 56, .load 38 (.tmp 55), _, _, _, _⟩) (v := ?vR10x3) rfl (by kernel_rfl) (by kernel_rfl) (by kernel_rfl) (by kernel_rfl) (fun _ _ _ h => h) (Or.inl ⟨by rfl, ?hyR10x3⟩) (by assumption) ?restR10x3
          case hyR10x3 => (intro w hSw; (try dsimp only at hSw); go_simp; try (with_reducible rfl))
          try simp only [Act.put, List.setIfInBounds_toArray, List.set_cons_zero, List.set_cons_succ]
          refine wpAnyT_takeB (i := 4) (oi := ⟨some 57, .move (.tmp 6), _, _, _, _⟩) (v := ?vR10x4) rfl (by kernel_rfl) (by kernel_rfl) (by kernel_rfl) (by kernel_rfl) (fun _ _ _ h => h) (Or.inl ⟨by rfl, ?hyR10x4⟩) (by assumption) ?restR10x4
          case hyR10x4 => (intro w hSw; (try dsimp only at hSw); go_simp; try (with_reducible rfl))
          try simp only [Act.put, List.setIfInBounds_toArray, List.set_cons_zero, List.set_cons_succ]
          refine wpAnyT_takeB (i := 5) (oi := ⟨some 58, .binOp .sub 3 (.tmp 57) ((.const (.int .i64 1))) 3, _, _, _, _⟩) (v := ?vR10x5) rfl (by kernel_rfl) (by kernel_rfl) (by kernel_rfl) (by kernel_rfl) (fun _ _ _ h => h) (Or.inl ⟨by rfl, ?hyR10x5⟩) (by assumption) ?restR10x5
          case hyR10x5 => (intro w hSw; (try dsimp only at hSw); go_simp; try (with_reducible rfl))
          try simp only [Act.put, List.setIfInBounds_toArray, List.set_cons_zero, List.set_cons_succ]
          refine wpAnyT_takeB (i := 6) (oi := ⟨some 59, .slice 38 (.tmp 56) none (some (.tmp 58)) none, _, _, _, _⟩) (v := ?vR10x6) rfl (by kernel_rfl) (by kernel_rfl) (by kernel_rfl) (by kernel_rfl) (fun _ _ _ h => h) (Or.inl ⟨by rfl, ?hyR10x6⟩) (by assumption) ?restR10x6
          case hyR10x6 => (intro w hSw; (try dsimp only at hSw); go_simp; try (with_reducible rfl))
          try simp only [Act.put, List.setIfInBounds_toArray, List.set_cons_zero, List.set_cons_succ]
          refine wpAnyT_late (i := 7) (o := ⟨some 60, .call { callee := .builtin .append, args := #[.tmp 54, .tmp 59], argTypes := #[38, 38] }, _, _, _, _⟩) (by kernel_rfl) rfl (by kernel_rfl) (fun K hK => ?_)
          refine op_append_src wc.drew (.tmp 54) (.tmp 59) 38 27 (.slice none 0 0) 1 24 rfl und38' info27' rfl (by decide) wc.heap.size _ _ 0 j _ _ (by rfl) (by rfl) (World.ownsRow_nil _ _ _ _) (HSp.out _ (Below.refl _ _).drew) (by unfold maxLen; omega) (by omega) (Nat.le_refl _) (by rfl) ?_
          intro v5 w5 ho5 hg5 _
          rw [Nat.zero_add, List.nil_append] at ho5
          obtain ⟨a5, c5, rfl⟩ := own_form ho5
          have hb5 : Below wc.heap.size wc w5 := (Below.refl _ _).drew.grown hg5 (Nat.le_refl _) (fun k hk => by simp [Value.ownBlock] at hk)
          have hE : w5.heap[x3]? = some (.cells #[.int .i64 c.kind, .int .i64 c.op, .slice ta c.terms.length tc, .int .i64 c.k, .int .i64 c.v, .int .i64 c.x, .int .i64 c.y, .slice xa c.xs.length xc, .slice ba c.table.length bc, .slice none 0 0] 40) := (hb5.block x3 HX3w.out).trans HE3.out
          obtain ⟨⟨_, _, _, _, _, _, _, _, _, y9⟩, hy⟩ := box10 hE
          have hy9 := hy 9
          have hS5 : w5.cell? ⟨w.heap.size, 9, none⟩ = some (.slice (some ⟨rb, ro, none⟩) c.rows.length rc) := one_next hb5 s1
          have hS6 : (w5.setCell ⟨x3, 9, none⟩ (.slice a5 j c5)).cell? ⟨w.heap.size, 9, none⟩ = some (.slice (some ⟨rb, ro, none⟩) c.rows.length rc) := (World.cell?_setCell_far _ _ _ _ (by show x3 ≠ w.heap.size; have := HX2.out.2.1; omega)).trans hS5
          have HF5 : Hid (TabE w wc x3 (fun v => #[.int .i64 c.kind, .int .i64 c.op, .slice ta c.terms.length tc, .int .i64 c.k, .int .i64 c.v, .int .i64 c.x, .int .i64 c.y, .slice xa c.xs.length xc, .slice ba c.table.length bc, v]) (us.take j) j (.slice a5 j c5) (w5.setCell ⟨x3, 9, none⟩ (.slice a5 j c5))) := tabE_of hTE.out.below hb5 hE HX2.out.2.1 HX3w.out ho5
          clear ho5 hy
          refine hK.out _ _ hS5 ?_
          clear hK K
          try simp only [Act.put, List.setIfInBounds_toArray, List.set_cons_zero, List.set_cons_succ]
          refine wpAnyT_late (i := 8) (o := ⟨some 61, .fieldAddr 40 (.tmp 9) 9, _, _, _, _⟩) (by kernel_rfl) rfl (by kernel_rfl) (fun K hK => ?_)
          go_simp
          refine hK.out _ _ ?shR10x8 ?restR10x8
          case shR10x8 => ((try dsimp only); first | exact hS5 | exact hS6)
          clear hK K
          try simp only [Act.put, List.setIfInBounds_toArray, List.set_cons_zero, List.set_cons_succ]
          refine wpAnyT_late (i := 9) (o := ⟨none, .store 38 (.tmp 61) (.tmp 60), _, _, _, _⟩) (by kernel_rfl) rfl (by kernel_rfl) (fun K hK => ?_)
          go_simp
          refine hK.out _ _ ?shR10x9 ?restR10x9
          case shR10x9 => ((try dsimp only); first | exact hS5 | exact hS6)
          clear hK K
          try simp only [Act.put, List.setIfInBounds_toArray, List.set_cons_zero, List.set_cons_succ]
          refine wpAnyT_done (by kernel_rfl) ?_ _
          have hAll := tab_all hT.out hTE.out HF5.out HV.out.2.2.2 HX1.out.1 HX2.out.1.1 HX2.out.2.1 HX2.out.1.2 HX2.out.2.2 n12 n13 n23 HUl.out
          have hFo := HF5.out.own
          have HFw : Hid (Below w.heap.size w (w5.setCell ⟨x3, 9, none⟩ (.slice a5 j c5))) := HF5.out.below
          generalize w5.setCell ⟨x3, 9, none⟩ (.slice a5 j c5) = F at *
          have HAll : Hid ((F.heap[w.heap.size]? = some (.cells #[.int .i64 c.kind, .int .i64 c.op, .slice ta c.terms.length tc, .int .i64 c.k, .int .i64 c.v, .int .i64 c.x, .int .i64 c.y, .slice xa c.xs.length xc, .slice ba c.table.length bc, .slice (some ⟨rb, ro, none⟩) c.rows.length rc] 40) ∧ F.heap[x1]? = some (.cells #[.int .i64 c.kind, .int .i64 c.op, .slice ta c.terms.length tc, .int .i64 c.k, .int .i64 c.v, .int .i64 c.x, .int .i64 c.y, .slice xa c.xs.length xc, .slice ba c.table.length bc, .slice da c.rows.length dc] 40) ∧ F.heap[x2]? = some (.cells #[.int .i64 c.kind, .int .i64 c.op, .slice ta c.terms.length tc, .int .i64 c.k, .int .i64 c.v, .int .i64 c.x, .int .i64 c.y, .slice xa c.xs.length xc, .slice ba c.table.length bc, .slice ea (c.rows.length + 1) ec] 40) ∧ F.heap[x3]? = some (.cells #[.int .i64 c.kind, .int .i64 c.op, .slice ta c.terms.length tc, .int .i64 c.k, .int .i64 c.v, .int .i64 c.x, .int .i64 c.y, .slice xa c.xs.length xc, .slice ba c.table.length bc, .slice a5 j c5] 40)) ∧ F.ownsRow V.heap.size 27 1 (.slice da c.rows.length dc) c.rows.length us.reverse ∧ F.ownsRow wr.heap.size 27 1 (.slice ea (c.rows.length + 1) ec) (c.rows.length + 1) (us ++ [us[j]])) := by
            rw [hu]
            exact hAll
          have HFo : Hid (F.ownsRow wc.heap.size 27 1 (.slice a5 j c5) j (us.take j)) := hFo
          clear hAll hFo HF5 hS5 hS6 y9 hy9 hb5 s1 s4 hwr
          have hne0 : c.rows ≠ [] := List.ne_nil_of_length_pos h0
          have HCd : Hid (∀ w', Below F.heap.size F w' → Calls Try.prog 13 #[.agg #[.int .i64 c.kind, .int .i64 c.op, .slice ta c.terms.length tc, .int .i64 c.k, .int .i64 c.v, .int .i64 c.x, .int .i64 c.y, .slice xa c.xs.length xc, .slice ba c.table.length bc, .slice da c.rows.length dc], .slice qa l.length qc] w' fun e w'' => e = .returned (.bool (Md.holds { c with rows := c.rows.reverse } l)) ∧ Below w'.heap.size w' w'') := fun w' hb => by
            have hbw := HFw.out.trans (hb.mono HFw.out.size)
            have h0 := HCc.out w' hbw
            have h1 := Holds_any { c with rows := c.rows.reverse } _ _ _ _ _ l w' ⟨h0.t, h0.x, h0.xcap, h0.b, rows_rev HUs.out hbw (own_off (S := fun _ => False) HAll.out.2.1 (fun _ _ h => h) (Off.of_below hb)) (by unfold maxLen; omega)⟩ (HX.out w' hbw)
            unfold cnVal at h1
            exact h1
          have HCe : Hid (∀ w', Below F.heap.size F w' → Calls Try.prog 13 #[.agg #[.int .i64 c.kind, .int .i64 c.op, .slice ta c.terms.length tc, .int .i64 c.k, .int .i64 c.v, .int .i64 c.x, .int .i64 c.y, .slice xa c.xs.length xc, .slice ba c.table.length bc, .slice ea (c.rows.length + 1) ec], .slice qa l.length qc] w' fun e w'' => e = .returned (.bool (Md.holds { c with rows := c.rows ++ [c.rows.getLast hne0] } l)) ∧ Below w'.heap.size w' w'') := fun w' hb => by
            have hbw := HFw.out.trans (hb.mono HFw.out.size)
            have h0 := HCc.out w' hbw
            have h1 := Holds_any { c with rows := c.rows ++ [c.rows.getLast hne0] } _ _ _ _ _ l w' ⟨h0.t, h0.x, h0.xcap, h0.b, rows_more HUs.out hbw hne0 hju HJn.out (own_off (S := fun _ => False) HAll.out.2.2 (fun _ _ h => h) (Off.of_below hb)) (by unfold maxLen; omega)⟩ (HX.out w' hbw)
            unfold cnVal at h1
            exact h1
          have HCf : Hid (∀ w', Below F.heap.size F w' → Calls Try.prog 13 #[.agg #[.int .i64 c.kind, .int .i64 c.op, .slice ta c.terms.length tc, .int .i64 c.k, .int .i64 c.v, .int .i64 c.x, .int .i64 c.y, .slice xa c.xs.length xc, .slice ba c.table.length bc, .slice a5 j c5], .slice qa l.length qc] w' fun e w'' => e = .returned (.bool (Md.holds { c with rows := c.rows.dropLast } l)) ∧ Below w'.heap.size w' w'') := fun w' hb => by
            have hbw := HFw.out.trans (hb.mono HFw.out.size)
            have h0 := HCc.out w' hbw
            have h1 := Holds_any { c with rows := c.rows.dropLast } _ _ _ _ _ l w' ⟨h0.t, h0.x, h0.xcap, h0.b, rows_less HUs.out hbw HJn.out (own_off (S := fun _ => False) HFo.out (fun _ _ h => h) (Off.of_below hb)) (by unfold maxLen; omega)⟩ (HX.out w' hbw)
            unfold cnVal at h1
            exact h1
          have HRev : Hid (Md.holds { c with rows := c.rows.reverse } l = bi) := by rw [Md.holds_reverse HK.out]; exact HBi.out
          have HTw : Hid (c.rows.length < 64 → Md.holds { c with rows := c.rows ++ [c.rows.getLast hne0] } l = bi) := fun h64 => by rw [Md.holds_twice HK.out hne0 h64]; exact HBi.out
          have HLs : Hid (Md.fault c l.length = 0 → bi = false → Md.holds { c with rows := c.rows.dropLast } l = false) := fun hf hb => by
            cases hh : Md.holds { c with rows := c.rows.dropLast } l
            · rfl
            · have := Md.holds_less HK.out hf hh
              rw [HBi.out, hb] at this
              cases this
          have HFit : Hid (bi = true → Md.fault c l.length = 0 ∧ 1 ≤ l.length) := fun hb => by
            have h1 := (Md.holds_of (HBi.out.trans hb)).1
            have h2 := (Md.fit_of h1).x
            exact ⟨h1, by omega⟩
          have HF64 : Hid (Md.fault c l.length = 0 → c.rows.length ≤ 64) := fun hf => (Md.fit_of hf).rl
          have HMay : Hid (∀ w', Below F.heap.size F w' → Calls Try.prog 35 #[.agg #[.int .i64 c.kind, .int .i64 c.op, .slice ta c.terms.length tc, .int .i64 c.k, .int .i64 c.v, .int .i64 c.x, .int .i64 c.y, .slice xa c.xs.length xc, .slice ba c.table.length bc, .slice (some ⟨rb, ro, none⟩) c.rows.length rc], .int .i64 (l.length : Int)] w' fun e w'' => e = .returned (.bool (decide (1 ≤ (l.length : Int) ∧ (l.length : Int) ≤ 32 ∧ Md.fault c l.length = 0))) ∧ Below w'.heap.size w' w'') := fun w' hb => by
            have h1 := may_any c _ _ _ _ (l.length : Int) w' (HCc.out w' (HFw.out.trans (hb.mono HFw.out.size)))
            unfold cnVal at h1
            exact h1
          rw [HRev.out] at HCd
          clear HRev HV HX1 HX2 HT1 HN1 HUs HRb HRc HUl HJn HX2w HX3w HE3 HSp HSr HLast hT hTE HCc HX HBi hz
          obtain ⟨be, hbe⟩ : ∃ b, Md.holds { c with rows := c.rows ++ [c.rows.getLast hne0] } l = b := ⟨_, rfl⟩
          obtain ⟨bf, hbf⟩ : ∃ b, Md.holds { c with rows := c.rows.dropLast } l = b := ⟨_, rfl⟩
          rw [hbe] at HCe HTw
          rw [hbf] at HCf HLs
          clear hbe hbf
          have HFw2 : Hid (∀ {w'}, Below F.heap.size F w' → Below w.heap.size w w') := fun hb => HFw.out.trans (hb.mono HFw.out.size)
          have hBx : Hid (∀ w', Below F.heap.size F w' → w'.heap[w.heap.size]? = some (.cells #[.int .i64 c.kind, .int .i64 c.op, .slice ta c.terms.length tc, .int .i64 c.k, .int .i64 c.v, .int .i64 c.x, .int .i64 c.y, .slice xa c.xs.length xc, .slice ba c.table.length bc, .slice (some ⟨rb, ro, none⟩) c.rows.length rc] 40) ∧ w'.heap[x1]? = some (.cells #[.int .i64 c.kind, .int .i64 c.op, .slice ta c.terms.length tc, .int .i64 c.k, .int .i64 c.v, .int .i64 c.x, .int .i64 c.y, .slice xa c.xs.length xc, .slice ba c.table.length bc, .slice da c.rows.length dc] 40) ∧ w'.heap[x2]? = some (.cells #[.int .i64 c.kind, .int .i64 c.op, .slice ta c.terms.length tc, .int .i64 c.k, .int .i64 c.v, .int .i64 c.x, .int .i64 c.y, .slice xa c.xs.length xc, .slice ba c.table.length bc, .slice ea (c.rows.length + 1) ec] 40) ∧ w'.heap[x3]? = some (.cells #[.int .i64 c.kind, .int .i64 c.op, .slice ta c.terms.length tc, .int .i64 c.k, .int .i64 c.v, .int .i64 c.x, .int .i64 c.y, .slice xa c.xs.length xc, .slice ba c.table.length bc, .slice a5 j c5] 40)) := fun w' hb => by
            obtain ⟨⟨g0, g1, g2, g3⟩, _⟩ := HAll.out
            exact ⟨(hb.block _ (Array.getElem?_eq_some_iff.1 g0).1).trans g0, (hb.block _ (Array.getElem?_eq_some_iff.1 g1).1).trans g1, (hb.block _ (Array.getElem?_eq_some_iff.1 g2).1).trans g2, (hb.block _ (Array.getElem?_eq_some_iff.1 g3).1).trans g3⟩
          clear HAll HFo
          go_upto_region 11 with fail
          go_cut [79] from 62 to 109 (fun s79 wx => s79 = .bool false ∧ Hid (Below F.heap.size F wx))
          case first =>
            obtain ⟨⟨q0, q1, q2, q3, q4, q5, q6, q7, q8, q9⟩, _⟩ := box10 (hBx.out F (Below.refl _ _)).2.1
            go_wp2_with fail
            refine calls_at (HCd.out F (Below.refl _ _)) (by with_reducible rfl) (by with_reducible rfl) ?_
            rintro e w6 ⟨rfl, hb6⟩
            have HT6 : Hid (Below F.heap.size F w6) := hb6
            clear hb6 q0 q1 q2 q3 q4 q5 q6 q7 q8 q9
            cases bi
            · go_wp2_with fail
              go_meet
              exact ⟨rfl, HT6⟩
            · by_cases h64 : c.rows.length < 64
              · have h64I : (c.rows.length : Int) < 64 := by omega
                obtain rfl : be = true := HTw.out h64
                obtain ⟨⟨q0, q1, q2, q3, q4, q5, q6, q7, q8, q9⟩, _⟩ := box10 (hBx.out w6 HT6.out).2.2.1
                go_wp2_with fail
                refine calls_at (HCe.out w6 HT6.out) (by with_reducible rfl) (by with_reducible rfl) ?_
                rintro e w7 ⟨rfl, hb7⟩
                have HT7 : Hid (Below F.heap.size F w7) := HT6.out.trans (hb7.mono HT6.out.size)
                clear hb7 q0 q1 q2 q3 q4 q5 q6 q7 q8 q9
                go_wp2_with fail
                go_meet
                exact ⟨rfl, HT7⟩
              · have h64I : ¬ (c.rows.length : Int) < 64 := by omega
                go_wp2_with fail
                go_meet
                exact ⟨rfl, HT6⟩
          case rest =>
            obtain ⟨rfl, hF1⟩ := hcut
            rename World => wx
            obtain ⟨⟨q0, q1, q2, q3, q4, q5, q6, q7, q8, q9⟩, _⟩ := box10 (hBx.out wx hF1.out).1
            go_wp2_with fail
            refine calls_at (HMay.out wx hF1.out) (by with_reducible rfl) (by with_reducible rfl) ?_
            rintro e w8 ⟨rfl, hb8⟩
            have HT8 : Hid (Below F.heap.size F w8) := hF1.out.trans (hb8.mono hF1.out.size)
            clear hb8 q0 q1 q2 q3 q4 q5 q6 q7 q8 q9
            cases hd : decide (1 ≤ (l.length : Int) ∧ (l.length : Int) ≤ 32 ∧ Md.fault c l.length = 0)
            · have hno := of_decide_eq_false hd
              have HNo : Hid (bi = true → 32 < (l.length : Int)) := fun hb => by
                obtain ⟨f1, f2⟩ := HFit.out hb
                by_cases h : 32 < (l.length : Int)
                · exact h
                · exact absurd ⟨by omega, by omega, f1⟩ hno
              clear hno hd
              cases bi
              · go_wp2_with fail
                go_ret
                exact ⟨rfl, HFw2.out HT8.out⟩
              · have h32 := HNo.out rfl
                go_wp2_with fail
                go_ret
                exact ⟨rfl, HFw2.out HT8.out⟩
            · have hyes := of_decide_eq_true hd
              have HYes : Hid (Md.fault c l.length = 0) := hyes.2.2
              clear hyes hd
              by_cases h64 : c.rows.length = 64
              · have h64I : ((c.rows.length : Int) == 64) = true := by simp; omega
                go_wp2_with fail
                go_ret
                exact ⟨rfl, HFw2.out HT8.out⟩
              · have h64I : ((c.rows.length : Int) == 64) = false := by simp; omega
                have hlt64 : c.rows.length < 64 := by have := HF64.out HYes.out; omega
                obtain rfl : be = bi := HTw.out hlt64
                clear h64 hlt64
                obtain ⟨⟨q0, q1, q2, q3, q4, q5, q6, q7, q8, q9⟩, _⟩ := box10 (hBx.out w8 HT8.out).2.2.1
                go_wp2_with fail
                refine calls_at (HCe.out w8 HT8.out) (by with_reducible rfl) (by with_reducible rfl) ?_
                rintro e w9 ⟨rfl, hb9⟩
                have HT9 : Hid (Below F.heap.size F w9) := HT8.out.trans (hb9.mono HT8.out.size)
                clear hb9 q0 q1 q2 q3 q4 q5 q6 q7 q8 q9
                cases be
                · obtain rfl : bf = false := HLs.out HYes.out rfl
                  obtain ⟨⟨q0, q1, q2, q3, q4, q5, q6, q7, q8, q9⟩, _⟩ := box10 (hBx.out w9 HT9.out).2.2.2
                  go_wp2_with fail
                  refine calls_at (HCf.out w9 HT9.out) (by with_reducible rfl) (by with_reducible rfl) ?_
                  rintro e w10 ⟨rfl, hb10⟩
                  have HT10 : Hid (Below F.heap.size F w10) := HT9.out.trans (hb10.mono HT9.out.size)
                  clear hb10 q0 q1 q2 q3 q4 q5 q6 q7 q8 q9
                  go_wp2_with fail
                  go_ret
                  exact ⟨rfl, HFw2.out HT10.out⟩
                · go_wp2_with fail
                  go_ret
                  exact ⟨rfl, HFw2.out HT9.out⟩
end Go.Proofs.Ytmhfabnpfkkbcaa
