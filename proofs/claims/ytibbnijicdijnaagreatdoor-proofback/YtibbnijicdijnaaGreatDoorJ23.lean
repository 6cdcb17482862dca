/-
  Put together: PfPol, PfRd.
-/
import Derived.Test.YtibbnijicdijnaaGreatDoorJ22
namespace Go.Proofs.YtibbnijicdijnaaGreatDoor
open Go.RowKit

/-- A step's box. -/
structure StAt (w : World) (q : Nat) (cs : Array Value) : Prop where
  o : w.heap[q]? = some (.cells cs 45 (0, 0))
  n : cs.size = 10
theorem StAt.lt {w : World} {q : Nat} {cs : Array Value} (h : StAt w q cs) : q < w.heap.size := (Array.getElem?_eq_some_iff.1 h.o).1
theorem StAt.put {w : World} {q : Nat} {cs : Array Value} (h : StAt w q cs) (i : Nat) (v : Value) : StAt (w.setCell ⟨q, i, none⟩ v) q (cs.setIfInBounds i v) := ⟨set_of h.o i v, by rw [Array.size_setIfInBounds]; exact h.n⟩
theorem StAt.same {w w' : World} {q : Nat} {cs : Array Value} (h : StAt w q cs) (e : w'.heap[q]? = w.heap[q]?) : StAt w' q cs := ⟨e.trans h.o, h.n⟩
theorem StAt.stp {w w' : World} {q b B : Nat} {cs : Array Value} (h : StAt w q cs) (hs : SStp B (fun k => k = b) w w') (hq : q ≠ b) : StAt w' q cs := h.same (hs.off.block q h.lt hq)
theorem StAt.cell {w : World} {q : Nat} {cs : Array Value} (h : StAt w q cs) (i : Nat) (hi : i < 10) : ∃ u, w.cell? ⟨q, i, none⟩ = some u := ⟨cs[i]'(by rw [h.n]; exact hi), by rw [cell_of h.o, Array.getElem?_eq_getElem]⟩
theorem oper_rest (x : List UInt8) (s : Ls) : (operP x s).2.1 = s.1 := by
  unfold operP
  split
  · rfl
  · rw [whole_rest]; unfold operS; split <;> first | rfl | exact fail_rest _ _
theorem turn_rest (fr tk : Int) (L : List OpL) (s : Ls) : (turnP fr tk L s).2.1 = s.1 ∧ (turnP fr tk L s).1.length ≤ L.length := by
  rcases List.eq_nil_or_concat L with rfl | ⟨M, o, rfl⟩
  · exact ⟨fail_rest _ _, Nat.le_refl _⟩
  · rw [List.concat_eq_append, turn_app]
    split
    · exact ⟨rfl, by simp⟩
    · exact ⟨fail_rest _ _, by simp⟩
theorem op_rest (x : List UInt8) (L : List OpL) (s : Ls) : (opP x L s).2.1 = s.1 ∧ (opP x L s).1.length ≤ L.length + 1 := by
  have ht := fun fr tk => turn_rest fr tk L s
  unfold opP
  repeat' split
  · exact ⟨rfl, by simp⟩
  · exact ⟨rfl, by simp⟩
  · exact ⟨(ht 1 4).1, by have := (ht 1 4).2; omega⟩
  · exact ⟨(ht 1 5).1, by have := (ht 1 5).2; omega⟩
  · exact ⟨(ht 2 7).1, by have := (ht 2 7).2; omega⟩
  · exact ⟨oper_rest _ _, by simp⟩
def lopsP : Nat → List OpL → Ls → List OpL × Ls
  | 0, L, s => (L, s)
  | n + 1, L, s => if (takeP s).1.2 = true then lopsP n (opP (takeP s).1.1 L (takeP s).2).1 (opP (takeP s).1.1 L (takeP s).2).2 else (L, (takeP s).2)
def opsP (s : Ls) : List OpL × Ls := lopsP (s.1.length + 1) (opP (nextP s).1 [] (nextP s).2).1 (opP (nextP s).1 [] (nextP s).2).2
theorem lops_stop {n : Nat} {L : List OpL} {s : Ls} {x : List UInt8} (h : (takeP s).1 = (x, false)) : lopsP (n + 1) L s = (L, (takeP s).2) := by simp [lopsP, h]
theorem lops_more {n : Nat} {L : List OpL} {s : Ls} {x : List UInt8} (h : (takeP s).1 = (x, true)) : lopsP (n + 1) L s = lopsP n (opP x L (takeP s).2).1 (opP x L (takeP s).2).2 := by simp [lopsP, h]
theorem next_rest (s : Ls) : (nextP s).2.1.length ≤ s.1.length := by
  have h : (takeP s).2.1.length ≤ s.1.length := by
    cases hk : (takeP s).1.2 with
    | true => exact Nat.le_of_lt (take_less hk).1
    | false =>
      unfold takeP at hk ⊢
      split
      · exact Nat.le_refl _
      · rename_i h1; rw [if_neg h1] at hk; cases hk
  unfold nextP
  split
  · exact h
  · rw [fail_rest]; exact h
/-- Operations in a step's box, behind what was done since w0. -/
structure PoAt (B b q : Nat) (cs : Array Value) (w0 w : World) (v : Value) (L : List OpL) (s : Ls) : Prop where
  st : StAt w q (cs.setIfInBounds 2 v)
  own : w.ownsRow w0.heap.size 84 3 v L.length (opsC L)
  ln : LnAt w b s
  stp : SStp B (fun k => k = b ∨ k = q) w0 w
/-- How a reader ends that lays a row of operations into the box. -/
def PoOut (B b q : Nat) (cs : Array Value) (w0 : World) (L : List OpL) (s : Ls) (e : Ending) (w : World) : Prop := e = .returned (.tuple #[]) ∧ ∃ v, PoAt B b q cs w0 w v L s
theorem po_put {B b q : Nat} {cs ct : Array Value} {w0 w w2 : World} {v2 : Value} {L2 : List OpL} {s2 : Ls} (hst : StAt w q ct) (hct : ct.setIfInBounds 2 v2 = cs.setIfInBounds 2 v2) (hs : SStp B (fun k => k = b ∨ k = q) w0 w) (hBq : B ≤ q) (hq : q < w0.heap.size) (hbq : q ≠ b) (h1 : w2.ownsRow w0.heap.size 84 3 v2 L2.length (opsC L2)) (h2 : LnAt w2 b s2) (h3 : SStp B (fun k => k = b ∨ w0.heap.size ≤ k) w w2) : StAt w2 q ct ∧ PoAt B b q cs w0 (w2.setCell ⟨q, 2, none⟩ v2) v2 L2 s2 := by
  have hst2 : StAt w2 q ct := hst.same (h3.off.block q hst.lt (by rintro (h | h) <;> omega))
  have hss : SStp B (fun k => k = b ∨ k = q) w0 w2 := ⟨hs.below.trans h3.below, ⟨Nat.le_trans hs.off.size h3.off.size, fun k hk hn => (h3.off.block k (Nat.lt_of_lt_of_le hk hs.off.size) (by rintro (h | h); exact hn (.inl h); omega)).trans (hs.off.block k hk hn)⟩⟩
  refine ⟨hst2, ?_, own_keep h1 (fun g hg => heap_setCell_other _ _ _ _ (by have := (h1.lt g hg).1; show g ≠ q; omega)), ⟨(heap_setCell_other _ _ _ _ (Ne.symm hbq)).trans h2.o, h2.n⟩, hss.below.setCell hBq _, hss.off.trans (Off.set _ (.inr rfl))⟩
  rw [← hct]
  exact hst2.put 2 v2
theorem PoAt.step {B b q : Nat} {cs : Array Value} {w0 w w' : World} {v : Value} {L : List OpL} {s s' : Ls} (h : PoAt B b q cs w0 w v L s) (h1 : LnAt w' b s') (h2 : SStp B (fun k => k = b) w w') (hbq : q ≠ b) (hb : b < w0.heap.size) : PoAt B b q cs w0 w' v L s' :=
  ⟨h.st.stp h2 hbq, own_stp h.own h2 hb, h1, h.stp.trans (h2.more fun _ hk => .inl hk)⟩

set_option maxRecDepth 10000 in
set_option maxHeartbeats 2000000 in
theorem ops_any {B b q : Nat} {s : Ls} {cs : Array Value} (w : World) (h : LnAt w b s) (hst : StAt w q cs) (hB : B ≤ b) (hBq : B ≤ q) (hbq : q ≠ b) : Calls Tryz.prog 85 #[.pointer (some ⟨b, 0, none⟩), .pointer (some ⟨q, 0, none⟩)] w (PoOut B b q cs w (opsP s).1 (opsP s).2) := by
  have hn := h.n
  have hbl := h.lt
  have hql := hst.lt
  obtain ⟨x, hx⟩ : ∃ x, (nextP s).1 = x := ⟨_, rfl⟩
  have hxl : x.length ≤ 9000000 := by rw [← hx]; exact Nat.le_trans (next_le s) hn
  obtain ⟨s1, hs1⟩ : ∃ s1, (nextP s).2 = s1 := ⟨_, rfl⟩
  have hsl : s1.1.length ≤ s.1.length := by rw [← hs1]; exact next_rest s
  have HN : Hid (Calls Tryz.prog 108 #[.pointer (some ⟨b, 0, none⟩)] w (LO B b (.string (txtOf x)) s1 w)) := by have := next_any w h hB; rw [hx, hs1] at this; exact this
  have HT : Hid (∀ w' s', LnAt w' b s' → Calls Tryz.prog 113 #[.pointer (some ⟨b, 0, none⟩)] w' (LO B b (.tuple #[.string (txtOf (takeP s').1.1), .bool (takeP s').1.2]) (takeP s').2 w')) := fun w' s' h' => take_any w' h' hB
  have HP : Hid (∀ w' s' L v x, LnAt w' b s' → w.heap.size ≤ w'.heap.size → w'.ownsRow w.heap.size 84 3 v L.length (opsC L) → L.length ≤ 9000000 → x.length ≤ 9000000 → Calls Tryz.prog 120 #[.pointer (some ⟨b, 0, none⟩), v, .string (txtOf x)] w' (OO B b w.heap.size (opP x L s').1 (opP x L s').2 w')) := fun w' s' L v x a1 a2 a3 a4 a5 => op_any x w' a1 hB hbl a2 a3 a4 a5
  have HL : Hid (LnAt w b s) := h
  have HS : Hid (StAt w q cs) := hst
  have HR : Hid (∀ x L s, (opP x L s).2.1 = s.1 ∧ (opP x L s).1.length ≤ L.length + 1) := op_rest
  obtain ⟨N, hN⟩ : ∃ N, s.1.length + 1 = N := ⟨_, rfl⟩
  unfold opsP
  rw [hx, hs1, hN]
  have HNl : Hid (s.1.length + 1 = N) := hN
  obtain ⟨LL, hLL⟩ : ∃ L, (opP x [] s1).1 = L := ⟨_, rfl⟩
  obtain ⟨ss, hss⟩ : ∃ s', (opP x [] s1).2 = s' := ⟨_, rfl⟩
  have HLL : Hid ((opP x [] s1).1 = LL) := hLL
  have HSS : Hid ((opP x [] s1).2 = ss) := hss
  rw [hLL, hss]
  clear h hst hx hs1 hN hLL hss
  go_enter Tryz.func85, Tryz.ntmps85
  go_wp2_with fail
  refine calls_at HN.out (by with_reducible rfl) (by with_reducible rfl) ?_
  rintro e w1 ⟨rfl, h1, h2⟩
  have H1 : Hid (LnAt w1 b s1 ∧ SStp B (fun k => k = b) w w1) := ⟨h1, h2⟩
  clear h1 h2
  go_wp2_with fail
  refine calls_at (HP.out w1 s1 [] (.slice none 0 0) x H1.out.1 H1.out.2.off.size (World.ownsRow_nil _ _ _ _) (by simp) hxl) (by with_reducible rfl) (by with_reducible rfl) ?_
  rintro e w2 ⟨v2, rfl, o1, o2, o3⟩
  have hp := po_put (cs := cs) (HS.out.stp H1.out.2 hbq) rfl (H1.out.2.more fun _ hk => .inl hk) hBq hql hbq o1 o2 o3
  obtain ⟨u2, c2⟩ := hp.1.cell 2 (by omega)
  have z2 := frozen_of hp.1.o 2
  have HP2 : Hid (PoAt B b q cs w (w2.setCell ⟨q, 2, none⟩ v2) v2 (opP x [] s1).1 (opP x [] s1).2) := hp.2
  obtain ⟨va, vc, hv2⟩ := own_slice o1
  subst hv2
  clear o1 o2 o3 hp
  go_wp2_with fail
  refine calls_at (HT.out _ _ HP2.out.ln) (by with_reducible rfl) (by with_reducible rfl) ?_
  rintro e w3 ⟨rfl, h1, h2⟩
  have HP3 : Hid (PoAt B b q cs w w3 _ (opP x [] s1).1 (takeP (opP x [] s1).2).2) := HP2.out.step h1 h2 hbq hbl
  clear h1 h2 HP2 c2 z2
  have h0 := HR.out x [] s1
  have HG0 : Hid (((opP x [] s1).2.1.length + 1 ≤ N ∧ (opP x [] s1).2.1.length ≤ s.1.length) ∧ (opP x [] s1).1.length + (opP x [] s1).2.1.length ≤ s.1.length + 1) := by
    have := HNl.out
    rw [h0.1]
    have h02 := h0.2
    simp only [List.length_nil] at h02
    exact ⟨⟨by omega, by omega⟩, by omega⟩
  clear h0
  rw [HLL.out, HSS.out] at HG0 HP3
  rw [HLL.out, HSS.out]
  go_wp2_with fail
  go_loopg [4, 5] N (fun g v4 v5 wr => ∃ (v : Value) (L : List OpL) (sc : Ls) (x : List UInt8) (ok : Bool), v4 = .string (txtOf x) ∧ v5 = .bool ok ∧ Hid ((takeP sc).1 = (x, ok)) ∧ Hid ((sc.1.length + 1 ≤ g ∧ sc.1.length ≤ s.1.length) ∧ L.length + sc.1.length ≤ s.1.length + 1 ∧ lopsP N LL ss = lopsP g L sc) ∧ Hid (PoAt B b q cs w wr v L (takeP sc).2))
  case atStart => exact ⟨_, LL, ss, _, _, rfl, rfl, rfl, ⟨HG0.out.1, HG0.out.2, rfl⟩, HP3.out⟩
  case round =>
    clear HP3 HL HS HG0
    obtain ⟨v, L, sc, x, ok, rfl, rfl, HTk, HG, HPo⟩ := hrel
    obtain ⟨va, vc, hvs⟩ := own_slice HPo.out.own
    subst hvs
    cases ok with
    | false =>
      have HRs : Hid (lopsP N LL ss = (L, (takeP sc).2)) := by
        have h1 := HG.out.2.2
        obtain ⟨g', hg'⟩ : ∃ g', gk = g' + 1 := ⟨gk - 1, by have := HG.out.1.1; omega⟩
        rw [hg', lops_stop HTk.out] at h1
        exact h1
      go_wp2_with fail
      go_end0
      exact ⟨rfl, _, by rw [HRs.out]; exact HPo.out⟩
    | true =>
      cases gk with
      | zero => exact absurd HG.out.1.1 (by omega)
      | succ g' =>
      have hk1 : (takeP sc).1.2 = true := by rw [HTk.out]
      have hk2 : (takeP sc).1.1 = x := by rw [HTk.out]
      have hl := take_less hk1
      rw [hk2] at hl
      have hG := HG.out
      have hr := HR.out x L (takeP sc).2
      have HNx : Hid (((opP x L (takeP sc).2).2.1.length + 1 ≤ g' ∧ (opP x L (takeP sc).2).2.1.length ≤ s.1.length) ∧ (opP x L (takeP sc).2).1.length + (opP x L (takeP sc).2).2.1.length ≤ s.1.length + 1 ∧ lopsP N LL ss = lopsP g' (opP x L (takeP sc).2).1 (opP x L (takeP sc).2).2) := by
        refine ⟨by rw [hr.1]; omega, by rw [hr.1]; omega, ?_⟩
        rw [hG.2.2, lops_more HTk.out]
      have HO2 : Hid (Calls Tryz.prog 120 #[.pointer (some ⟨b, 0, none⟩), .slice va L.length vc, .string (txtOf x)] wr (OO B b w.heap.size (opP x L (takeP sc).2).1 (opP x L (takeP sc).2).2 wr)) := HP.out wr _ L _ x HPo.out.ln HPo.out.stp.off.size HPo.out.own (by omega) (by omega)
      have c2 : wr.cell? ⟨q, 2, none⟩ = some (.slice va L.length vc) := by
        rw [cell_of HPo.out.st.o 2]
        have hsz := HPo.out.st.n
        rw [Array.size_setIfInBounds] at hsz
        rw [Array.getElem?_setIfInBounds_self_of_lt (by omega)]
      clear hk1 hk2 hl hG HG hr
      go_wp2_with fail
      refine calls_at HO2.out (by with_reducible rfl) (by with_reducible rfl) ?_
      rintro e w2 ⟨v2, rfl, o1, o2, o3⟩
      have hp := po_put (cs := cs) HPo.out.st (by rw [Array.setIfInBounds_setIfInBounds]) HPo.out.stp hBq hql hbq o1 o2 o3
      clear c2
      obtain ⟨u2, c2⟩ := hp.1.cell 2 (by omega)
      have z2 := frozen_of hp.1.o 2
      have HP2 : Hid (PoAt B b q cs w (w2.setCell ⟨q, 2, none⟩ v2) v2 (opP x L (takeP sc).2).1 (opP x L (takeP sc).2).2) := hp.2
      obtain ⟨va2, vc2, hv2⟩ := own_slice o1
      subst hv2
      clear o1 o2 o3 hp
      go_wp2_with fail
      refine calls_at (HT.out _ _ HP2.out.ln) (by with_reducible rfl) (by with_reducible rfl) ?_
      rintro e w3 ⟨rfl, h1, h2⟩
      have HP3 : Hid (PoAt B b q cs w w3 _ (opP x L (takeP sc).2).1 (takeP (opP x L (takeP sc).2).2).2) := HP2.out.step h1 h2 hbq hbl
      clear h1 h2 HP2 c2 z2
      go_wp2_with fail
      go_roundg g'
      case measure => omega
      case rel => exact ⟨_, _, (opP x L (takeP sc).2).2, _, _, rfl, rfl, rfl, HNx.out, HP3.out⟩
end Go.Proofs.YtibbnijicdijnaaGreatDoor

namespace Go.Proofs.YtibbnijicdijnaaGreatDoor
open Go.RowKit

/-- How a reader ends: the box, the line, what is changed. -/
def RO (B b q : Nat) (w : World) (Ps : Array Value → World → Prop) (s' : Ls) (e : Ending) (w' : World) : Prop := e = .returned (.tuple #[]) ∧ ∃ cs', StAt w' q cs' ∧ Ps cs' w' ∧ LnAt w' b s' ∧ SStp B (fun k => k = b ∨ k = q) w w'
/-- A cell of the box is written behind calls that changed the line alone. -/
theorem rd_put {B b q : Nat} {s : Ls} {cs : Array Value} {w w2 : World} (hst : StAt w2 q cs) (hl : LnAt w2 b s) (hs : SStp B (fun k => k = b ∨ k = q) w w2) (hBq : B ≤ q) (hbq : q ≠ b) (i : Nat) (v : Value) : StAt (w2.setCell ⟨q, i, none⟩ v) q (cs.setIfInBounds i v) ∧ LnAt (w2.setCell ⟨q, i, none⟩ v) b s ∧ SStp B (fun k => k = b ∨ k = q) w (w2.setCell ⟨q, i, none⟩ v) :=
  ⟨hst.put i v, ⟨(heap_setCell_other _ _ _ _ (Ne.symm hbq)).trans hl.o, hl.n⟩, hs.below.setCell hBq _, hs.off.trans (Off.set _ (.inr rfl))⟩
def sizeP (s : Ls) : List UInt8 × Ls := ((nextP s).1, wholeP (nextP s).1 0 (nextP s).2)

set_option maxRecDepth 10000 in
set_option maxHeartbeats 2000000 in
theorem size_any {B b q : Nat} {s : Ls} {cs : Array Value} (w : World) (h : LnAt w b s) (hst : StAt w q cs) (hB : B ≤ b) (hBq : B ≤ q) (hbq : q ≠ b) : Calls Tryz.prog 83 #[.pointer (some ⟨b, 0, none⟩), .pointer (some ⟨q, 0, none⟩)] w (RO B b q w (fun cs' _ => cs' = cs.setIfInBounds 1 (.string (txtOf (sizeP s).1))) (sizeP s).2) := by
  have hn := h.n
  unfold sizeP
  obtain ⟨y, hy⟩ : ∃ y, (nextP s).1 = y := ⟨_, rfl⟩
  have hyl : y.length ≤ 9000000 := by rw [← hy]; exact Nat.le_trans (next_le s) hn
  have HN : Hid (Calls Tryz.prog 108 #[.pointer (some ⟨b, 0, none⟩)] w (LO B b (.string (txtOf y)) (nextP s).2 w)) := by have := next_any w h hB; rw [hy] at this; exact this
  have HI : Hid (∀ w' s', LnAt w' b s' → Calls Tryz.prog 119 #[.pointer (some ⟨b, 0, none⟩), .string (txtOf y)] w' (LO B b (.string (txtOf y)) (wholeP y 0 s') w')) := fun w' s' h' => count_any y w' h' hB hyl
  have HS : Hid (StAt w q cs) := hst
  rw [hy]
  clear h hst hy
  go_enter Tryz.func83, Tryz.ntmps83
  go_wp2_with fail
  refine calls_at HN.out (by with_reducible rfl) (by with_reducible rfl) ?_
  rintro e w1 ⟨rfl, h1, h2⟩
  have H1 : Hid (LnAt w1 b (nextP s).2 ∧ SStp B (fun k => k = b) w w1) := ⟨h1, h2⟩
  clear h1 h2
  go_wp2_with fail
  refine calls_at (HI.out w1 _ H1.out.1) (by with_reducible rfl) (by with_reducible rfl) ?_
  rintro e w2 ⟨rfl, h3, h4⟩
  have H2 : Hid (LnAt w2 b (wholeP y 0 (nextP s).2) ∧ SStp B (fun k => k = b) w w2) := ⟨h3, H1.out.2.trans h4⟩
  clear h3 h4
  have hS2 := HS.out.stp H2.out.2 hbq
  obtain ⟨u, c1⟩ := hS2.cell 1 (by omega)
  have z1 := frozen_of hS2.o 1
  have HE : Hid (StAt (w2.setCell ⟨q, 1, none⟩ (.string (txtOf y))) q (cs.setIfInBounds 1 (.string (txtOf y))) ∧ LnAt (w2.setCell ⟨q, 1, none⟩ (.string (txtOf y))) b (wholeP y 0 (nextP s).2) ∧ SStp B (fun k => k = b ∨ k = q) w (w2.setCell ⟨q, 1, none⟩ (.string (txtOf y)))) := rd_put hS2 H2.out.1 (H2.out.2.more fun _ hk => .inl hk) hBq hbq 1 _
  clear hS2
  go_wp2_with fail
  go_end0
  exact ⟨rfl, _, HE.out.1, rfl, HE.out.2.1, HE.out.2.2⟩

set_option maxRecDepth 10000 in
set_option maxHeartbeats 2000000 in
theorem rlits_any {B b q : Nat} {s : Ls} {cs : Array Value} (w : World) (h : LnAt w b s) (hst : StAt w q cs) (hB : B ≤ b) (hBq : B ≤ q) (hbq : q ≠ b) : Calls Tryz.prog 91 #[.pointer (some ⟨b, 0, none⟩), .pointer (some ⟨q, 0, none⟩)] w (RO B b q w (fun cs' w' => ∃ v, cs' = cs.setIfInBounds 5 v ∧ w'.ownsRow w.heap.size 3 1 v (listP literalP s).1.length ((listP literalP s).1.map fun x => .int .i64 (litP x).1)) (listP literalP s).2) := by
  have hql := hst.lt
  have HN : Hid (Calls Tryz.prog 126 #[.pointer (some ⟨b, 0, none⟩), .func (.func 127) #[.pointer (some ⟨b, 0, none⟩)] #[]] w (LOr B b 3 ((listP literalP s).1.map fun x => .int .i64 (litP x).1) (listP literalP s).2 w)) := lits_any w h hB
  have HS : Hid (StAt w q cs) := hst
  obtain ⟨r, hr⟩ : ∃ r, listP literalP s = r := ⟨_, rfl⟩
  rw [hr] at HN ⊢
  clear h hst hr
  go_enter Tryz.func91, Tryz.ntmps91
  go_wp2_with fail
  refine calls_at HN.out (by with_reducible rfl) (by with_reducible rfl) ?_
  rintro e w1 ⟨v, rfl, h0, h1, h2⟩
  rw [List.length_map] at h0
  have hS2 := HS.out.stp h2 hbq
  obtain ⟨u, c1⟩ := hS2.cell 5 (by omega)
  have z1 := frozen_of hS2.o 5
  have HE : Hid ((StAt (w1.setCell ⟨q, 5, none⟩ v) q (cs.setIfInBounds 5 v) ∧ LnAt (w1.setCell ⟨q, 5, none⟩ v) b r.2 ∧ SStp B (fun k => k = b ∨ k = q) w (w1.setCell ⟨q, 5, none⟩ v)) ∧ (w1.setCell ⟨q, 5, none⟩ v).ownsRow w.heap.size 3 1 v r.1.length (r.1.map fun x => .int .i64 (litP x).1)) := ⟨rd_put hS2 h1 (h2.more fun _ hk => .inl hk) hBq hbq 5 _, by
    exact own_keep h0 fun g hg => heap_setCell_other _ _ _ _ (by have := (h0.lt g hg).1; show g ≠ q; omega)⟩
  obtain ⟨va, vc, hvs⟩ := own_slice h0
  subst hvs
  clear hS2 h0 h1 h2
  go_wp2_with fail
  go_end0
  exact ⟨rfl, _, HE.out.1.1, ⟨_, rfl, HE.out.2⟩, HE.out.1.2.1, HE.out.1.2.2⟩

set_option maxHeartbeats 1000000 in
theorem remark_any {B b q : Nat} {s : Ls} {cs : Array Value} (w : World) (h : LnAt w b s) (hst : StAt w q cs) (hB : B ≤ b) (hbq : q ≠ b) : Calls Tryz.prog 95 #[.pointer (some ⟨b, 0, none⟩), .pointer (some ⟨q, 0, none⟩)] w (RO B b q w (fun cs' _ => cs' = cs) ([], s.2)) := by
  have c0 : w.cell? ⟨b, 0, none⟩ = some (.string (txtOf s.1)) := cell_of h.o 0
  have z0 := frozen_of h.o 0
  have HE : Hid (RO B b q w (fun cs' _ => cs' = cs) ([], s.2) (.returned (.tuple #[])) (w.setCell ⟨b, 0, none⟩ (.string ⟨#[]⟩))) := ⟨rfl, cs, hst.same (heap_setCell_other _ _ _ _ hbq), rfl, h.put0 [] (by simp), (Below.refl _ _).setCell hB _, Off.set _ (.inl rfl)⟩
  clear h hst
  go_enter Tryz.func95, Tryz.ntmps95
  go_wp2_with fail
  go_end0
  exact HE.out

set_option maxHeartbeats 1000000 in
theorem nothing_any {B b q : Nat} {s : Ls} {cs : Array Value} (w : World) (h : LnAt w b s) (hst : StAt w q cs) : Calls Tryz.prog 81 #[.pointer (some ⟨b, 0, none⟩), .pointer (some ⟨q, 0, none⟩)] w (RO B b q w (fun cs' _ => cs' = cs) s) := by
  have HE : Hid (RO B b q w (fun cs' _ => cs' = cs) s (.returned (.tuple #[])) w) := ⟨rfl, cs, hst, rfl, h, SStp.refl _ _ _⟩
  clear h hst
  go_enter Tryz.func81, Tryz.ntmps81
  go_wp2_with fail
  go_end0
  exact HE.out
end Go.Proofs.YtibbnijicdijnaaGreatDoor
