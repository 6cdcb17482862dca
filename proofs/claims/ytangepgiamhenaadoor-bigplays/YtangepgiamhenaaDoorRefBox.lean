/-
  The document's numbers: boxes, Opposite.
-/
import Derived.Test.YtangepgiamhenaaDoorRefLess
import Derived.Test.YtangepgiamhenaaDoorPlus
namespace Go.Proofs.YtangepgiamhenaaDoor
open Go.RowKit
open Bn (limbs)

theorem two_objs (w : World) (o1 o2 : Obj) {W : World} (hW : (w.alloc o1).alloc o2 = W) :
    W.heap[w.heap.size]? = some o1 ∧ W.heap[w.heap.size + 1]? = some o2 ∧ Below w.heap.size w W ∧ W.heap.size = w.heap.size + 2 := by
  subst hW
  have hs1 : (w.alloc o1).heap.size = w.heap.size + 1 := by simp
  refine ⟨?_, ?_, ((Below.refl _ _).alloc (Nat.le_refl _) _).alloc (by simp) _, by simp⟩
  · exact (Below.heap_alloc _ _ _ (by simp)).trans (World.alloc_heap_new w _)
  · rw [← hs1]; exact World.alloc_heap_new _ _
theorem three_objs (w : World) (o1 o2 o3 : Obj) {W : World} (hW : ((w.alloc o1).alloc o2).alloc o3 = W) :
    W.heap[w.heap.size]? = some o1 ∧ W.heap[w.heap.size + 1]? = some o2 ∧ W.heap[w.heap.size + 1 + 1]? = some o3 ∧ Below w.heap.size w W ∧ W.heap.size = w.heap.size + 3 := by
  obtain ⟨V, hV⟩ : ∃ V, (w.alloc o1).alloc o2 = V := ⟨_, rfl⟩
  obtain ⟨h1, h2, h3, h4⟩ := two_objs w o1 o2 hV
  rw [hV] at hW
  subst hW
  have hb : Below V.heap.size V (V.alloc o3) := (Below.refl _ _).alloc (Nat.le_refl _) _
  refine ⟨(hb.block _ (by omega)).trans h1, (hb.block _ (by omega)).trans h2, ?_, h3.trans (hb.mono h3.size), by simp; omega⟩
  rw [show w.heap.size + 1 + 1 = V.heap.size from by omega]; exact World.alloc_heap_new _ _

theorem rbox_facts {W : World} {N : Nat} {d : Bool} {s : Value} (hN : W.heap[N]? = some (.cells #[.bool d, s] 30)) :
    W.cell? ⟨N, 0, none⟩ = some (.bool d) ∧ W.cell? ⟨N, 1, none⟩ = some s ∧ W.frozen? ⟨N, 0, none⟩ = false ∧ W.frozen? ⟨N, 1, none⟩ = false := by
  refine ⟨?_, ?_, ?_, ?_⟩ <;> simp [World.cell?, World.frozen?, hN]
theorem rbox_set {W : World} {N : Nat} {d : Bool} {s : Value} (hN : W.heap[N]? = some (.cells #[.bool d, s] 30)) (a b : Value) :
    ((W.setCell ⟨N, 0, none⟩ a).setCell ⟨N, 1, none⟩ b).cell? ⟨N, 0, none⟩ = some a ∧ ((W.setCell ⟨N, 0, none⟩ a).setCell ⟨N, 1, none⟩ b).cell? ⟨N, 1, none⟩ = some b := by
  obtain ⟨c0, c1, _, _⟩ := rbox_facts hN
  have e : (⟨N, 1, none⟩ : Addr) ≠ ⟨N, 0, none⟩ := fun h => by injection h with _ h _; cases h
  have e' : (⟨N, 0, none⟩ : Addr) ≠ ⟨N, 1, none⟩ := fun h => by injection h with _ h _; cases h
  constructor
  · rw [World.cell?_setCell_other (h := e)]
    exact World.cell?_setCell_same' _ _ _ (by rw [c0]; rfl)
  · exact World.cell?_setCell_same' _ _ _ (by rw [World.cell?_setCell_other (h := e'), c1]; rfl)
theorem IntsAt.not_box {W : World} {N : Nat} {d : Bool} {s v : Value} {l : List Nat} (h : IntsAt W v l) (hN : W.heap[N]? = some (.cells #[.bool d, s] 30)) (u : Value) (o : Nat) : IntsAt (W.setCell ⟨N, o, none⟩ u) v l := by
  rcases h with h | ⟨b, cap, hv, hlt, hl, hm, hc⟩
  · exact .inl h
  · refine .inr ⟨b, cap, hv, by simp [World.setCell]; exact hlt, hl, hm, fun j hj => ?_⟩
    have hb : b ≠ N := by
      rintro rfl
      have h0 := hc 0 (by omega)
      rw [(rbox_facts hN).1] at h0
      injection h0 with h0
      cases h0
    exact (World.cell?_of_block (w := W) (a := ⟨b, j, none⟩) (Below.heap_setCell W ⟨N, o, none⟩ u b hb)).trans (hc j hj)
theorem RefAt.setBox {W : World} {N : Nat} {d : Bool} {s r : Value} {z : Int} (h : RefAt W r z) (hN : W.heap[N]? = some (.cells #[.bool d, s] 30)) (a : Bool) (b : Value) : RefAt ((W.setCell ⟨N, 0, none⟩ (.bool a)).setCell ⟨N, 1, none⟩ b) r z := by
  obtain ⟨t, hr, hI⟩ := h
  refine ⟨t, hr, ?_⟩
  have h1 := hI.not_box hN (.bool a) 0
  have hN' : (W.setCell ⟨N, 0, none⟩ (.bool a)).heap[N]? = some (.cells #[.bool a, s] 30) := by
    simp [World.setCell, Array.getElem?_modify, hN]
  exact h1.not_box hN' b 1
theorem RefAt.form {w : World} {r : Value} {z : Int} (h : RefAt w r z) : ∃ p c, r = .agg #[.bool (decide (z < 0)), .slice p (limbs z.natAbs).length c] := by
  obtain ⟨s, hr, hI⟩ := h
  obtain ⟨p, c, hs, _⟩ := hI.form
  exact ⟨p, c, by rw [hr, hs]⟩
theorem RefAt.ints {w : World} {d : Bool} {s : Value} {z : Int} (h : RefAt w (.agg #[.bool d, s]) z) : d = decide (z < 0) ∧ IntsAt w s (limbs z.natAbs) := by
  obtain ⟨t, hr, hI⟩ := h
  injection hr with hr
  have : d = decide (z < 0) ∧ s = t := by simpa using (congrArg (fun a : Array Value => a.toList) hr : _)
  exact ⟨this.1, by rw [this.2]; exact hI⟩

theorem sg_opp (z : Int) : sg (!(decide (z < 0))) z.natAbs = -z := by
  unfold sg
  by_cases h : z < 0
  · rw [decide_eq_true h]; simp; omega
  · rw [decide_eq_false h]; simp; omega

set_option maxRecDepth 100000 in
set_option maxHeartbeats 600000 in
/-- Opposite. -/
theorem opposite_any (z : Int) (v : Value) (w : World) (h : RefAt w v z) :
    Calls Tryd.prog 23 #[v] w fun e w' => ∃ r, e = .returned r ∧ RefAt w' r (-z) ∧ Below w.heap.size w w' := by
  have HR : Hid (RefAt w v z) := h
  obtain ⟨p, c, rfl⟩ := h.form
  have HS : Hid (sg (!(decide (z < 0))) z.natAbs = -z) := sg_opp z
  have HI : Hid (∀ w', Below w.heap.size w w' → IntsAt w' (.slice p (limbs z.natAbs).length c) (limbs z.natAbs)) := fun w' hb => (RefAt.ints (HR.out.below hb)).2
  generalize decide (z < 0) = d at *
  clear h
  go_enter Tryd.func23, Tryd.ntmps23
  go_wp2_with fail
  generalize hW : (w.alloc (.cells #[.bool d, .slice p (limbs z.natAbs).length c] 30)).alloc (.cells #[.bool false, .slice none 0 0] 30) = W
  obtain ⟨hA, hR, hBW, hsz⟩ := two_objs w _ _ hW
  clear hW
  have HM := refMade_any (!d) (limbs z.natAbs) _ W (HI.out W hBW) (fun e h => Bn.limbs_lt' h)
  rw [Bn.val_limbs', HS.out] at HM
  refine HM.mono ?_
  rintro e w1 ⟨r, rfl, hr, hb1⟩
  obtain ⟨p1, c1, hr1⟩ := hr.form
  subst hr1
  have hR1 := (hb1.block (w.heap.size + 1) (by omega)).trans hR
  obtain ⟨r0, r1, r2, r3⟩ := rbox_facts hR1
  generalize decide (-z < 0) = dn at *
  generalize (limbs (-z).natAbs).length = ln at *
  obtain ⟨m0, m1⟩ := rbox_set hR1 (.bool dn) (.slice p1 ln c1)
  have hfin : Below w.heap.size w w1 := hBW.trans (hb1.mono hBW.size)
  go_wp2
  exact bodyPost_ret (v := .agg #[.bool dn, .slice p1 ln c1]) (by simp [results, Tryd.results23, go_sem, m0, m1]) rfl ⟨_, rfl, hr.setBox hR1 _ _, (hfin.setCell (p := ⟨w.heap.size + 1, 0, none⟩) (by show w.heap.size ≤ w.heap.size + 1; omega) _).setCell (p := ⟨w.heap.size + 1, 1, none⟩) (by show w.heap.size ≤ w.heap.size + 1; omega) _⟩

/-- What stays of two of the document's numbers. -/
def RTwo (W : World) (N : Nat) (d1 d2 : Bool) (s1 s2 : Value) (w' : World) : Prop :=
  w'.cell? ⟨N, 0, none⟩ = some (.bool d1) ∧ w'.cell? ⟨N, 1, none⟩ = some s1 ∧ w'.cell? ⟨N + 1, 0, none⟩ = some (.bool d2) ∧ w'.cell? ⟨N + 1, 1, none⟩ = some s2 ∧ N + 1 < w'.heap.size ∧ Below W.heap.size W w'
theorem RTwo.next {W : World} {N : Nat} {d1 d2 : Bool} {s1 s2 : Value} {w' w'' : World} (h : RTwo W N d1 d2 s1 s2 w') (hb : Below w'.heap.size w' w'') : RTwo W N d1 d2 s1 s2 w'' := by
  obtain ⟨h1, h2, h3, h4, h5, h6⟩ := h
  exact ⟨(hb.cell (p := ⟨N, 0, none⟩) (show N < _ by omega)).trans h1, (hb.cell (p := ⟨N, 1, none⟩) (show N < _ by omega)).trans h2, (hb.cell (p := ⟨N + 1, 0, none⟩) h5).trans h3, (hb.cell (p := ⟨N + 1, 1, none⟩) h5).trans h4, Nat.lt_of_lt_of_le h5 hb.size, h6.trans (hb.mono h6.size)⟩

theorem limbs_len_mono {a b : Nat} (h : a ≤ b) : (limbs a).length ≤ (limbs b).length := by
  rw [Bn.limbs_length_le]
  exact Nat.lt_of_le_of_lt h ((Bn.limbs_length_le b _).1 (Nat.le_refl _))
/-- made, of a size that has just been written. -/
theorem made_size (neg : Bool) (N : Nat) (z : Int) (v : Value) (w : World) (h : SizeAt w v N) (hz : sg neg N = z) :
    Calls Tryd.prog 38 #[.bool neg, v] w fun e w' => ∃ r, e = .returned r ∧ RefAt w' r z ∧ Below w.heap.size w w' := by
  obtain ⟨l, hI, hd, hv⟩ := h
  have := refMade_any neg l v w hI hd
  rw [hv, hz] at this; exact this
theorem SizeAt.form {w : World} {v : Value} {N : Nat} (h : SizeAt w v N) : ∃ p n c, v = .slice p n c := by
  obtain ⟨l, hI, _, _⟩ := h
  obtain ⟨p, c, hv, _⟩ := hI.form
  exact ⟨p, _, c, hv⟩

end Go.Proofs.YtangepgiamhenaaDoor
