/-
  Package proof: readers over a step's box: bounds.
-/
import Derived.Test.YtgckmkdmlaocmaaGreatDoorJ25
namespace Go.Proofs.YtgckmkdmlaocmaaGreatDoor
open Go.RowKit

/-- What is left behind the low bound; the word behind it. -/
def bdA (s : Ls) : Ls := wholeP (nextP s).1 (-1) (nextP s).2
def bdX (s : Ls) : List UInt8 := (nextP (bdA s)).1
def bdB (s : Ls) : Ls := (nextP (bdA s)).2
/-- With an id: what it leans on, and the high bound. -/
def bdI (s : Ls) : List UInt8 × Ls := leanP (bdX s) (bdB s)
def bdS (s : Ls) : Ls := wholeP (nextP (bdI s).2).1 (-1) (nextP (bdI s).2).2
theorem bdA_rest (s : Ls) : (bdA s).1.length ≤ s.1.length := by unfold bdA; rw [whole_rest]; exact next_rest s
theorem lean_len (x : List UInt8) (s : Ls) : (leanP x s).2.1.length ≤ s.1.length := by
  unfold leanP; simp only []; rw [whole_rest]; refine Nat.le_trans (next_rest _) ?_; rw [lean_rest]; exact Nat.le_refl _
theorem bdI_rest (s : Ls) : (bdI s).2.1.length ≤ s.1.length := by
  unfold bdI; exact Nat.le_trans (lean_len _ _) (Nat.le_trans (next_rest _) (bdA_rest s))

set_option maxRecDepth 10000 in
set_option maxHeartbeats 2000000 in
theorem bounds_no {B b q : Nat} {s : Ls} {cs : Array Value} (w : World) (h : LnAt w b s) (hst : StAt w q cs) (hB : B ≤ b) (hBq : B ≤ q) (hbq : q ≠ b) (hx : bdX s ≠ [58]) : Calls Tryz.prog 135 #[.pointer (some ⟨b, 0, none⟩), .pointer (some ⟨q, 0, none⟩)] w (RO B b q w (fun cs' _ => cs' = (cs.setIfInBounds 8 (.string (txtOf (nextP s).1))).setIfInBounds 9 (.string (txtOf (bdX s)))) (wholeP (bdX s) (-1) (bdB s))) := by
  have hn := h.n
  have HN : Hid (∀ w' s', LnAt w' b s' → Calls Tryz.prog 58 #[.pointer (some ⟨b, 0, none⟩)] w' (LO B b (.string (txtOf (nextP s').1)) (nextP s').2 w')) := fun w' s' h' => next_any w' h' hB
  have HC : Hid (∀ w' s' x, LnAt w' b s' → x.length ≤ 9000000 → Calls Tryz.prog 128 #[.pointer (some ⟨b, 0, none⟩), .string (txtOf x)] w' (LO B b (.string (txtOf x)) (wholeP x (-1) s') w')) := fun w' s' x h' hx => number_any x w' h' hB hx
  have HS : Hid (StAt w q cs) := hst
  have HL : Hid (LnAt w b s) := h
  have hq := txt_eq (nextP (bdA s)).1 [58]
  rw [decide_eq_false (show ¬ (nextP (bdA s)).1 = [58] from hx)] at hq
  have hyl : (nextP s).1.length ≤ 9000000 := Nat.le_trans (next_le s) hn
  have hxl : (nextP (bdA s)).1.length ≤ 9000000 := Nat.le_trans (next_le _) (Nat.le_trans (bdA_rest s) hn)
  clear h hst hx
  go_enter Tryz.func135, Tryz.ntmps135
  go_wp2_with fail
  refine calls_at (HN.out w _ HL.out) (by with_reducible rfl) (by with_reducible rfl) ?_
  rintro e w1 ⟨rfl, h1, h2⟩
  have H1 : Hid (LnAt w1 b (nextP s).2 ∧ SStp B (fun k => k = b) w w1) := ⟨h1, h2⟩
  clear h1 h2
  go_wp2_with fail
  refine calls_at (HC.out w1 _ _ H1.out.1 hyl) (by with_reducible rfl) (by with_reducible rfl) ?_
  rintro e w2 ⟨rfl, h1, h2⟩
  have hS2 := HS.out.stp (H1.out.2.trans h2) hbq
  obtain ⟨u8, c8⟩ := hS2.cell 8 (by omega)
  have z8 := frozen_of hS2.o 8
  have H2 : Hid (StAt (w2.setCell ⟨q, 8, none⟩ (.string (txtOf (nextP s).1))) q (cs.setIfInBounds 8 (.string (txtOf (nextP s).1))) ∧ LnAt (w2.setCell ⟨q, 8, none⟩ (.string (txtOf (nextP s).1))) b (bdA s) ∧ SStp B (fun k => k = b ∨ k = q) w (w2.setCell ⟨q, 8, none⟩ (.string (txtOf (nextP s).1)))) := rd_put hS2 h1 ((H1.out.2.trans h2).more fun _ hk => .inl hk) hBq hbq 8 _
  clear h1 h2 hS2
  go_wp2_with fail
  refine calls_at (HN.out _ _ H2.out.2.1) (by with_reducible rfl) (by with_reducible rfl) ?_
  rintro e w3 ⟨rfl, h1, h2⟩
  have H3 : Hid (StAt w3 q (cs.setIfInBounds 8 (.string (txtOf (nextP s).1))) ∧ LnAt w3 b (bdB s) ∧ SStp B (fun k => k = b ∨ k = q) w w3) := ⟨H2.out.1.stp h2 hbq, h1, H2.out.2.2.trans (h2.more fun _ hk => .inl hk)⟩
  clear h1 h2 c8 z8 H2
  go_wp2_with fail
  refine calls_at (HC.out w3 _ _ H3.out.2.1 hxl) (by with_reducible rfl) (by with_reducible rfl) ?_
  rintro e w4 ⟨rfl, h1, h2⟩
  have hS4 := H3.out.1.stp h2 hbq
  obtain ⟨u9, c9⟩ := hS4.cell 9 (by omega)
  have z9 := frozen_of hS4.o 9
  have HE : Hid (RO B b q w (fun cs' _ => cs' = (cs.setIfInBounds 8 (.string (txtOf (nextP s).1))).setIfInBounds 9 (.string (txtOf (bdX s)))) (wholeP (bdX s) (-1) (bdB s)) (.returned (.tuple #[])) (w4.setCell ⟨q, 9, none⟩ (.string (txtOf (nextP (bdA s)).1)))) := by
    obtain ⟨a1, a2, a3⟩ := rd_put hS4 h1 (H3.out.2.2.trans (h2.more fun _ hk => .inl hk)) hBq hbq 9 (.string (txtOf (nextP (bdA s)).1))
    exact ⟨rfl, _, a1, rfl, a2, a3⟩
  clear hS4 h1 h2
  go_wp2_with fail
  go_end0
  exact HE.out

set_option maxRecDepth 10000 in
set_option maxHeartbeats 2000000 in
theorem bounds_yes {B b q : Nat} {s : Ls} {cs : Array Value} (w : World) (h : LnAt w b s) (hst : StAt w q cs) (hB : B ≤ b) (hBq : B ≤ q) (hbq : q ≠ b) (hx : bdX s = [58]) : Calls Tryz.prog 135 #[.pointer (some ⟨b, 0, none⟩), .pointer (some ⟨q, 0, none⟩)] w (RO B b q w (fun cs' w' => ∃ vi, cs' = ((cs.setIfInBounds 8 (.string (txtOf (nextP s).1))).setIfInBounds 6 vi).setIfInBounds 9 (.string (txtOf (nextP (bdI s).2).1)) ∧ w'.ownsRow w.heap.size 9 1 vi 1 [.string (txtOf (bdI s).1)]) (bdS s)) := by
  have hn := h.n
  have hql := hst.lt
  have hbl := h.lt
  have HN : Hid (∀ w' s', LnAt w' b s' → Calls Tryz.prog 58 #[.pointer (some ⟨b, 0, none⟩)] w' (LO B b (.string (txtOf (nextP s').1)) (nextP s').2 w')) := fun w' s' h' => next_any w' h' hB
  have HC : Hid (∀ w' s' x, LnAt w' b s' → x.length ≤ 9000000 → Calls Tryz.prog 128 #[.pointer (some ⟨b, 0, none⟩), .string (txtOf x)] w' (LO B b (.string (txtOf x)) (wholeP x (-1) s') w')) := fun w' s' x h' hx => number_any x w' h' hB hx
  have HLn : Hid (∀ w' s' x, LnAt w' b s' → Calls Tryz.prog 152 #[.pointer (some ⟨b, 0, none⟩), .string (txtOf x)] w' (LOr B b 9 [.string (txtOf (leanP x s').1)] (leanP x s').2 w')) := fun w' s' x h' => lean_any x w' h' hB
  have HS : Hid (StAt w q cs) := hst
  have HL : Hid (LnAt w b s) := h
  have hq := txt_eq (nextP (bdA s)).1 [58]
  rw [decide_eq_true (show (nextP (bdA s)).1 = [58] from hx)] at hq
  have hyl : (nextP s).1.length ≤ 9000000 := Nat.le_trans (next_le s) hn
  have hxl : (nextP (bdI s).2).1.length ≤ 9000000 := Nat.le_trans (next_le _) (Nat.le_trans (bdI_rest s) hn)
  clear h hst hx
  go_enter Tryz.func135, Tryz.ntmps135
  go_wp2_with fail
  refine calls_at (HN.out w _ HL.out) (by with_reducible rfl) (by with_reducible rfl) ?_
  rintro e w1 ⟨rfl, h1, h2⟩
  have H1 : Hid (LnAt w1 b (nextP s).2 ∧ SStp B (fun k => k = b) w w1) := ⟨h1, h2⟩
  clear h1 h2
  go_wp2_with fail
  refine calls_at (HC.out w1 _ _ H1.out.1 hyl) (by with_reducible rfl) (by with_reducible rfl) ?_
  rintro e w2 ⟨rfl, h1, h2⟩
  have hS2 := HS.out.stp (H1.out.2.trans h2) hbq
  obtain ⟨u8, c8⟩ := hS2.cell 8 (by omega)
  have z8 := frozen_of hS2.o 8
  have H2 : Hid (StAt (w2.setCell ⟨q, 8, none⟩ (.string (txtOf (nextP s).1))) q (cs.setIfInBounds 8 (.string (txtOf (nextP s).1))) ∧ LnAt (w2.setCell ⟨q, 8, none⟩ (.string (txtOf (nextP s).1))) b (bdA s) ∧ SStp B (fun k => k = b ∨ k = q) w (w2.setCell ⟨q, 8, none⟩ (.string (txtOf (nextP s).1)))) := rd_put hS2 h1 ((H1.out.2.trans h2).more fun _ hk => .inl hk) hBq hbq 8 _
  clear h1 h2 hS2
  go_wp2_with fail
  refine calls_at (HN.out _ _ H2.out.2.1) (by with_reducible rfl) (by with_reducible rfl) ?_
  rintro e w3 ⟨rfl, h1, h2⟩
  have H3 : Hid (StAt w3 q (cs.setIfInBounds 8 (.string (txtOf (nextP s).1))) ∧ LnAt w3 b (bdB s) ∧ SStp B (fun k => k = b ∨ k = q) w w3) := ⟨H2.out.1.stp h2 hbq, h1, H2.out.2.2.trans (h2.more fun _ hk => .inl hk)⟩
  clear h1 h2 c8 z8 H2
  go_wp2_with fail
  refine calls_at (HLn.out w3 _ (nextP (bdA s)).1 H3.out.2.1) (by with_reducible rfl) (by with_reducible rfl) ?_
  rintro e w4 ⟨v, rfl, h0, h1, h2⟩
  rw [show ∀ u : Value, [u].length = 1 from fun _ => rfl] at h0
  have hS4 := H3.out.1.stp h2 hbq
  obtain ⟨u6, c6⟩ := hS4.cell 6 (by omega)
  have z6 := frozen_of hS4.o 6
  have h0' := own_less h0 H3.out.2.2.off.size
  have H4 : Hid ((StAt (w4.setCell ⟨q, 6, none⟩ v) q ((cs.setIfInBounds 8 (.string (txtOf (nextP s).1))).setIfInBounds 6 v) ∧ LnAt (w4.setCell ⟨q, 6, none⟩ v) b (bdI s).2 ∧ SStp B (fun k => k = b ∨ k = q) w (w4.setCell ⟨q, 6, none⟩ v)) ∧ (w4.setCell ⟨q, 6, none⟩ v).ownsRow w.heap.size 9 1 v 1 [.string (txtOf (bdI s).1)]) := ⟨rd_put hS4 h1 (H3.out.2.2.trans (h2.more fun _ hk => .inl hk)) hBq hbq 6 v, own_box h0' hql⟩
  obtain ⟨va, vc, hvs⟩ := own_slice h0
  subst hvs
  clear hS4 h0 h0' h1 h2
  go_wp2_with fail
  refine calls_at (HN.out _ _ H4.out.1.2.1) (by with_reducible rfl) (by with_reducible rfl) ?_
  rintro e w5 ⟨rfl, h1, h2⟩
  have H5 : Hid ((StAt w5 q _ ∧ LnAt w5 b (nextP (bdI s).2).2 ∧ SStp B (fun k => k = b ∨ k = q) w w5) ∧ w5.ownsRow w.heap.size 9 1 _ 1 [.string (txtOf (bdI s).1)]) := ⟨⟨H4.out.1.1.stp h2 hbq, h1, H4.out.1.2.2.trans (h2.more fun _ hk => .inl hk)⟩, own_stp H4.out.2 h2 hbl⟩
  clear h1 h2 c6 z6 H4
  go_wp2_with fail
  refine calls_at (HC.out w5 _ _ H5.out.1.2.1 hxl) (by with_reducible rfl) (by with_reducible rfl) ?_
  rintro e w6 ⟨rfl, h1, h2⟩
  have hS6 := H5.out.1.1.stp h2 hbq
  obtain ⟨u9, c9⟩ := hS6.cell 9 (by omega)
  have z9 := frozen_of hS6.o 9
  have HE : Hid (RO B b q w (fun cs' w' => ∃ vi, cs' = ((cs.setIfInBounds 8 (.string (txtOf (nextP s).1))).setIfInBounds 6 vi).setIfInBounds 9 (.string (txtOf (nextP (bdI s).2).1)) ∧ w'.ownsRow w.heap.size 9 1 vi 1 [.string (txtOf (bdI s).1)]) (bdS s) (.returned (.tuple #[])) (w6.setCell ⟨q, 9, none⟩ (.string (txtOf (nextP (bdI s).2).1)))) := by
    obtain ⟨a1, a2, a3⟩ := rd_put hS6 h1 (H5.out.1.2.2.trans (h2.more fun _ hk => .inl hk)) hBq hbq 9 (.string (txtOf (nextP (bdI s).2).1))
    exact ⟨rfl, _, a1, ⟨_, rfl, own_box (own_stp H5.out.2 h2 hbl) hql⟩, a2, a3⟩
  clear hS6 h1 h2
  go_wp2_with fail
  go_end0
  exact HE.out
end Go.Proofs.YtgckmkdmlaocmaaGreatDoor
