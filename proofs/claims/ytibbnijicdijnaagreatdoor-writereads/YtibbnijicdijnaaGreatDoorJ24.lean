/-
  Put together: PfRd2, PfRd3, PfRd4, PfRd5.
-/
import Derived.Test.YtibbnijicdijnaaGreatDoorPfRd
import Derived.Test.YtibbnijicdijnaaGreatDoorJ22
namespace Go.Proofs.YtibbnijicdijnaaGreatDoor
open Go.RowKit

theorem own_box {w : World} {q C i : Nat} {t : TypeId} {size n : Nat} {v u : Value} {xs : List Value} (h : w.ownsRow C t size v n xs) (hq : q < C) : (w.setCell ⟨q, i, none⟩ u).ownsRow C t size v n xs :=
  own_keep h fun g hg => heap_setCell_other _ _ _ _ (by have := (h.lt g hg).1; show g ≠ q; omega)
/-- A row and ids in a step's box. -/
def RwIds (B0 : Nat) (cs : Array Value) (r : List PcL × List UInt8) (ids : List (List UInt8)) (cs' : Array Value) (w' : World) : Prop := ∃ vr vi, cs' = ((cs.setIfInBounds 3 vr).setIfInBounds 4 (.string (txtOf r.2))).setIfInBounds 6 vi ∧ w'.ownsRow B0 82 2 vr r.1.length (pcsC r.1) ∧ w'.ownsRow B0 9 1 vi ids.length (ids.map fun x => .string (txtOf x))
def idsP (s : Ls) : List (List UInt8) × Ls := listP (fun x s => wholeP x 1 s) s
theorem rw_ids {B b q : Nat} {s : Ls} {cs : Array Value} {w w2 : World} {r : List PcL × List UInt8} {ids : List (List UInt8)} {vr vi : Value} (hst : StAt w2 q cs) (hl : LnAt w2 b s) (hs : SStp B (fun k => k = b) w w2) (hBq : B ≤ q) (hbq : q ≠ b) (hq : q < w.heap.size) (h1 : w2.ownsRow w.heap.size 82 2 vr r.1.length (pcsC r.1)) (h2 : w2.ownsRow w.heap.size 9 1 vi ids.length (ids.map fun x => .string (txtOf x))) : RO B b q w (RwIds w.heap.size cs r ids) s (.returned (.tuple #[])) (((w2.setCell ⟨q, 3, none⟩ vr).setCell ⟨q, 4, none⟩ (.string (txtOf r.2))).setCell ⟨q, 6, none⟩ vi) := by
  obtain ⟨a1, a2, a3⟩ := rd_put hst hl (hs.more fun _ hk => .inl hk) hBq hbq 3 vr
  obtain ⟨b1, b2, b3⟩ := rd_put a1 a2 a3 hBq hbq 4 (.string (txtOf r.2))
  obtain ⟨c1, c2, c3⟩ := rd_put b1 b2 b3 hBq hbq 6 vi
  exact ⟨rfl, _, c1, ⟨vr, vi, rfl, own_box (own_box (own_box h1 hq) hq) hq, own_box (own_box (own_box h2 hq) hq) hq⟩, c2, c3⟩

set_option maxRecDepth 10000 in
set_option maxHeartbeats 2000000 in
theorem rup_any {B b q : Nat} {s : Ls} {cs : Array Value} (w : World) (h : LnAt w b s) (hst : StAt w q cs) (hB : B ≤ b) (hBq : B ≤ q) (hbq : q ≠ b) : Calls Tryz.prog 87 #[.pointer (some ⟨b, 0, none⟩), .pointer (some ⟨q, 0, none⟩)] w (RO B b q w (RwIds w.heap.size cs (rowP s).1 (idsP (rowP s).2).1) (idsP (rowP s).2).2) := by
  have hql := hst.lt
  have hbl := h.lt
  have HN : Hid (Calls Tryz.prog 122 #[.pointer (some ⟨b, 0, none⟩)] w (RwOut B b w (rowP s))) := row_any w h hB
  have HI : Hid (∀ w' s', LnAt w' b s' → Calls Tryz.prog 123 #[.pointer (some ⟨b, 0, none⟩), .func (.func 124) #[.pointer (some ⟨b, 0, none⟩)] #[]] w' (LOr B b 9 ((idsP s').1.map fun x => .string (txtOf x)) (idsP s').2 w')) := fun w' s' h' => ids_any w' h' hB
  have HS : Hid (StAt w q cs) := hst
  obtain ⟨r, hr⟩ : ∃ r, rowP s = r := ⟨_, rfl⟩
  rw [hr] at HN ⊢
  clear h hst hr
  go_enter Tryz.func87, Tryz.ntmps87
  go_wp2_with fail
  refine calls_at HN.out (by with_reducible rfl) (by with_reducible rfl) ?_
  rintro e w1 ⟨vr, rfl, h0, h1, h2⟩
  have H1 : Hid (w1.ownsRow w.heap.size 82 2 vr r.1.1.length (pcsC r.1.1) ∧ LnAt w1 b r.2 ∧ SStp B (fun k => k = b) w w1) := ⟨h0, h1, h2⟩
  obtain ⟨va, vc, hvs⟩ := own_slice h0
  subst hvs
  clear h0 h1 h2
  go_wp2_with fail
  refine calls_at (HI.out w1 _ H1.out.2.1) (by with_reducible rfl) (by with_reducible rfl) ?_
  rintro e w2 ⟨vi, rfl, h0, h1, h2⟩
  rw [List.length_map] at h0
  have hst2 := (HS.out.stp H1.out.2.2 hbq).stp h2 hbq
  have HE := rw_ids (r := r.1) hst2 h1 (H1.out.2.2.trans h2) hBq hbq hql (own_stp H1.out.1 h2 hbl) (own_less h0 H1.out.2.2.off.size)
  obtain ⟨ua, uc, hus⟩ := own_slice h0
  subst hus
  obtain ⟨x3, c3⟩ := hst2.cell 3 (by omega)
  obtain ⟨x4, c4⟩ := hst2.cell 4 (by omega)
  obtain ⟨x6, c6⟩ := hst2.cell 6 (by omega)
  have z := frozen_of hst2.o
  have HE2 : Hid (RO B b q w (RwIds w.heap.size cs r.1 (idsP r.2).1) (idsP r.2).2 (.returned (.tuple #[])) (((w2.setCell ⟨q, 3, none⟩ (.slice va r.1.1.length vc)).setCell ⟨q, 4, none⟩ (.string (txtOf r.1.2))).setCell ⟨q, 6, none⟩ (.slice ua (idsP r.2).1.length uc))) := HE
  clear h0 h1 h2 hst2 HE
  go_wp2_with fail
  go_end0
  exact HE2.out
end Go.Proofs.YtibbnijicdijnaaGreatDoor

namespace Go.Proofs.YtibbnijicdijnaaGreatDoor
open Go.RowKit

theorem rw_ids2 {B b q : Nat} {s : Ls} {cs : Array Value} {w w2 : World} {r : List PcL × List UInt8} {ids : List (List UInt8)} {vr vi : Value} (hst : StAt w2 q cs) (hl : LnAt w2 b s) (hs : SStp B (fun k => k = b) w w2) (hBq : B ≤ q) (hbq : q ≠ b) (hq : q < w.heap.size) (h1 : w2.ownsRow w.heap.size 82 2 vr r.1.length (pcsC r.1)) (h2 : w2.ownsRow w.heap.size 9 1 vi ids.length (ids.map fun x => .string (txtOf x))) : RO B b q w (RwIds w.heap.size cs r ids) s (.returned (.tuple #[])) (((w2.setCell ⟨q, 6, none⟩ vi).setCell ⟨q, 3, none⟩ vr).setCell ⟨q, 4, none⟩ (.string (txtOf r.2))) := by
  obtain ⟨a1, a2, a3⟩ := rd_put hst hl (hs.more fun _ hk => .inl hk) hBq hbq 6 vi
  obtain ⟨b1, b2, b3⟩ := rd_put a1 a2 a3 hBq hbq 3 vr
  obtain ⟨c1, c2, c3⟩ := rd_put b1 b2 b3 hBq hbq 4 (.string (txtOf r.2))
  refine ⟨rfl, _, c1, ⟨vr, vi, ?_, own_box (own_box (own_box h1 hq) hq) hq, own_box (own_box (own_box h2 hq) hq) hq⟩, c2, c3⟩
  rw [Array.setIfInBounds_comm (i := 6) (j := 3) vi vr (by decide), Array.setIfInBounds_comm (i := 6) (j := 4) vi _ (by decide)]
def eqY (s : Ls) : List UInt8 := (nextP s).1
def eqS (s : Ls) : Ls := wholeP (nextP s).1 1 (nextP s).2
theorem eqY_le (s : Ls) : (eqY s).length ≤ s.1.length := next_le s
set_option maxRecDepth 10000 in
set_option maxHeartbeats 2000000 in
theorem equal_any {B b q : Nat} {s : Ls} {cs : Array Value} (w : World) (h : LnAt w b s) (hst : StAt w q cs) (hB : B ≤ b) (hBq : B ≤ q) (hbq : q ≠ b) : Calls Tryz.prog 89 #[.pointer (some ⟨b, 0, none⟩), .pointer (some ⟨q, 0, none⟩)] w (RO B b q w (RwIds w.heap.size cs (rowP (eqS s)).1 [eqY s]) (rowP (eqS s)).2) := by
  have hn := h.n
  have hql := hst.lt
  have hbl := h.lt
  have hBw : B ≤ w.heap.size := by omega
  have HN : Hid (∀ w' s', LnAt w' b s' → Calls Tryz.prog 108 #[.pointer (some ⟨b, 0, none⟩)] w' (LO B b (.string (txtOf (nextP s').1)) (nextP s').2 w')) := fun w' s' h' => next_any w' h' hB
  have HS : Hid (StAt w q cs) := hst
  have HL : Hid (LnAt w b s) := h
  have HI : Hid (∀ w' s', LnAt w' b s' → Calls Tryz.prog 124 #[.pointer (some ⟨b, 0, none⟩), .string (txtOf (nextP s).1)] w' (LO B b (.string (txtOf (nextP s).1)) (wholeP (nextP s).1 1 s') w')) := fun w' s' h' => id_any _ w' h' hB (Nat.le_trans (eqY_le s) hn)
  have HR : Hid (∀ w' s', LnAt w' b s' → Calls Tryz.prog 122 #[.pointer (some ⟨b, 0, none⟩)] w' (RwOut B b w' (rowP s'))) := fun w' s' h' => row_any w' h' hB
  clear h hst
  go_enter Tryz.func89, Tryz.ntmps89
  go_wp2_with fail
  refine calls_at (HN.out w _ HL.out) (by with_reducible rfl) (by with_reducible rfl) ?_
  rintro e w1 ⟨rfl, h1, h2⟩
  have H1 : Hid (LnAt w1 b (nextP s).2 ∧ SStp B (fun k => k = b) w w1) := ⟨h1, h2⟩
  clear h1 h2
  go_wp2_with fail
  refine calls_at (HI.out w1 _ H1.out.1) (by with_reducible rfl) (by with_reducible rfl) ?_
  rintro e w2 ⟨rfl, h1, h2⟩
  have H2 : Hid (LnAt w2 b (eqS s) ∧ SStp B (fun k => k = b) w w2) := ⟨h1, H1.out.2.trans h2⟩
  clear h1 h2
  go_wp2_with fail
  obtain ⟨Y, hY⟩ : ∃ Y, w2.alloc (.cells #[.string (txtOf (nextP s).1)] 9) = Y := ⟨_, rfl⟩
  have hbY : Below w2.heap.size w2 Y := by rw [← hY]; exact (Below.refl _ _).alloc (Nat.le_refl _) _
  have HY : Hid (Y.ownsRow w.heap.size 9 1 (.slice (some ⟨w2.heap.size, 0, none⟩) 1 1) 1 [.string (txtOf (nextP s).1)] ∧ LnAt Y b (eqS s) ∧ SStp B (fun k => k = b) w Y) := ⟨by rw [← hY]; exact World.ownsRow_lit w2 #[.string (txtOf (nextP s).1)] 1 H2.out.2.off.size (by decide) rfl, H2.out.1.below hbY, H2.out.2.next hbY (Nat.le_trans hBw H2.out.2.off.size)⟩
  clear hbY
  try rw [hY]
  clear hY
  go_wp2_with fail
  refine calls_at (HR.out Y _ HY.out.2.1) (by with_reducible rfl) (by with_reducible rfl) ?_
  rintro e w3 ⟨vr, rfl, h0, h1, h2⟩
  have hst2 := (HS.out.stp HY.out.2.2 hbq).stp h2 hbq
  have HE := rw_ids2 (r := (rowP (eqS s)).1) (ids := [eqY s]) hst2 h1 (HY.out.2.2.trans h2) hBq hbq hql (own_less h0 HY.out.2.2.off.size) (own_stp HY.out.1 h2 hbl)
  obtain ⟨va, vc, hvs⟩ := own_slice h0
  subst hvs
  obtain ⟨x3, c3⟩ := hst2.cell 3 (by omega)
  obtain ⟨x4, c4⟩ := hst2.cell 4 (by omega)
  obtain ⟨x6, c6⟩ := hst2.cell 6 (by omega)
  have z := frozen_of hst2.o
  have HE2 : Hid (RO B b q w (RwIds w.heap.size cs (rowP (eqS s)).1 [eqY s]) (rowP (eqS s)).2 (.returned (.tuple #[])) (((w3.setCell ⟨q, 6, none⟩ (.slice (some ⟨w2.heap.size, 0, none⟩) 1 1)).setCell ⟨q, 3, none⟩ (.slice va (rowP (eqS s)).1.1.length vc)).setCell ⟨q, 4, none⟩ (.string (txtOf (rowP (eqS s)).1.2)))) := by
    exact HE
  clear h0 h1 h2 hst2 HE
  go_wp2_with fail
  go_end0
  exact HE2.out
end Go.Proofs.YtibbnijicdijnaaGreatDoor

namespace Go.Proofs.YtibbnijicdijnaaGreatDoor
open Go.RowKit

/-- One id in a step's box. -/
def IdAt (B0 : Nat) (cs : Array Value) (y : List UInt8) (cs' : Array Value) (w' : World) : Prop := ∃ vi, cs' = cs.setIfInBounds 6 vi ∧ w'.ownsRow B0 9 1 vi 1 [.string (txtOf y)]
theorem take_len (s : Ls) : (takeP s).1.1.length ≤ s.1.length ∧ (takeP s).2.1.length ≤ s.1.length := by
  cases hk : (takeP s).1.2 with
  | true => exact ⟨(take_less hk).2, Nat.le_of_lt (take_less hk).1⟩
  | false =>
    refine ⟨by rw [take_none hk]; simp, ?_⟩
    unfold takeP at hk ⊢
    split
    · exact Nat.le_refl _
    · rename_i h1; rw [if_neg h1] at hk; cases hk

set_option maxRecDepth 10000 in
set_option maxHeartbeats 2000000 in
theorem unsat_no {B b q : Nat} {s : Ls} {cs : Array Value} (w : World) (h : LnAt w b s) (hst : StAt w q cs) (hB : B ≤ b) (hbq : q ≠ b) (hk : (takeP s).1.2 = false) : Calls Tryz.prog 153 #[.pointer (some ⟨b, 0, none⟩), .pointer (some ⟨q, 0, none⟩)] w (RO B b q w (fun cs' _ => cs' = cs) (takeP s).2) := by
  have HT : Hid (Calls Tryz.prog 113 #[.pointer (some ⟨b, 0, none⟩)] w (LO B b (.tuple #[.string (txtOf (takeP s).1.1), .bool false]) (takeP s).2 w)) := by have := take_any w h hB; rw [hk] at this; exact this
  have HS : Hid (StAt w q cs) := hst
  clear h hst hk
  go_enter Tryz.func153, Tryz.ntmps153
  go_wp2_with fail
  refine calls_at HT.out (by with_reducible rfl) (by with_reducible rfl) ?_
  rintro e w1 ⟨rfl, h1, h2⟩
  have HE : Hid (RO B b q w (fun cs' _ => cs' = cs) (takeP s).2 (.returned (.tuple #[])) w1) := ⟨rfl, cs, HS.out.stp h2 hbq, rfl, h1, h2.more fun _ hk => .inl hk⟩
  clear h1 h2
  go_wp2_with fail
  go_end0
  exact HE.out

set_option maxRecDepth 10000 in
set_option maxHeartbeats 2000000 in
theorem unsat_yes {B b q : Nat} {s : Ls} {cs : Array Value} (w : World) (h : LnAt w b s) (hst : StAt w q cs) (hB : B ≤ b) (hBq : B ≤ q) (hbq : q ≠ b) (hk : (takeP s).1.2 = true) : Calls Tryz.prog 153 #[.pointer (some ⟨b, 0, none⟩), .pointer (some ⟨q, 0, none⟩)] w (RO B b q w (IdAt w.heap.size cs (leanP (takeP s).1.1 (takeP s).2).1) (leanP (takeP s).1.1 (takeP s).2).2) := by
  have hql := hst.lt
  have HT : Hid (Calls Tryz.prog 113 #[.pointer (some ⟨b, 0, none⟩)] w (LO B b (.tuple #[.string (txtOf (takeP s).1.1), .bool true]) (takeP s).2 w)) := by have := take_any w h hB; rw [hk] at this; exact this
  have HN : Hid (∀ w' s', LnAt w' b s' → Calls Tryz.prog 175 #[.pointer (some ⟨b, 0, none⟩), .string (txtOf (takeP s).1.1)] w' (LOr B b 9 [.string (txtOf (leanP (takeP s).1.1 s').1)] (leanP (takeP s).1.1 s').2 w')) := fun w' s' h' => lean_any _ w' h' hB
  have HS : Hid (StAt w q cs) := hst
  clear h hst hk
  go_enter Tryz.func153, Tryz.ntmps153
  go_wp2_with fail
  refine calls_at HT.out (by with_reducible rfl) (by with_reducible rfl) ?_
  rintro e w1 ⟨rfl, h1, h2⟩
  have H1 : Hid (LnAt w1 b (takeP s).2 ∧ SStp B (fun k => k = b) w w1) := ⟨h1, h2⟩
  clear h1 h2
  go_wp2_with fail
  refine calls_at (HN.out w1 _ H1.out.1) (by with_reducible rfl) (by with_reducible rfl) ?_
  rintro e w2 ⟨v, rfl, h0, h1, h2⟩
  have hS2 := HS.out.stp (H1.out.2.trans h2) hbq
  obtain ⟨u, c6⟩ := hS2.cell 6 (by omega)
  have z6 := frozen_of hS2.o 6
  have h0' := own_less h0 H1.out.2.off.size
  have HE : Hid (RO B b q w (IdAt w.heap.size cs (leanP (takeP s).1.1 (takeP s).2).1) (leanP (takeP s).1.1 (takeP s).2).2 (.returned (.tuple #[])) (w2.setCell ⟨q, 6, none⟩ v)) := by
    obtain ⟨a1, a2, a3⟩ := rd_put hS2 h1 ((H1.out.2.trans h2).more fun _ hk => .inl hk) hBq hbq 6 v
    exact ⟨rfl, _, a1, ⟨v, rfl, own_box h0' hql⟩, a2, a3⟩
  obtain ⟨va, vc, hvs⟩ := own_slice h0
  subst hvs
  clear hS2 h0 h0' h1 h2
  go_wp2_with fail
  go_end0
  exact HE.out

def allY (s : Ls) : List UInt8 := (nextP s).1
def allS (s : Ls) : Ls := wholeP (nextP s).1 0 (nextP s).2
def allR (s : Ls) : List UInt8 × Ls := leanP (nextP (allS s)).1 (nextP (allS s)).2
theorem all_put {B b q : Nat} {s : Ls} {cs : Array Value} {w w2 : World} {y z : List UInt8} {vi : Value} (hst : StAt w2 q cs) (hl : LnAt w2 b s) (hs : SStp B (fun k => k = b) w w2) (hBq : B ≤ q) (hbq : q ≠ b) (hq : q < w.heap.size) (h2 : w2.ownsRow w.heap.size 9 1 vi 1 [.string (txtOf z)]) : RO B b q w (IdAt w.heap.size (cs.setIfInBounds 9 (.string (txtOf y))) z) s (.returned (.tuple #[])) ((w2.setCell ⟨q, 9, none⟩ (.string (txtOf y))).setCell ⟨q, 6, none⟩ vi) := by
  obtain ⟨a1, a2, a3⟩ := rd_put hst hl (hs.more fun _ hk => .inl hk) hBq hbq 9 (.string (txtOf y))
  obtain ⟨b1, b2, b3⟩ := rd_put a1 a2 a3 hBq hbq 6 vi
  exact ⟨rfl, _, b1, ⟨vi, rfl, own_box (own_box h2 hq) hq⟩, b2, b3⟩

set_option maxRecDepth 10000 in
set_option maxHeartbeats 2000000 in
theorem all_any {B b q : Nat} {s : Ls} {cs : Array Value} (w : World) (h : LnAt w b s) (hst : StAt w q cs) (hB : B ≤ b) (hBq : B ≤ q) (hbq : q ≠ b) : Calls Tryz.prog 157 #[.pointer (some ⟨b, 0, none⟩), .pointer (some ⟨q, 0, none⟩)] w (RO B b q w (IdAt w.heap.size (cs.setIfInBounds 9 (.string (txtOf (allY s)))) (allR s).1) (allR s).2) := by
  have hn := h.n
  have hql := hst.lt
  have HN : Hid (∀ w' s', LnAt w' b s' → Calls Tryz.prog 108 #[.pointer (some ⟨b, 0, none⟩)] w' (LO B b (.string (txtOf (nextP s').1)) (nextP s').2 w')) := fun w' s' h' => next_any w' h' hB
  have HC : Hid (∀ w' s', LnAt w' b s' → Calls Tryz.prog 119 #[.pointer (some ⟨b, 0, none⟩), .string (txtOf (nextP s).1)] w' (LO B b (.string (txtOf (nextP s).1)) (wholeP (nextP s).1 0 s') w')) := fun w' s' h' => count_any _ w' h' hB (Nat.le_trans (next_le s) hn)
  have HLn : Hid (∀ w' s' x, LnAt w' b s' → Calls Tryz.prog 175 #[.pointer (some ⟨b, 0, none⟩), .string (txtOf x)] w' (LOr B b 9 [.string (txtOf (leanP x s').1)] (leanP x s').2 w')) := fun w' s' x h' => lean_any x w' h' hB
  have HS : Hid (StAt w q cs) := hst
  have HL : Hid (LnAt w b s) := h
  clear h hst
  go_enter Tryz.func157, Tryz.ntmps157
  go_wp2_with fail
  refine calls_at (HN.out w _ HL.out) (by with_reducible rfl) (by with_reducible rfl) ?_
  rintro e w1 ⟨rfl, h1, h2⟩
  have H1 : Hid (LnAt w1 b (nextP s).2 ∧ SStp B (fun k => k = b) w w1) := ⟨h1, h2⟩
  clear h1 h2
  go_wp2_with fail
  refine calls_at (HC.out w1 _ H1.out.1) (by with_reducible rfl) (by with_reducible rfl) ?_
  rintro e w2 ⟨rfl, h1, h2⟩
  have H2 : Hid (LnAt w2 b (allS s) ∧ SStp B (fun k => k = b) w w2) := ⟨h1, H1.out.2.trans h2⟩
  clear h1 h2
  go_wp2_with fail
  refine calls_at (HN.out w2 _ H2.out.1) (by with_reducible rfl) (by with_reducible rfl) ?_
  rintro e w3 ⟨rfl, h1, h2⟩
  have H3 : Hid (LnAt w3 b (nextP (allS s)).2 ∧ SStp B (fun k => k = b) w w3) := ⟨h1, H2.out.2.trans h2⟩
  clear h1 h2
  go_wp2_with fail
  refine calls_at (HLn.out w3 _ (nextP (allS s)).1 H3.out.1) (by with_reducible rfl) (by with_reducible rfl) ?_
  rintro e w4 ⟨v, rfl, h0, h1, h2⟩
  have hS2 := HS.out.stp (H3.out.2.trans h2) hbq
  obtain ⟨u6, c6⟩ := hS2.cell 6 (by omega)
  obtain ⟨u9, c9⟩ := hS2.cell 9 (by omega)
  have z6 := frozen_of hS2.o
  have HE : Hid (RO B b q w (IdAt w.heap.size (cs.setIfInBounds 9 (.string (txtOf (allY s)))) (allR s).1) (allR s).2 (.returned (.tuple #[])) ((w4.setCell ⟨q, 9, none⟩ (.string (txtOf (nextP s).1))).setCell ⟨q, 6, none⟩ v)) := all_put (y := allY s) hS2 h1 (H3.out.2.trans h2) hBq hbq hql (own_less h0 H3.out.2.off.size)
  obtain ⟨va, vc, hvs⟩ := own_slice h0
  subst hvs
  clear hS2 h0 h1 h2
  go_wp2_with fail
  go_end0
  exact HE.out
end Go.Proofs.YtibbnijicdijnaaGreatDoor

namespace Go.Proofs.YtibbnijicdijnaaGreatDoor
open Go.RowKit

/-- What is left behind the low bound; the word behind it. -/
def bdA (s : Ls) : Ls := wholeP (nextP s).1 (-1) (nextP s).2
def bdX (s : Ls) : List UInt8 := (nextP (bdA s)).1
def bdB (s : Ls) : Ls := (nextP (bdA s)).2
/-- With an id: what it leans on, and the high bound. -/
def bdI (s : Ls) : List UInt8 × Ls := leanP (bdX s) (bdB s)
def bdS (s : Ls) : Ls := wholeP (nextP (bdI s).2).1 (-1) (nextP (bdI s).2).2
theorem bdA_rest (s : Ls) : (bdA s).1.length ≤ s.1.length := by unfold bdA; rw [whole_rest]; exact next_rest s
theorem lean_len (x : List UInt8) (s : Ls) : (leanP x s).2.1.length ≤ s.1.length := by
  unfold leanP; simp only []; rw [whole_rest]; refine Nat.le_trans (next_rest _) ?_; rw [lean_rest]; exact Nat.le_refl _
theorem bdI_rest (s : Ls) : (bdI s).2.1.length ≤ s.1.length := by
  unfold bdI; exact Nat.le_trans (lean_len _ _) (Nat.le_trans (next_rest _) (bdA_rest s))

set_option maxRecDepth 10000 in
set_option maxHeartbeats 2000000 in
theorem bounds_no {B b q : Nat} {s : Ls} {cs : Array Value} (w : World) (h : LnAt w b s) (hst : StAt w q cs) (hB : B ≤ b) (hBq : B ≤ q) (hbq : q ≠ b) (hx : bdX s ≠ [58]) : Calls Tryz.prog 155 #[.pointer (some ⟨b, 0, none⟩), .pointer (some ⟨q, 0, none⟩)] w (RO B b q w (fun cs' _ => cs' = (cs.setIfInBounds 8 (.string (txtOf (nextP s).1))).setIfInBounds 9 (.string (txtOf (bdX s)))) (wholeP (bdX s) (-1) (bdB s))) := by
  have hn := h.n
  have HN : Hid (∀ w' s', LnAt w' b s' → Calls Tryz.prog 108 #[.pointer (some ⟨b, 0, none⟩)] w' (LO B b (.string (txtOf (nextP s').1)) (nextP s').2 w')) := fun w' s' h' => next_any w' h' hB
  have HC : Hid (∀ w' s' x, LnAt w' b s' → x.length ≤ 9000000 → Calls Tryz.prog 149 #[.pointer (some ⟨b, 0, none⟩), .string (txtOf x)] w' (LO B b (.string (txtOf x)) (wholeP x (-1) s') w')) := fun w' s' x h' hx => number_any x w' h' hB hx
  have HS : Hid (StAt w q cs) := hst
  have HL : Hid (LnAt w b s) := h
  have hq := txt_eq (nextP (bdA s)).1 [58]
  rw [decide_eq_false (show ¬ (nextP (bdA s)).1 = [58] from hx)] at hq
  have hyl : (nextP s).1.length ≤ 9000000 := Nat.le_trans (next_le s) hn
  have hxl : (nextP (bdA s)).1.length ≤ 9000000 := Nat.le_trans (next_le _) (Nat.le_trans (bdA_rest s) hn)
  clear h hst hx
  go_enter Tryz.func155, Tryz.ntmps155
  go_wp2_with fail
  refine calls_at (HN.out w _ HL.out) (by with_reducible rfl) (by with_reducible rfl) ?_
  rintro e w1 ⟨rfl, h1, h2⟩
  have H1 : Hid (LnAt w1 b (nextP s).2 ∧ SStp B (fun k => k = b) w w1) := ⟨h1, h2⟩
  clear h1 h2
  go_wp2_with fail
  refine calls_at (HC.out w1 _ _ H1.out.1 hyl) (by with_reducible rfl) (by with_reducible rfl) ?_
  rintro e w2 ⟨rfl, h1, h2⟩
  have hS2 := HS.out.stp (H1.out.2.trans h2) hbq
  obtain ⟨u8, c8⟩ := hS2.cell 8 (by omega)
  have z8 := frozen_of hS2.o 8
  have H2 : Hid (StAt (w2.setCell ⟨q, 8, none⟩ (.string (txtOf (nextP s).1))) q (cs.setIfInBounds 8 (.string (txtOf (nextP s).1))) ∧ LnAt (w2.setCell ⟨q, 8, none⟩ (.string (txtOf (nextP s).1))) b (bdA s) ∧ SStp B (fun k => k = b ∨ k = q) w (w2.setCell ⟨q, 8, none⟩ (.string (txtOf (nextP s).1)))) := rd_put hS2 h1 ((H1.out.2.trans h2).more fun _ hk => .inl hk) hBq hbq 8 _
  clear h1 h2 hS2
  go_wp2_with fail
  refine calls_at (HN.out _ _ H2.out.2.1) (by with_reducible rfl) (by with_reducible rfl) ?_
  rintro e w3 ⟨rfl, h1, h2⟩
  have H3 : Hid (StAt w3 q (cs.setIfInBounds 8 (.string (txtOf (nextP s).1))) ∧ LnAt w3 b (bdB s) ∧ SStp B (fun k => k = b ∨ k = q) w w3) := ⟨H2.out.1.stp h2 hbq, h1, H2.out.2.2.trans (h2.more fun _ hk => .inl hk)⟩
  clear h1 h2 c8 z8 H2
  go_wp2_with fail
  refine calls_at (HC.out w3 _ _ H3.out.2.1 hxl) (by with_reducible rfl) (by with_reducible rfl) ?_
  rintro e w4 ⟨rfl, h1, h2⟩
  have hS4 := H3.out.1.stp h2 hbq
  obtain ⟨u9, c9⟩ := hS4.cell 9 (by omega)
  have z9 := frozen_of hS4.o 9
  have HE : Hid (RO B b q w (fun cs' _ => cs' = (cs.setIfInBounds 8 (.string (txtOf (nextP s).1))).setIfInBounds 9 (.string (txtOf (bdX s)))) (wholeP (bdX s) (-1) (bdB s)) (.returned (.tuple #[])) (w4.setCell ⟨q, 9, none⟩ (.string (txtOf (nextP (bdA s)).1)))) := by
    obtain ⟨a1, a2, a3⟩ := rd_put hS4 h1 (H3.out.2.2.trans (h2.more fun _ hk => .inl hk)) hBq hbq 9 (.string (txtOf (nextP (bdA s)).1))
    exact ⟨rfl, _, a1, rfl, a2, a3⟩
  clear hS4 h1 h2
  go_wp2_with fail
  go_end0
  exact HE.out

set_option maxRecDepth 10000 in
set_option maxHeartbeats 2000000 in
theorem bounds_yes {B b q : Nat} {s : Ls} {cs : Array Value} (w : World) (h : LnAt w b s) (hst : StAt w q cs) (hB : B ≤ b) (hBq : B ≤ q) (hbq : q ≠ b) (hx : bdX s = [58]) : Calls Tryz.prog 155 #[.pointer (some ⟨b, 0, none⟩), .pointer (some ⟨q, 0, none⟩)] w (RO B b q w (fun cs' w' => ∃ vi, cs' = ((cs.setIfInBounds 8 (.string (txtOf (nextP s).1))).setIfInBounds 6 vi).setIfInBounds 9 (.string (txtOf (nextP (bdI s).2).1)) ∧ w'.ownsRow w.heap.size 9 1 vi 1 [.string (txtOf (bdI s).1)]) (bdS s)) := by
  have hn := h.n
  have hql := hst.lt
  have hbl := h.lt
  have HN : Hid (∀ w' s', LnAt w' b s' → Calls Tryz.prog 108 #[.pointer (some ⟨b, 0, none⟩)] w' (LO B b (.string (txtOf (nextP s').1)) (nextP s').2 w')) := fun w' s' h' => next_any w' h' hB
  have HC : Hid (∀ w' s' x, LnAt w' b s' → x.length ≤ 9000000 → Calls Tryz.prog 149 #[.pointer (some ⟨b, 0, none⟩), .string (txtOf x)] w' (LO B b (.string (txtOf x)) (wholeP x (-1) s') w')) := fun w' s' x h' hx => number_any x w' h' hB hx
  have HLn : Hid (∀ w' s' x, LnAt w' b s' → Calls Tryz.prog 175 #[.pointer (some ⟨b, 0, none⟩), .string (txtOf x)] w' (LOr B b 9 [.string (txtOf (leanP x s').1)] (leanP x s').2 w')) := fun w' s' x h' => lean_any x w' h' hB
  have HS : Hid (StAt w q cs) := hst
  have HL : Hid (LnAt w b s) := h
  have hq := txt_eq (nextP (bdA s)).1 [58]
  rw [decide_eq_true (show (nextP (bdA s)).1 = [58] from hx)] at hq
  have hyl : (nextP s).1.length ≤ 9000000 := Nat.le_trans (next_le s) hn
  have hxl : (nextP (bdI s).2).1.length ≤ 9000000 := Nat.le_trans (next_le _) (Nat.le_trans (bdI_rest s) hn)
  clear h hst hx
  go_enter Tryz.func155, Tryz.ntmps155
  go_wp2_with fail
  refine calls_at (HN.out w _ HL.out) (by with_reducible rfl) (by with_reducible rfl) ?_
  rintro e w1 ⟨rfl, h1, h2⟩
  have H1 : Hid (LnAt w1 b (nextP s).2 ∧ SStp B (fun k => k = b) w w1) := ⟨h1, h2⟩
  clear h1 h2
  go_wp2_with fail
  refine calls_at (HC.out w1 _ _ H1.out.1 hyl) (by with_reducible rfl) (by with_reducible rfl) ?_
  rintro e w2 ⟨rfl, h1, h2⟩
  have hS2 := HS.out.stp (H1.out.2.trans h2) hbq
  obtain ⟨u8, c8⟩ := hS2.cell 8 (by omega)
  have z8 := frozen_of hS2.o 8
  have H2 : Hid (StAt (w2.setCell ⟨q, 8, none⟩ (.string (txtOf (nextP s).1))) q (cs.setIfInBounds 8 (.string (txtOf (nextP s).1))) ∧ LnAt (w2.setCell ⟨q, 8, none⟩ (.string (txtOf (nextP s).1))) b (bdA s) ∧ SStp B (fun k => k = b ∨ k = q) w (w2.setCell ⟨q, 8, none⟩ (.string (txtOf (nextP s).1)))) := rd_put hS2 h1 ((H1.out.2.trans h2).more fun _ hk => .inl hk) hBq hbq 8 _
  clear h1 h2 hS2
  go_wp2_with fail
  refine calls_at (HN.out _ _ H2.out.2.1) (by with_reducible rfl) (by with_reducible rfl) ?_
  rintro e w3 ⟨rfl, h1, h2⟩
  have H3 : Hid (StAt w3 q (cs.setIfInBounds 8 (.string (txtOf (nextP s).1))) ∧ LnAt w3 b (bdB s) ∧ SStp B (fun k => k = b ∨ k = q) w w3) := ⟨H2.out.1.stp h2 hbq, h1, H2.out.2.2.trans (h2.more fun _ hk => .inl hk)⟩
  clear h1 h2 c8 z8 H2
  go_wp2_with fail
  refine calls_at (HLn.out w3 _ (nextP (bdA s)).1 H3.out.2.1) (by with_reducible rfl) (by with_reducible rfl) ?_
  rintro e w4 ⟨v, rfl, h0, h1, h2⟩
  rw [show ∀ u : Value, [u].length = 1 from fun _ => rfl] at h0
  have hS4 := H3.out.1.stp h2 hbq
  obtain ⟨u6, c6⟩ := hS4.cell 6 (by omega)
  have z6 := frozen_of hS4.o 6
  have h0' := own_less h0 H3.out.2.2.off.size
  have H4 : Hid ((StAt (w4.setCell ⟨q, 6, none⟩ v) q ((cs.setIfInBounds 8 (.string (txtOf (nextP s).1))).setIfInBounds 6 v) ∧ LnAt (w4.setCell ⟨q, 6, none⟩ v) b (bdI s).2 ∧ SStp B (fun k => k = b ∨ k = q) w (w4.setCell ⟨q, 6, none⟩ v)) ∧ (w4.setCell ⟨q, 6, none⟩ v).ownsRow w.heap.size 9 1 v 1 [.string (txtOf (bdI s).1)]) := ⟨rd_put hS4 h1 (H3.out.2.2.trans (h2.more fun _ hk => .inl hk)) hBq hbq 6 v, own_box h0' hql⟩
  obtain ⟨va, vc, hvs⟩ := own_slice h0
  subst hvs
  clear hS4 h0 h0' h1 h2
  go_wp2_with fail
  refine calls_at (HN.out _ _ H4.out.1.2.1) (by with_reducible rfl) (by with_reducible rfl) ?_
  rintro e w5 ⟨rfl, h1, h2⟩
  have H5 : Hid ((StAt w5 q _ ∧ LnAt w5 b (nextP (bdI s).2).2 ∧ SStp B (fun k => k = b ∨ k = q) w w5) ∧ w5.ownsRow w.heap.size 9 1 _ 1 [.string (txtOf (bdI s).1)]) := ⟨⟨H4.out.1.1.stp h2 hbq, h1, H4.out.1.2.2.trans (h2.more fun _ hk => .inl hk)⟩, own_stp H4.out.2 h2 hbl⟩
  clear h1 h2 c6 z6 H4
  go_wp2_with fail
  refine calls_at (HC.out w5 _ _ H5.out.1.2.1 hxl) (by with_reducible rfl) (by with_reducible rfl) ?_
  rintro e w6 ⟨rfl, h1, h2⟩
  have hS6 := H5.out.1.1.stp h2 hbq
  obtain ⟨u9, c9⟩ := hS6.cell 9 (by omega)
  have z9 := frozen_of hS6.o 9
  have HE : Hid (RO B b q w (fun cs' w' => ∃ vi, cs' = ((cs.setIfInBounds 8 (.string (txtOf (nextP s).1))).setIfInBounds 6 vi).setIfInBounds 9 (.string (txtOf (nextP (bdI s).2).1)) ∧ w'.ownsRow w.heap.size 9 1 vi 1 [.string (txtOf (bdI s).1)]) (bdS s) (.returned (.tuple #[])) (w6.setCell ⟨q, 9, none⟩ (.string (txtOf (nextP (bdI s).2).1)))) := by
    obtain ⟨a1, a2, a3⟩ := rd_put hS6 h1 (H5.out.1.2.2.trans (h2.more fun _ hk => .inl hk)) hBq hbq 9 (.string (txtOf (nextP (bdI s).2).1))
    exact ⟨rfl, _, a1, ⟨_, rfl, own_box (own_stp H5.out.2 h2 hbl) hql⟩, a2, a3⟩
  clear hS6 h1 h2
  go_wp2_with fail
  go_end0
  exact HE.out
end Go.Proofs.YtibbnijicdijnaaGreatDoor
