/-
  Put together: PfDel, PfSay.
-/
import Derived.Test.YtibbnijicdijnaaGreatDoorJ29
import Derived.Test.YtibbnijicdijnaaGreatDoorJ33
import Derived.Test.YtibbnijicdijnaaGreatDoorPfRd5
import Derived.Test.YtibbnijicdijnaaGreatDoorPfGl
namespace Go.Proofs.YtibbnijicdijnaaGreatDoor
open Go.RowKit

theorem lst_len {rd : List UInt8 → Ls → Ls} (hr : ∀ x s, (rd x s).1 = s.1) : ∀ (n : Nat) (s : Ls), (lstP rd n s).1.length ≤ s.1.length
  | 0, _ => Nat.zero_le _
  | n + 1, s => by
    unfold lstP
    split
    · rename_i hk
      have h1 := lst_len hr n (rd (takeP s).1.1 (takeP s).2)
      rw [hr] at h1
      have h2 := (take_less hk).1
      simp only [List.length_cons]
      omega
    · exact Nat.zero_le _
theorem ids_len (s : Ls) : (idsP s).1.length ≤ s.1.length := lst_len (fun x s => whole_rest x 1 s) _ _
def idsV (l : List (List UInt8)) : List Value := l.map fun x => .string (txtOf x)
theorem idsV_one (l : List (List UInt8)) : ∀ u ∈ idsV l, u.oneCell' = true := fun u hu => by
  obtain ⟨x, _, rfl⟩ := List.mem_map.1 hu
  rfl

set_option maxRecDepth 10000 in
set_option maxHeartbeats 2000000 in
theorem del_any {B b q : Nat} {s : Ls} {cs : Array Value} (w : World) (h : LnAt w b s) (hst : StAt w q cs) (hB : B ≤ b) (hBq : B ≤ q) (hbq : q ≠ b) : Calls Tryz.prog 93 #[.pointer (some ⟨b, 0, none⟩), .pointer (some ⟨q, 0, none⟩)] w (RO B b q w (fun cs' w' => ∃ vi, cs' = cs.setIfInBounds 6 vi ∧ w'.ownsRow w.heap.size 9 1 vi (1 + (idsP (eqS s)).1.length) (idsV (eqY s :: (idsP (eqS s)).1))) (idsP (eqS s)).2) := by
  have hn := h.n
  have hql := hst.lt
  have hbl := h.lt
  have hBw : B ≤ w.heap.size := by omega
  have HN : Hid (∀ w' s', LnAt w' b s' → Calls Tryz.prog 108 #[.pointer (some ⟨b, 0, none⟩)] w' (LO B b (.string (txtOf (nextP s').1)) (nextP s').2 w')) := fun w' s' h' => next_any w' h' hB
  have HI : Hid (∀ w' s', LnAt w' b s' → Calls Tryz.prog 124 #[.pointer (some ⟨b, 0, none⟩), .string (txtOf (nextP s).1)] w' (LO B b (.string (txtOf (nextP s).1)) (wholeP (nextP s).1 1 s') w')) := fun w' s' h' => id_any _ w' h' hB (Nat.le_trans (next_le s) hn)
  have HD : Hid (∀ w' s', LnAt w' b s' → Calls Tryz.prog 123 #[.pointer (some ⟨b, 0, none⟩), .func (.func 124) #[.pointer (some ⟨b, 0, none⟩)] #[]] w' (LOr B b 9 (idsV (idsP s').1) (idsP s').2 w')) := fun w' s' h' => ids_any w' h' hB
  have hil : (idsP (eqS s)).1.length ≤ 1000000 := Nat.le_trans (ids_len _) (by unfold eqS; rw [whole_rest]; exact Nat.le_trans (next_rest s) hn)
  have HS : Hid (StAt w q cs) := hst
  have HL : Hid (LnAt w b s) := h
  clear h hst
  go_enter Tryz.func93, Tryz.ntmps93
  go_wp2_with fail
  refine calls_at (HN.out w _ HL.out) (by with_reducible rfl) (by with_reducible rfl) ?_
  rintro e w1 ⟨rfl, h1, h2⟩
  have H1 : Hid (LnAt w1 b (nextP s).2 ∧ SStp B (fun k => k = b) w w1) := ⟨h1, h2⟩
  clear h1 h2
  go_wp2_with fail
  refine calls_at (HI.out w1 _ H1.out.1) (by with_reducible rfl) (by with_reducible rfl) ?_
  rintro e w2 ⟨rfl, h1, h2⟩
  have H2 : Hid (LnAt w2 b (eqS s) ∧ SStp B (fun k => k = b) w w2) := ⟨h1, H1.out.2.trans h2⟩
  clear h1 h2
  obtain ⟨Y, hY⟩ : ∃ Y, w2.alloc (.cells #[.string (txtOf (nextP s).1)] 9) = Y := ⟨_, rfl⟩
  have hbY : Below w2.heap.size w2 Y := by rw [← hY]; exact (Below.refl _ _).alloc (Nat.le_refl _) _
  have HY : Hid (Y.ownsRow w.heap.size 9 1 (.slice (some ⟨w2.heap.size, 0, none⟩) 1 1) 1 (idsV [eqY s]) ∧ LnAt Y b (eqS s) ∧ SStp B (fun k => k = b) w Y) := ⟨by rw [← hY]; exact World.ownsRow_lit w2 #[.string (txtOf (nextP s).1)] 1 H2.out.2.off.size (by decide) rfl, H2.out.1.below hbY, H2.out.2.next hbY (Nat.le_trans hBw H2.out.2.off.size)⟩
  clear hbY
  go_wp2_with fail
  refine calls_at (HD.out Y _ HY.out.2.1) (by with_reducible rfl) (by with_reducible rfl) ?_
  rintro e w3 ⟨v, rfl, h0, h1, h2⟩
  have hlen : (idsV (idsP (eqS s)).1).length = (idsP (eqS s)).1.length := by unfold idsV; rw [List.length_map]
  rw [hlen] at h0
  have H3 : Hid (w3.ownsRow w.heap.size 9 1 (.slice (some ⟨w2.heap.size, 0, none⟩) 1 1) 1 (idsV [eqY s]) ∧ w3.ownsRow w.heap.size 9 1 v (idsP (eqS s)).1.length (idsV (idsP (eqS s)).1) ∧ LnAt w3 b (idsP (eqS s)).2 ∧ SStp B (fun k => k = b) w w3) := ⟨own_stp HY.out.1 h2 hbl, own_less h0 HY.out.2.2.off.size, h1, HY.out.2.2.trans h2⟩
  obtain ⟨va, vc, hvs⟩ := own_slice h0
  subst hvs
  clear h0 h1 h2 hlen hY
  obtain ⟨Z, hZ⟩ : ∃ Z, w3.alloc (.cells #[.slice (some ⟨w2.heap.size, 0, none⟩) 1 1, .slice va (idsP (eqS s)).1.length vc] 43) = Z := ⟨_, rfl⟩
  have hbZ : Below w3.heap.size w3 Z := by rw [← hZ]; exact (Below.refl _ _).alloc (Nat.le_refl _) _
  have HZ : Hid (Calls Tryz.prog 129 #[.slice (some ⟨w3.heap.size, 0, none⟩) 2 2] Z fun e w' => ∃ v, e = .returned v ∧ w'.ownsRow Z.heap.size 9 1 v (1 + (idsP (eqS s)).1.length) (idsV [eqY s] ++ idsV (idsP (eqS s)).1) ∧ Below Z.heap.size Z w') := concat_two Z (by rw [← hZ]; exact heap_alloc_new w3 _) (own_below H3.out.1 hbZ) (own_below H3.out.2.1 hbZ) (idsV_one _) (idsV_one _) (by decide) (by decide) hil
  have HZ2 : Hid (LnAt Z b (idsP (eqS s)).2 ∧ SStp B (fun k => k = b) w Z) := ⟨H3.out.2.2.1.below hbZ, H3.out.2.2.2.next hbZ (Nat.le_trans hBw H3.out.2.2.2.off.size)⟩
  clear hbZ
  go_wp2_with fail
  refine calls_at HZ.out (by with_reducible rfl) (by with_reducible rfl) ?_
  rintro e w4 ⟨v4, rfl, h0, h1⟩
  have hs4 : SStp B (fun k => k = b) w w4 := HZ2.out.2.next h1 (Nat.le_trans hBw HZ2.out.2.off.size)
  have hS4 := HS.out.stp hs4 hbq
  obtain ⟨u6, c6⟩ := hS4.cell 6 (by omega)
  have z6 := frozen_of hS4.o 6
  have HE : Hid (RO B b q w (fun cs' w' => ∃ vi, cs' = cs.setIfInBounds 6 vi ∧ w'.ownsRow w.heap.size 9 1 vi (1 + (idsP (eqS s)).1.length) (idsV (eqY s :: (idsP (eqS s)).1))) (idsP (eqS s)).2 (.returned (.tuple #[])) (w4.setCell ⟨q, 6, none⟩ v4)) := by
    obtain ⟨a1, a2, a3⟩ := rd_put hS4 (HZ2.out.1.below h1) (hs4.more fun _ hk => .inl hk) hBq hbq 6 v4
    exact ⟨rfl, _, a1, ⟨v4, rfl, own_box (own_less h0 HZ2.out.2.off.size) hql⟩, a2, a3⟩
  obtain ⟨wa, wc, hws⟩ := own_slice h0
  subst hws
  clear h0 h1 hs4 hS4
  go_wp2_with fail
  go_end0
  exact HE.out
end Go.Proofs.YtibbnijicdijnaaGreatDoor

namespace Go.Proofs.YtibbnijicdijnaaGreatDoor
open Go.RowKit

/-- A step. -/
structure SL where
  k : Int
  n : List UInt8
  ops : List OpL
  pcs : List PcL
  deg : List UInt8
  lits : List Int
  ids : List (List UInt8)
  ends : Int
  low : List UInt8
  high : List UInt8
def SL.zero : SL := ⟨0, [], [], [], [], [], [], 0, [], []⟩
/-- A step's cells. -/
def slC (d : SL) (vo vp vl vi : Value) : Array Value := #[.int .i64 d.k, .string (txtOf d.n), vo, vp, .string (txtOf d.deg), vl, vi, .int .i64 d.ends, .string (txtOf d.low), .string (txtOf d.high)]
structure SlOwn (B0 : Nat) (w : World) (d : SL) (vo vp vl vi : Value) : Prop where
  o : w.ownsRow B0 84 3 vo d.ops.length (opsC d.ops)
  p : w.ownsRow B0 82 2 vp d.pcs.length (pcsC d.pcs)
  l : w.ownsRow B0 3 1 vl d.lits.length (d.lits.map (.int .i64))
  i : w.ownsRow B0 9 1 vi d.ids.length (d.ids.map fun x => .string (txtOf x))
def Says (B0 : Nat) (w : World) (cs : Array Value) (d : SL) : Prop := ∃ vo vp vl vi, cs = slC d vo vp vl vi ∧ SlOwn B0 w d vo vp vl vi
def cs0 : Array Value := slC SL.zero (.slice none 0 0) (.slice none 0 0) (.slice none 0 0) (.slice none 0 0)
theorem own_z (B0 : Nat) (w : World) (t : TypeId) (m : Nat) : w.ownsRow B0 t m (.slice none 0 0) 0 [] := World.ownsRow_nil _ _ _ _
theorem says_zero (B0 : Nat) (w : World) : Says B0 w cs0 SL.zero := ⟨_, _, _, _, rfl, own_z _ _ _ _, own_z _ _ _ _, own_z _ _ _ _, own_z _ _ _ _⟩
/-- How a reader leaves the box. -/
def RdO (B b q : Nat) (g : SL × Ls) (w : World) (e : Ending) (w' : World) : Prop := RO B b q w (fun cs' w' => Says w.heap.size w' cs' g.1) g.2 e w'
def Leaf (f : FuncId) (g : Ls → SL × Ls) : Prop := ∀ (B b q : Nat) (s : Ls) (w : World), LnAt w b s → StAt w q cs0 → B ≤ b → B ≤ q → q ≠ b → Gl w → 12 ≤ B → Calls Tryz.prog f #[.pointer (some ⟨b, 0, none⟩), .pointer (some ⟨q, 0, none⟩)] w (RdO B b q (g s) w)
theorem ro_mono {B b q : Nat} {w : World} {Ps : Array Value → World → Prop} {s' : Ls} {d : SL} {f : FuncId} {args : Array Value} (h : Calls Tryz.prog f args w (RO B b q w Ps s')) (hp : ∀ cs' w', Ps cs' w' → Says w.heap.size w' cs' d) : Calls Tryz.prog f args w (RdO B b q (d, s') w) :=
  h.mono fun _ w' ⟨h1, cs', h2, h3, h4⟩ => ⟨h1, cs', h2, hp cs' w' h3, h4⟩
theorem leaf_nothing : Leaf 81 fun s => (SL.zero, s) := fun B _ _ _ w h hst _ _ _ _ _ => ro_mono (nothing_any (B := B) w h hst) fun _ _ e => by rw [e]; exact says_zero _ _
theorem leaf_remark : Leaf 95 fun s => (SL.zero, ([], s.2)) := fun _ _ _ _ w h hst hB _ hbq _ _ => ro_mono (remark_any w h hst hB hbq) fun _ _ e => by rw [e]; exact says_zero _ _
theorem leaf_size : Leaf 83 fun s => ({ SL.zero with n := (sizeP s).1 }, (sizeP s).2) := fun _ _ _ _ w h hst hB hBq hbq _ _ => ro_mono (size_any w h hst hB hBq hbq) fun _ _ e => by
  rw [e]
  exact ⟨_, _, _, _, rfl, own_z _ _ _ _, own_z _ _ _ _, own_z _ _ _ _, own_z _ _ _ _⟩
theorem leaf_ops : Leaf 85 fun s => ({ SL.zero with ops := (opsP s).1 }, (opsP s).2) := fun _ _ _ _ w h hst hB hBq hbq _ _ => (ops_any w h hst hB hBq hbq).mono fun _ _ ⟨h1, v, hp⟩ => ⟨h1, _, hp.st, ⟨v, _, _, _, rfl, hp.own, own_z _ _ _ _, own_z _ _ _ _, own_z _ _ _ _⟩, hp.ln, hp.stp⟩
theorem leaf_rup : Leaf 87 fun s => ({ SL.zero with pcs := (rowP s).1.1, deg := (rowP s).1.2, ids := (idsP (rowP s).2).1 }, (idsP (rowP s).2).2) := fun _ _ _ _ w h hst hB hBq hbq _ _ => ro_mono (rup_any w h hst hB hBq hbq) fun _ _ ⟨_, _, e, h1, h2⟩ => by
  rw [e]
  exact ⟨_, _, _, _, rfl, own_z _ _ _ _, h1, own_z _ _ _ _, h2⟩
theorem leaf_equal : Leaf 89 fun s => ({ SL.zero with pcs := (rowP (eqS s)).1.1, deg := (rowP (eqS s)).1.2, ids := [eqY s] }, (rowP (eqS s)).2) := fun _ _ _ _ w h hst hB hBq hbq _ _ => ro_mono (equal_any w h hst hB hBq hbq) fun _ _ ⟨_, _, e, h1, h2⟩ => by
  rw [e]
  exact ⟨_, _, _, _, rfl, own_z _ _ _ _, h1, own_z _ _ _ _, h2⟩
theorem leaf_lits : Leaf 91 fun s => ({ SL.zero with lits := (listP literalP s).1.map fun x => (litP x).1 }, (listP literalP s).2) := fun _ _ _ _ w h hst hB hBq hbq _ _ => ro_mono (rlits_any w h hst hB hBq hbq) fun _ w' ⟨_, e, h1⟩ => by
  rw [e]
  refine ⟨_, _, _, _, rfl, own_z _ _ _ _, own_z _ _ _ _, ?_, own_z _ _ _ _⟩
  show w'.ownsRow _ _ _ _ (List.length (List.map _ _)) _
  rw [List.length_map, List.map_map]
  exact h1
theorem leaf_del : Leaf 93 fun s => ({ SL.zero with ids := eqY s :: (idsP (eqS s)).1 }, (idsP (eqS s)).2) := fun _ _ _ s w h hst hB hBq hbq _ _ => ro_mono (del_any w h hst hB hBq hbq) fun _ w' ⟨_, e, h1⟩ => by
  rw [e]
  refine ⟨_, _, _, _, rfl, own_z _ _ _ _, own_z _ _ _ _, own_z _ _ _ _, ?_⟩
  show w'.ownsRow _ _ _ _ ((idsP (eqS s)).1.length + 1) _
  rw [Nat.add_comm]
  exact h1
def unsatP (s : Ls) : SL × Ls := if (takeP s).1.2 = true then ({ SL.zero with ids := [(leanP (takeP s).1.1 (takeP s).2).1] }, (leanP (takeP s).1.1 (takeP s).2).2) else (SL.zero, (takeP s).2)
theorem leaf_unsat : Leaf 153 unsatP := by
  intro B b q s w h hst hB hBq hbq _ _
  unfold unsatP
  cases hk : (takeP s).1.2 with
  | false => exact ro_mono (unsat_no w h hst hB hbq hk) fun _ _ e => by rw [e]; exact says_zero _ _
  | true =>
    refine ro_mono (unsat_yes w h hst hB hBq hbq hk) ?_
    rintro _ _ ⟨_, e, h1⟩
    rw [e]
    exact ⟨_, _, _, _, rfl, own_z _ _ _ _, own_z _ _ _ _, own_z _ _ _ _, h1⟩
theorem leaf_all : Leaf 157 fun s => ({ SL.zero with high := allY s, ids := [(allR s).1] }, (allR s).2) := fun _ _ _ _ w h hst hB hBq hbq _ _ => ro_mono (all_any w h hst hB hBq hbq) fun _ _ ⟨_, e, h1⟩ => by
  rw [e]
  exact ⟨_, _, _, _, rfl, own_z _ _ _ _, own_z _ _ _ _, own_z _ _ _ _, h1⟩
def boundsP (s : Ls) : SL × Ls := if bdX s = [58] then ({ SL.zero with low := (nextP s).1, ids := [(bdI s).1], high := (nextP (bdI s).2).1 }, bdS s) else ({ SL.zero with low := (nextP s).1, high := bdX s }, wholeP (bdX s) (-1) (bdB s))
theorem leaf_bounds : Leaf 155 boundsP := by
  intro B b q s w h hst hB hBq hbq _ _
  unfold boundsP
  split
  · rename_i hx
    refine ro_mono (bounds_yes w h hst hB hBq hbq hx) ?_
    rintro _ _ ⟨_, e, h1⟩
    rw [e]
    exact ⟨_, _, _, _, rfl, own_z _ _ _ _, own_z _ _ _ _, own_z _ _ _ _, h1⟩
  · rename_i hx
    refine ro_mono (bounds_no w h hst hB hBq hbq hx) ?_
    rintro _ _ e
    rw [e]
    exact ⟨_, _, _, _, rfl, own_z _ _ _ _, own_z _ _ _ _, own_z _ _ _ _, own_z _ _ _ _⟩
end Go.Proofs.YtibbnijicdijnaaGreatDoor
