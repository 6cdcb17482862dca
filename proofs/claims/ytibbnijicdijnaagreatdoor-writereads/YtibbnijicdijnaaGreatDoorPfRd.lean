/-
  Package proof: readers over a step's box: size, lits, remark, nothing.
-/
import Derived.Test.YtibbnijicdijnaaGreatDoorJ21
namespace Go.Proofs.YtibbnijicdijnaaGreatDoor
open Go.RowKit

/-- How a reader ends: the box, the line, what is changed. -/
def RO (B b q : Nat) (w : World) (Ps : Array Value → World → Prop) (s' : Ls) (e : Ending) (w' : World) : Prop := e = .returned (.tuple #[]) ∧ ∃ cs', StAt w' q cs' ∧ Ps cs' w' ∧ LnAt w' b s' ∧ SStp B (fun k => k = b ∨ k = q) w w'
/-- A cell of the box is written behind calls that changed the line alone. -/
theorem rd_put {B b q : Nat} {s : Ls} {cs : Array Value} {w w2 : World} (hst : StAt w2 q cs) (hl : LnAt w2 b s) (hs : SStp B (fun k => k = b ∨ k = q) w w2) (hBq : B ≤ q) (hbq : q ≠ b) (i : Nat) (v : Value) : StAt (w2.setCell ⟨q, i, none⟩ v) q (cs.setIfInBounds i v) ∧ LnAt (w2.setCell ⟨q, i, none⟩ v) b s ∧ SStp B (fun k => k = b ∨ k = q) w (w2.setCell ⟨q, i, none⟩ v) :=
  ⟨hst.put i v, ⟨(heap_setCell_other _ _ _ _ (Ne.symm hbq)).trans hl.o, hl.n⟩, hs.below.setCell hBq _, hs.off.trans (Off.set _ (.inr rfl))⟩
def sizeP (s : Ls) : List UInt8 × Ls := ((nextP s).1, wholeP (nextP s).1 0 (nextP s).2)

set_option maxRecDepth 10000 in
set_option maxHeartbeats 2000000 in
theorem size_any {B b q : Nat} {s : Ls} {cs : Array Value} (w : World) (h : LnAt w b s) (hst : StAt w q cs) (hB : B ≤ b) (hBq : B ≤ q) (hbq : q ≠ b) : Calls Tryz.prog 83 #[.pointer (some ⟨b, 0, none⟩), .pointer (some ⟨q, 0, none⟩)] w (RO B b q w (fun cs' _ => cs' = cs.setIfInBounds 1 (.string (txtOf (sizeP s).1))) (sizeP s).2) := by
  have hn := h.n
  unfold sizeP
  obtain ⟨y, hy⟩ : ∃ y, (nextP s).1 = y := ⟨_, rfl⟩
  have hyl : y.length ≤ 9000000 := by rw [← hy]; exact Nat.le_trans (next_le s) hn
  have HN : Hid (Calls Tryz.prog 108 #[.pointer (some ⟨b, 0, none⟩)] w (LO B b (.string (txtOf y)) (nextP s).2 w)) := by have := next_any w h hB; rw [hy] at this; exact this
  have HI : Hid (∀ w' s', LnAt w' b s' → Calls Tryz.prog 119 #[.pointer (some ⟨b, 0, none⟩), .string (txtOf y)] w' (LO B b (.string (txtOf y)) (wholeP y 0 s') w')) := fun w' s' h' => count_any y w' h' hB hyl
  have HS : Hid (StAt w q cs) := hst
  rw [hy]
  clear h hst hy
  go_enter Tryz.func83, Tryz.ntmps83
  go_wp2_with fail
  refine calls_at HN.out (by with_reducible rfl) (by with_reducible rfl) ?_
  rintro e w1 ⟨rfl, h1, h2⟩
  have H1 : Hid (LnAt w1 b (nextP s).2 ∧ SStp B (fun k => k = b) w w1) := ⟨h1, h2⟩
  clear h1 h2
  go_wp2_with fail
  refine calls_at (HI.out w1 _ H1.out.1) (by with_reducible rfl) (by with_reducible rfl) ?_
  rintro e w2 ⟨rfl, h3, h4⟩
  have H2 : Hid (LnAt w2 b (wholeP y 0 (nextP s).2) ∧ SStp B (fun k => k = b) w w2) := ⟨h3, H1.out.2.trans h4⟩
  clear h3 h4
  have hS2 := HS.out.stp H2.out.2 hbq
  obtain ⟨u, c1⟩ := hS2.cell 1 (by omega)
  have z1 := frozen_of hS2.o 1
  have HE : Hid (StAt (w2.setCell ⟨q, 1, none⟩ (.string (txtOf y))) q (cs.setIfInBounds 1 (.string (txtOf y))) ∧ LnAt (w2.setCell ⟨q, 1, none⟩ (.string (txtOf y))) b (wholeP y 0 (nextP s).2) ∧ SStp B (fun k => k = b ∨ k = q) w (w2.setCell ⟨q, 1, none⟩ (.string (txtOf y)))) := rd_put hS2 H2.out.1 (H2.out.2.more fun _ hk => .inl hk) hBq hbq 1 _
  clear hS2
  go_wp2_with fail
  go_end0
  exact ⟨rfl, _, HE.out.1, rfl, HE.out.2.1, HE.out.2.2⟩

set_option maxRecDepth 10000 in
set_option maxHeartbeats 2000000 in
theorem rlits_any {B b q : Nat} {s : Ls} {cs : Array Value} (w : World) (h : LnAt w b s) (hst : StAt w q cs) (hB : B ≤ b) (hBq : B ≤ q) (hbq : q ≠ b) : Calls Tryz.prog 91 #[.pointer (some ⟨b, 0, none⟩), .pointer (some ⟨q, 0, none⟩)] w (RO B b q w (fun cs' w' => ∃ v, cs' = cs.setIfInBounds 5 v ∧ w'.ownsRow w.heap.size 3 1 v (listP literalP s).1.length ((listP literalP s).1.map fun x => .int .i64 (litP x).1)) (listP literalP s).2) := by
  have hql := hst.lt
  have HN : Hid (Calls Tryz.prog 126 #[.pointer (some ⟨b, 0, none⟩), .func (.func 127) #[.pointer (some ⟨b, 0, none⟩)] #[]] w (LOr B b 3 ((listP literalP s).1.map fun x => .int .i64 (litP x).1) (listP literalP s).2 w)) := lits_any w h hB
  have HS : Hid (StAt w q cs) := hst
  obtain ⟨r, hr⟩ : ∃ r, listP literalP s = r := ⟨_, rfl⟩
  rw [hr] at HN ⊢
  clear h hst hr
  go_enter Tryz.func91, Tryz.ntmps91
  go_wp2_with fail
  refine calls_at HN.out (by with_reducible rfl) (by with_reducible rfl) ?_
  rintro e w1 ⟨v, rfl, h0, h1, h2⟩
  rw [List.length_map] at h0
  have hS2 := HS.out.stp h2 hbq
  obtain ⟨u, c1⟩ := hS2.cell 5 (by omega)
  have z1 := frozen_of hS2.o 5
  have HE : Hid ((StAt (w1.setCell ⟨q, 5, none⟩ v) q (cs.setIfInBounds 5 v) ∧ LnAt (w1.setCell ⟨q, 5, none⟩ v) b r.2 ∧ SStp B (fun k => k = b ∨ k = q) w (w1.setCell ⟨q, 5, none⟩ v)) ∧ (w1.setCell ⟨q, 5, none⟩ v).ownsRow w.heap.size 3 1 v r.1.length (r.1.map fun x => .int .i64 (litP x).1)) := ⟨rd_put hS2 h1 (h2.more fun _ hk => .inl hk) hBq hbq 5 _, by
    exact own_keep h0 fun g hg => heap_setCell_other _ _ _ _ (by have := (h0.lt g hg).1; show g ≠ q; omega)⟩
  obtain ⟨va, vc, hvs⟩ := own_slice h0
  subst hvs
  clear hS2 h0 h1 h2
  go_wp2_with fail
  go_end0
  exact ⟨rfl, _, HE.out.1.1, ⟨_, rfl, HE.out.2⟩, HE.out.1.2.1, HE.out.1.2.2⟩

set_option maxHeartbeats 1000000 in
theorem remark_any {B b q : Nat} {s : Ls} {cs : Array Value} (w : World) (h : LnAt w b s) (hst : StAt w q cs) (hB : B ≤ b) (hbq : q ≠ b) : Calls Tryz.prog 95 #[.pointer (some ⟨b, 0, none⟩), .pointer (some ⟨q, 0, none⟩)] w (RO B b q w (fun cs' _ => cs' = cs) ([], s.2)) := by
  have c0 : w.cell? ⟨b, 0, none⟩ = some (.string (txtOf s.1)) := cell_of h.o 0
  have z0 := frozen_of h.o 0
  have HE : Hid (RO B b q w (fun cs' _ => cs' = cs) ([], s.2) (.returned (.tuple #[])) (w.setCell ⟨b, 0, none⟩ (.string ⟨#[]⟩))) := ⟨rfl, cs, hst.same (heap_setCell_other _ _ _ _ hbq), rfl, h.put0 [] (by simp), (Below.refl _ _).setCell hB _, Off.set _ (.inl rfl)⟩
  clear h hst
  go_enter Tryz.func95, Tryz.ntmps95
  go_wp2_with fail
  go_end0
  exact HE.out

set_option maxHeartbeats 1000000 in
theorem nothing_any {B b q : Nat} {s : Ls} {cs : Array Value} (w : World) (h : LnAt w b s) (hst : StAt w q cs) : Calls Tryz.prog 81 #[.pointer (some ⟨b, 0, none⟩), .pointer (some ⟨q, 0, none⟩)] w (RO B b q w (fun cs' _ => cs' = cs) s) := by
  have HE : Hid (RO B b q w (fun cs' _ => cs' = cs) s (.returned (.tuple #[])) w) := ⟨rfl, cs, hst, rfl, h, SStp.refl _ _ _⟩
  clear h hst
  go_enter Tryz.func81, Tryz.ntmps81
  go_wp2_with fail
  go_end0
  exact HE.out
end Go.Proofs.YtibbnijicdijnaaGreatDoor
