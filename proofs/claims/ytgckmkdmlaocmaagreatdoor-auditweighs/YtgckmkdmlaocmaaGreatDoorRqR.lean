/-
  The document's reader: a row.
-/
import Derived.Test.YtgckmkdmlaocmaaGreatDoorJ28
import Derived.Test.YtgckmkdmlaocmaaGreatDoorJ25
namespace Go.Proofs.YtgckmkdmlaocmaaGreatDoor
open Go.RowKit

theorem failR_ne {e : Int} {s : RS} (he : e ≠ 0) : (failR e s).2 ≠ 0 := by
  unfold failR
  split
  · exact he
  · assumption
theorem failR_len (e : Int) (s : RS) : (failR e s).1 = s.1 := by unfold failR; split <;> rfl
theorem takeR_len1 (s : RS) : (takeR s).2.1.length ≤ s.1.length ∧ ((takeR s).2.2 = 0 → s.2 = 0 ∧ (takeR s).2.1.length + 1 = s.1.length ∧ (takeR s).1.2 = true) := by
  unfold takeR
  split
  · rename_i h
    split
    · rename_i h2
      rw [h2]
      exact ⟨Nat.le_refl _, fun e => by cases e⟩
    · rename_i x L h2
      rw [h2]
      exact ⟨by simp, fun _ => ⟨h, by simp, rfl⟩⟩
  · rename_i h
    exact ⟨Nat.le_refl _, fun e => absurd e h⟩
theorem numR_len (g : Int) (s : RS) : (numR g s).2.1.length ≤ s.1.length ∧ ((numR g s).2.2 = 0 → s.2 = 0 ∧ (numR g s).2.1.length + 1 = s.1.length) := by
  have h := takeR_len1 s
  unfold numR
  split
  · split
    · exact ⟨by rw [failR_len]; exact h.1, fun e => absurd e (failR_ne (by decide))⟩
    · exact ⟨h.1, fun e => ⟨(h.2 e).1, (h.2 e).2.1⟩⟩
  · exact ⟨h.1, fun e => ⟨(h.2 e).1, (h.2 e).2.1⟩⟩
theorem lirR_len (s : RS) : (lirR s).2.1.length ≤ s.1.length ∧ ((lirR s).2.2 = 0 → s.2 = 0 ∧ (lirR s).2.1.length + 1 = s.1.length) := by
  have h := takeR_len1 s
  unfold lirR
  split
  · dsimp only
    split
    · exact ⟨by rw [failR_len]; exact h.1, fun e => absurd e (failR_ne (by decide))⟩
    · exact ⟨h.1, fun e => ⟨(h.2 e).1, (h.2 e).2.1⟩⟩
  · exact ⟨h.1, fun e => ⟨(h.2 e).1, (h.2 e).2.1⟩⟩
theorem oneR_len (x : List UInt8) (s : RS) : (oneR x s).1.length ≤ s.1.length ∧ ((oneR x s).2 = 0 → s.2 = 0 ∧ (oneR x s).1.length + 1 = s.1.length) := by
  have h := takeR_len1 s
  unfold oneR
  split
  · exact ⟨by rw [failR_len]; exact h.1, fun e => absurd e (failR_ne (by decide))⟩
  · exact ⟨h.1, fun e => ⟨(h.2 e).1, (h.2 e).2.1⟩⟩
def lrowR : Nat → List PcL → RS → List PcL × RS
  | 0, P, s => (P, s)
  | n + 1, P, s => if s.2 = 0 ∧ isR [62, 61] s = false then lrowR n (P ++ [((numR (-1) s).1, (lirR (numR (-1) s).2).1)]) (lirR (numR (-1) s).2).2 else (P, s)
def rowR (s : RS) : (List PcL × List UInt8) × RS := (((lrowR (s.1.length + 2) [] s).1, (numR (-1) (oneR [62, 61] (lrowR (s.1.length + 2) [] s).2)).1), oneR [59] (numR (-1) (oneR [62, 61] (lrowR (s.1.length + 2) [] s).2)).2)
def QwM (g n0 : Nat) (acc : List PcL) (s : RS) (all : List PcL × RS) : Prop := 1 ≤ g ∧ (s.2 = 0 → s.1.length + 2 ≤ g ∧ acc.length + s.1.length ≤ n0) ∧ acc.length ≤ n0 + 1 ∧ all = lrowR g acc s
theorem qwm_stop {g n0 : Nat} {acc : List PcL} {s : RS} {all : List PcL × RS} (h : QwM g n0 acc s all) (hs : ¬ (s.2 = 0 ∧ isR [62, 61] s = false)) : all = (acc, s) := by
  obtain ⟨h1, _, _, h2⟩ := h
  obtain ⟨g', rfl⟩ : ∃ g', g = g' + 1 := ⟨g - 1, by omega⟩
  rw [h2]
  unfold lrowR
  rw [if_neg hs]
theorem qwm_next {g n0 : Nat} {acc : List PcL} {s : RS} {all : List PcL × RS} (h : QwM (g + 1) n0 acc s all) (hs : s.2 = 0 ∧ isR [62, 61] s = false) : QwM g n0 (acc ++ [((numR (-1) s).1, (lirR (numR (-1) s).2).1)]) (lirR (numR (-1) s).2).2 all := by
  obtain ⟨h1, h2, h3, h4⟩ := h
  have h5 := h2 hs.1
  refine ⟨by omega, fun e => ?_, by simp; omega, ?_⟩
  · have h6 := (lirR_len (numR (-1) s).2).2 e
    have h7 := (numR_len (-1) s).2 h6.1
    simp only [List.length_append, List.length_cons, List.length_nil]
    omega
  · rw [h4]
    conv => lhs; unfold lrowR
    rw [if_pos hs]
structure QwAt (G B b p2 p3 : Nat) (w0 w : World) (v d : Value) (acc : List PcL) (s : RS) : Prop where
  e2 : p2 = w0.heap.size
  e3 : p3 = w0.heap.size + 1
  b2 : w.heap[p2]? = some (.cells #[.slice none 0 0, .string ⟨#[]⟩] 44 (0, 0))
  b3 : w.heap[p3]? = some (.cells #[v, d] 44 (0, 0))
  own : w.ownsRow (w0.heap.size + 2) 111 2 v acc.length (pcsC acc)
  ln : RrAt G w b s
  gs : G ≤ w0.heap.size
  stp : SStp B (fun k => k = b) w0 w
theorem QwAt.call {G B b p2 p3 : Nat} {w0 w w' : World} {v d : Value} {acc : List PcL} {s s' : RS} (h : QwAt G B b p2 p3 w0 w v d acc s) (hb : b < w0.heap.size) (h1 : RrAt G w' b s') (h2 : SStp B (fun k => k = b) w w') : QwAt G B b p2 p3 w0 w' v d acc s' := by
  have l2 : p2 < w.heap.size := (Array.getElem?_eq_some_iff.1 h.b2).1
  have l3 : p3 < w.heap.size := (Array.getElem?_eq_some_iff.1 h.b3).1
  exact ⟨h.e2, h.e3, (h2.off.block p2 l2 (by have := h.e2; omega)).trans h.b2, (h2.off.block p3 l3 (by have := h.e3; omega)).trans h.b3, own_stp h.own h2 (by omega), h1, h.gs, h.stp.trans h2⟩
theorem QwAt.drewn {G B b p2 p3 : Nat} {w0 w : World} {v d : Value} {acc : List PcL} {s : RS} (h : QwAt G B b p2 p3 w0 w v d acc s) : QwAt G B b p2 p3 w0 w.drew v d acc s :=
  ⟨h.e2, h.e3, h.b2, h.b3, h.own.drew, h.ln.off rfl (fun _ _ _ => rfl) (Nat.le_refl _), h.gs, ⟨h.stp.below.drew, ⟨h.stp.off.size, h.stp.off.block⟩⟩⟩
/-- A piece is appended, and the box written. -/
theorem QwAt.app {G B b p2 p3 : Nat} {w0 w w6 : World} {v v6 d : Value} {acc : List PcL} {s : RS} {o : PcL} (h : QwAt G B b p2 p3 w0 w v d acc s) (hB : B ≤ b) (hb : b < w0.heap.size) (h1 : w6.ownsRow (w0.heap.size + 2) 111 2 v6 (acc.length + 1) (pcsC acc ++ pcC o)) (h2 : (w.alloc (.cells (pcC o).toArray 111)).grownBy w6 v.ownBlock) : w6.heap[p3]? = some (.cells #[v, d] 44 (0, 0)) ∧ QwAt G B b p2 p3 w0 (w6.setCell ⟨p3, 0, none⟩ v6) v6 d (acc ++ [o]) s := by
  have e2 := h.e2
  have e3 := h.e3
  have l2 : p2 < w.heap.size := (Array.getElem?_eq_some_iff.1 h.b2).1
  have l3 : p3 < w.heap.size := (Array.getElem?_eq_some_iff.1 h.b3).1
  have hv : ∀ g, v.ownBlock = some g → w0.heap.size + 2 ≤ g := fun g hg => (h.own.lt g hg).1
  have hk : ∀ k, k < w.heap.size → k < w0.heap.size + 2 → w6.heap[k]? = w.heap[k]? := fun k h3 h4 => by
    rw [h2.block k (by simp; omega) (fun e => by have := hv k e.symm; omega), heap_alloc_old w _ k h3]
  have g3 := (hk p3 l3 (by omega)).trans h.b3
  have hne : ∀ k, k ≠ p3 → (w6.setCell ⟨p3, 0, none⟩ v6).heap[k]? = w6.heap[k]? := fun k hk => heap_setCell_other _ _ _ _ hk
  have hz := h.stp.off.size
  refine ⟨g3, e2, e3, (hne p2 (by omega)).trans ((hk p2 l2 (by omega)).trans h.b2), set_of g3 0 v6, ?_, h.ln.off ((hne b (by omega)).trans (hk b h.ln.lt (by omega))) (fun k hk1 _ => (hne k (by have := h.gs; omega)).trans (hk k (by have := h.gs; omega) (by have := h.gs; omega))) (by have h5 := h2.size; simp at h5 ⊢; omega), h.gs, ?_, ⟨?_, ?_⟩⟩
  · rw [List.length_append, pcsC_app, pcsC_one]
    exact own_keep h1 fun g hg => hne g (by have := (h1.lt g hg).1; omega)
  · exact (h.stp.below.trans (((Below.refl B w).alloc (by omega) _).grown h2 (by simp; omega) (fun k hk => Nat.le_trans (by omega) (hv k hk)))).setCell (by show B ≤ p3; omega) _
  · rw [World.size_setCell]; exact Nat.le_trans hz (Nat.le_trans (by simp) h2.size)
  · intro k h3 h4
    rw [hne k (by omega), hk k (by omega) (by omega)]
    exact h.stp.off.block k h3 h4
/-- The degree is written. -/
theorem QwAt.deg {G B b p2 p3 : Nat} {w0 w : World} {v d d' : Value} {acc : List PcL} {s : RS} (h : QwAt G B b p2 p3 w0 w v d acc s) (hB : B ≤ b) (hb : b < w0.heap.size) : QwAt G B b p2 p3 w0 (w.setCell ⟨p3, 1, none⟩ d') v d' acc s := by
  have e2 := h.e2
  have e3 := h.e3
  have hne : ∀ k, k ≠ p3 → (w.setCell ⟨p3, 1, none⟩ d').heap[k]? = w.heap[k]? := fun k hk => heap_setCell_other _ _ _ _ hk
  exact ⟨e2, e3, (hne p2 (by omega)).trans h.b2, set_of h.b3 1 d', own_keep h.own fun g hg => hne g (by have := (h.own.lt g hg).1; omega), h.ln.off (hne b (by omega)) (fun k hk1 _ => hne k (by have := h.gs; omega)) (by simp), h.gs, h.stp.below.setCell (by show B ≤ p3; omega) _, ⟨Nat.le_trans h.stp.off.size (by simp), fun k h3 h4 => (hne k (by omega)).trans (h.stp.off.block k h3 h4)⟩⟩
/-- How row ends. -/
def QwOut (G B b : Nat) (w : World) (r : (List PcL × List UInt8) × RS) (e : Ending) (w' : World) : Prop := ∃ v, e = .returned (.agg #[v, .string (txtOf r.1.2)]) ∧ w'.ownsRow w.heap.size 111 2 v r.1.1.length (pcsC r.1.1) ∧ RrAt G w' b r.2 ∧ SStp B (fun k => k = b) w w'
theorem QwAt.out {G B b p2 p3 : Nat} {w0 w : World} {v : Value} {y : List UInt8} {acc : List PcL} {s : RS} (h : QwAt G B b p2 p3 w0 w v (.string (txtOf y)) acc s) (hB : B ≤ b) (hb : b < w0.heap.size) : QwOut G B b w0 ((acc, y), s) (.returned (.agg #[v, .string (txtOf y)])) ((w.setCell ⟨p2, 0, none⟩ v).setCell ⟨p2, 1, none⟩ (.string (txtOf y))) := by
  have e2 := h.e2
  have hne : ∀ k, k ≠ p2 → ((w.setCell ⟨p2, 0, none⟩ v).setCell ⟨p2, 1, none⟩ (.string (txtOf y))).heap[k]? = w.heap[k]? := fun k hk => (heap_setCell_other _ _ _ _ hk).trans (heap_setCell_other _ _ _ _ hk)
  refine ⟨v, rfl, own_less (own_keep h.own fun g hg => hne g (by have := (h.own.lt g hg).1; omega)) (by omega), h.ln.off (hne b (by omega)) (fun k hk1 _ => hne k (by have := h.gs; omega)) (by simp), (h.stp.below.setCell (by show B ≤ p2; omega) _).setCell (by show B ≤ p2; omega) _, ⟨Nat.le_trans h.stp.off.size (by simp), fun k h3 h4 => (hne k (by omega)).trans (h.stp.off.block k h3 h4)⟩⟩

set_option maxRecDepth 10000 in
set_option maxHeartbeats 4000000 in
theorem rrow_any {G B b : Nat} {s : RS} (w : World) (h : RrAt G w b s) (hB : B ≤ b) (hn : s.1.length ≤ 9000000) : Calls Tryz.prog 26 #[.pointer (some ⟨b, 0, none⟩)] w (QwOut G B b w (rowR s)) := by
  have hbl := h.lt
  have hBw : B ≤ w.heap.size := by omega
  have HNum : Hid (∀ w' s', RrAt G w' b s' → Calls Tryz.prog 24 #[.pointer (some ⟨b, 0, none⟩), .int .i64 (-1)] w' (LR G B b (.string (txtOf (numR (-1) s').1)) (numR (-1) s').2 w')) := fun w' s' h' => rnum_any (-1) w' h' hB (.inl rfl)
  have HLit : Hid (∀ w' s', RrAt G w' b s' → Calls Tryz.prog 28 #[.pointer (some ⟨b, 0, none⟩)] w' (LR G B b (.int .i64 (lirR s').1) (lirR s').2 w')) := fun w' s' h' => rlir_any w' h' hB
  have HIs : Hid (∀ w' s', RrAt G w' b s' → Calls Tryz.prog 46 #[.pointer (some ⟨b, 0, none⟩), .string ⟨#[62, 61]⟩] w' fun e w2 => e = .returned (.bool (isR [62, 61] s')) ∧ w2 = w') := fun w' s' h' => ris_any [62, 61] w' h'
  have HGe : Hid (∀ w' s', RrAt G w' b s' → Calls Tryz.prog 29 #[.pointer (some ⟨b, 0, none⟩), .string ⟨#[62, 61]⟩] w' (LR G B b (.tuple #[]) (oneR [62, 61] s') w')) := fun w' s' h' => rone_any [62, 61] w' h' hB
  have HSc : Hid (∀ w' s', RrAt G w' b s' → Calls Tryz.prog 29 #[.pointer (some ⟨b, 0, none⟩), .string ⟨#[59]⟩] w' (LR G B b (.tuple #[]) (oneR [59] s') w')) := fun w' s' h' => rone_any [59] w' h' hB
  obtain ⟨X1, hX1⟩ : ∃ X, w.alloc (.cells #[.slice none 0 0, .string ⟨#[]⟩] 44) = X := ⟨_, rfl⟩
  obtain ⟨X2, hX2⟩ : ∃ X, X1.alloc (.cells #[.slice none 0 0, .string ⟨#[]⟩] 44) = X := ⟨_, rfl⟩
  have HX : Hid (QwAt G B b w.heap.size X1.heap.size w X2 (.slice none 0 0) (.string ⟨#[]⟩) [] s) := by
    have s1 : X1.heap.size = w.heap.size + 1 := by rw [← hX1]; simp
    have b1 : Below w.heap.size w X1 := by rw [← hX1]; exact (Below.refl _ _).alloc (Nat.le_refl _) _
    have b2 : Below X1.heap.size X1 X2 := by rw [← hX2]; exact (Below.refl _ _).alloc (Nat.le_refl _) _
    exact ⟨rfl, s1, (b2.block _ (by omega)).trans (by rw [← hX1]; exact heap_alloc_new w _), by rw [← hX2]; exact heap_alloc_new X1 _, World.ownsRow_nil _ _ _ _, h.below (bl_next b1 b2), h.gs, SStp.of_below (bl_next b1 b2) hBw⟩
  have HSz2 : Hid (∀ u {v d acc s}, QwAt G B b w.heap.size X1.heap.size w u v d acc s → w.heap.size + 2 ≤ u.heap.size) := fun u _ _ _ _ hr => by have := (Array.getElem?_eq_some_iff.1 hr.b3).1; have := hr.e3; omega
  have HSz : Hid (∀ Y : World, w.heap.size + 2 ≤ Y.heap.size → w.heap.size + 2 ≤ Y.heap.size) := fun _ h => h
  unfold rowR
  obtain ⟨all, hall⟩ : ∃ a, lrowR (s.1.length + 2) [] s = a := ⟨_, rfl⟩
  rw [hall]
  have HM0 : Hid (QwM (s.1.length + 2) s.1.length [] s all) := ⟨by omega, fun _ => ⟨Nat.le_refl _, by simp⟩, by simp, hall.symm⟩
  clear h hall
  go_enter Tryz.func26, Tryz.ntmps26
  go_wp2_with fail
  go_loopg [] (s.1.length + 2) (fun g wr => ∃ (v : Value) (acc : List PcL) (sc : RS), Hid (QwM g s.1.length acc sc all) ∧ Hid (QwAt G B b w.heap.size X1.heap.size w wr v (.string ⟨#[]⟩) acc sc))
  case atStart => exact ⟨_, [], s, HM0.out, HX.out⟩
  case round =>
    clear HX HM0
    obtain ⟨v, acc, sc, HM, HRw⟩ := hrel
    obtain ⟨va, vc, hvs⟩ := own_slice HRw.out.own
    subst hvs
    obtain ⟨ra, rc, hrb, _⟩ := HRw.out.ln.o
    have l1 : wr.cell? ⟨b, 1, none⟩ = some (.int .i64 sc.2) := cell_of hrb 1
    clear hrb
    by_cases hgo : sc.2 = 0 ∧ isR [62, 61] sc = false
    · have HI2 := HIs.out wr sc HRw.out.ln
      rw [hgo.2] at HI2
      have HI3 : Hid (Calls Tryz.prog 46 #[.pointer (some ⟨b, 0, none⟩), .string ⟨#[62, 61]⟩] wr fun e w2 => e = .returned (.bool false) ∧ w2 = wr) := HI2
      rw [hgo.1] at l1
      cases gk with
      | zero => exact absurd HM.out.1 (by omega)
      | succ g' =>
      have HMn : Hid (QwM g' s.1.length (acc ++ [((numR (-1) sc).1, (lirR (numR (-1) sc).2).1)]) (lirR (numR (-1) sc).2).2 all) := qwm_next HM.out hgo
      have hal : acc.length ≤ 9000001 := Nat.le_trans HM.out.2.2.1 (by omega)
      clear HM hgo HI2
      go_wp2_with fail
      refine calls_at HI3.out (by with_reducible rfl) (by with_reducible rfl) ?_
      rintro e w1 ⟨rfl, hw1⟩
      rw [hw1]
      clear HI3 hw1 l1
      go_wp2_with fail
      refine calls_at (HNum.out wr _ HRw.out.ln) (by with_reducible rfl) (by with_reducible rfl) ?_
      rintro e w2 ⟨rfl, h1, h2⟩
      have H2 : Hid (QwAt G B b w.heap.size X1.heap.size w w2 (.slice va acc.length vc) (.string ⟨#[]⟩) acc (numR (-1) sc).2) := HRw.out.call hbl h1 h2
      clear h1 h2 HRw
      obtain ⟨x, hx⟩ : ∃ x, (numR (-1) sc).1 = x := ⟨_, rfl⟩
      obtain ⟨sd, hsd⟩ : ∃ sd, (numR (-1) sc).2 = sd := ⟨_, rfl⟩
      rw [hx, hsd] at HMn
      rw [hsd] at H2
      rw [hx]
      clear hx hsd
      have HC0 : Hid (True ∧ w2.drew.cell? ⟨X1.heap.size, 0, none⟩ = some (.slice va acc.length vc)) := ⟨trivial, cell_of H2.out.b3 0⟩
      go_wp2_with fail
      refine wp_region_T (fun _ => True) (fun w' => w'.cell? ⟨X1.heap.size, 0, none⟩ = some (.slice va acc.length vc)) [9] (by kernel_rfl) HC0.out (fun hHeld => ?_)
      have HRU : Hid (QwAt G B b w.heap.size X1.heap.size w w2.drew (.slice va acc.length vc) (.string ⟨#[]⟩) acc sd) := H2.out.drewn
      clear HC0
      generalize w2.drew = U at hHeld HRU ⊢
      refine wpAnyT_takeB (i := 0) (oi := ⟨some 17, .fieldAddr 44 (.tmp 3) 0, _, _, _, _⟩) (v := ?vAx0) rfl (by kernel_rfl) (by kernel_rfl) (by kernel_rfl) (by kernel_rfl) (fun _ _ _ h => h) (Or.inl ⟨by rfl, ?hyAx0⟩) (by assumption) ?restAx0
      case hyAx0 => (intro w hSw; (try dsimp only at hSw); go_simp; try (with_reducible rfl))
      try simp only [Act.put, List.setIfInBounds_toArray, List.set_cons_zero, List.set_cons_succ]
      refine wpAnyT_take (i := 1) (oi := ⟨some 18, .load 42 (.tmp 17), _, _, _, _⟩) (v := ?vAx1) rfl (by kernel_rfl) (by kernel_rfl) (by kernel_rfl) (by kernel_rfl) (by kernel_rfl) (fun _ _ _ h => h) (Or.inl ⟨by rfl, ?hyAx1⟩) (by assumption) ?restAx1
      case hyAx1 => (intro w hSw; (try dsimp only at hSw); go_simp; try (with_reducible rfl))
      try simp only [Act.put, List.setIfInBounds_toArray, List.set_cons_zero, List.set_cons_succ]
      refine wpAnyT_takeB (i := 2) (oi := ⟨some 19, .move (.tmp 4), _, _, _, _⟩) (v := ?vAx2) rfl (by kernel_rfl) (by kernel_rfl) (by kernel_rfl) (by kernel_rfl) (fun _ _ _ h => h) (Or.inl ⟨by rfl, ?hyAx2⟩) (by assumption) ?restAx2
      case hyAx2 => (intro w hSw; (try dsimp only at hSw); go_simp; try (with_reducible rfl))
      try simp only [Act.put, List.setIfInBounds_toArray, List.set_cons_zero, List.set_cons_succ]
      refine wpAnyT_takeB (i := 3) (oi := ⟨some 20, .move (.tmp 0), _, _, _, _⟩) (v := ?vAx3) rfl (by kernel_rfl) (by kernel_rfl) (by kernel_rfl) (by kernel_rfl) (fun _ _ _ h => h) (Or.inl ⟨by rfl, ?hyAx3⟩) (by assumption) ?restAx3
      case hyAx3 => (intro w hSw; (try dsimp only at hSw); go_simp; try (with_reducible rfl))
      try simp only [Act.put, List.setIfInBounds_toArray, List.set_cons_zero, List.set_cons_succ]
      refine wpAnyT_one (i := 4) (o := ⟨some 21, .call { callee := .value (.func 28), args := #[(.tmp 20)], argTypes := #[57] }, _, _, _, _⟩) (by kernel_rfl) rfl (fun K hK => ?_)
      go_simp
      refine calls_at (HLit.out U _ HRU.out.ln) (by with_reducible rfl) (by with_reducible rfl) ?_
      rintro e u3 ⟨rfl, h1, h2⟩
      go_wp2_with fail
      have HR3 : Hid (QwAt G B b w.heap.size X1.heap.size w u3 (.slice va acc.length vc) (.string ⟨#[]⟩) acc (lirR sd).2) := HRU.out.call hbl h1 h2
      clear hHeld h1 h2
      have hHeld : True ∧ _ := ⟨trivial, cell_of HR3.out.b3 0⟩
      refine hK.out _ _ ⟨trivial, fun _ => hHeld.2⟩ ?_
      clear hK K
      try simp only [Act.put, List.setIfInBounds_toArray, List.set_cons_zero, List.set_cons_succ]
      refine wpAnyT_takeB (i := 5) (oi := ⟨some 22, .build 111 #[(0, (.tmp 19)), (1, (.tmp 21))], _, _, _, _⟩) (v := ?vAx5) rfl (by kernel_rfl) (by kernel_rfl) (by kernel_rfl) (by kernel_rfl) (fun _ _ _ h => h) (Or.inl ⟨by rfl, ?hyAx5⟩) (by assumption) ?restAx5
      case hyAx5 => (intro w hSw; (try dsimp only at hSw); go_simp; try (with_reducible rfl))
      try simp only [Act.put, List.setIfInBounds_toArray, List.set_cons_zero, List.set_cons_succ]
      refine wpAnyT_one (i := 6) (o := ⟨some 23, .buildSlice 42 1 #[(0, (.tmp 22))], _, _, _, _⟩) (by kernel_rfl) rfl (fun K hK => ?_)
      go_simp
      obtain ⟨Y, hY⟩ : ∃ Y, u3.alloc (.cells #[.string (txtOf x), .int .i64 (lirR sd).1] 111) = Y := ⟨_, rfl⟩
      have HSc2 : Hid (SrcAt Y (.slice (some ⟨u3.heap.size, 0, none⟩) 1 1) 1 2 [.string (txtOf x), .int .i64 (lirR sd).1]) := src_2 (by rw [← hY]; exact heap_alloc_new u3 _) rfl rfl
      have HY : Hid (u3.alloc (.cells #[.string (txtOf x), .int .i64 (lirR sd).1] 111) = Y) := hY
      have HBY : Hid (Below u3.heap.size u3 Y) := by show Below _ _ _; rw [← hY]; exact (Below.refl _ _).alloc (Nat.le_refl _) _
      rw [hY]
      clear hY hHeld
      have hg3 : Y.heap[X1.heap.size]? = some (.cells #[.slice va acc.length vc, .string ⟨#[]⟩] 44 (0, 0)) := (HBY.out.block _ (Array.getElem?_eq_some_iff.1 HR3.out.b3).1).trans HR3.out.b3
      have hHeld : True ∧ _ := ⟨trivial, cell_of hg3 0⟩
      clear hg3
      refine hK.out _ _ ⟨trivial, fun _ => hHeld.2⟩ ?_
      clear hK K
      try simp only [Act.put, List.setIfInBounds_toArray, List.set_cons_zero, List.set_cons_succ]
      refine wpAnyT_one (i := 7) (o := ⟨some 24, .call { callee := .builtin .append, args := #[(.tmp 18), (.tmp 23)], argTypes := #[42, 42] }, _, _, _, _⟩) (by kernel_rfl) rfl (fun K hK => ?_)
      have hown : Y.ownsRow (w.heap.size + 2) 111 2 (.slice va acc.length vc) acc.length (pcsC acc) := own_below HR3.out.own HBY.out
      refine op_append_src Y (.tmp 18) (.tmp 23) 42 111 (.agg #[.string ⟨#[]⟩, .int .i64 0]) 2 24 rfl un39 inf82 rfl (by decide) (w.heap.size + 2) _ _ acc.length 1 (pcsC acc) _ (by rfl) (by rfl) hown HSc2.out (by unfold maxLen; omega) (by omega) (HSz.out Y (Nat.le_trans (HSz2.out _ HR3.out) HBY.out.size)) (by rfl) ?_
      intro v6 w6 o1 o2 o3
      have hE := HR3.out.app (o := (x, (lirR sd).1)) hB hbl o1 (by show (u3.alloc (.cells #[.string (txtOf x), .int .i64 (lirR sd).1] 111)).grownBy w6 _; rw [HY.out]; exact o2)
      obtain ⟨a6, c6, rfl⟩ := own_slice o1
      have HR6 : Hid (QwAt G B b w.heap.size X1.heap.size w (w6.setCell ⟨X1.heap.size, 0, none⟩ (.slice a6 (acc.length + 1) c6)) (.slice a6 (acc.length + 1) c6) (.string ⟨#[]⟩) (acc ++ [(x, (lirR sd).1)]) (lirR sd).2) := hE.2
      have c0 : w6.cell? ⟨X1.heap.size, 0, none⟩ = some (.slice va acc.length vc) := cell_of hE.1 0
      have cz : ∀ i, w6.frozen? ⟨X1.heap.size, i, none⟩ = false := frozen_of hE.1
      clear hE o1 o2 o3 hown hHeld
      refine hK.out _ _ ⟨trivial, fun _ => c0⟩ ?_
      have hHeld : True ∧ _ := ⟨trivial, c0⟩
      clear hK K
      try simp only [Act.put, List.setIfInBounds_toArray, List.set_cons_zero, List.set_cons_succ]
      refine wpAnyT_takeB (i := 8) (oi := ⟨some 25, .fieldAddr 44 (.tmp 3) 0, _, _, _, _⟩) (v := ?vAx8) rfl (by kernel_rfl) (by kernel_rfl) (by kernel_rfl) (by kernel_rfl) (fun _ _ _ h => h) (Or.inl ⟨by rfl, ?hyAx8⟩) (by assumption) ?restAx8
      case hyAx8 => (intro w hSw; (try dsimp only at hSw); go_simp; try (with_reducible rfl))
      try simp only [Act.put, List.setIfInBounds_toArray, List.set_cons_zero, List.set_cons_succ]
      refine wpAnyT_late (i := 9) (o := ⟨none, .store 42 (.tmp 25) (.tmp 24), _, _, _, _⟩) (by kernel_rfl) rfl (by kernel_rfl) (fun K hK => ?_)
      go_simp
      refine hK.out _ _ ?shAx9 ?restAx9
      case shAx9 => ((try dsimp only); try exact trivial)
      clear hK K
      try simp only [Act.put, List.setIfInBounds_toArray, List.set_cons_zero, List.set_cons_succ]
      refine wpAnyT_done (by kernel_rfl) ?_ _
      obtain ⟨Z, hZ⟩ : ∃ Z, w6.setCell ⟨X1.heap.size, 0, none⟩ (.slice a6 (acc.length + 1) c6) = Z := ⟨_, rfl⟩
      rw [hZ] at HR6
      rw [hZ]
      clear hZ c0 cz hHeld HSc2 HY HBY HR3 HRU
      go_wp2_with fail
      go_roundg g'
      case measure => omega
      case rel => exact ⟨_, _, _, HMn.out, HR6.out⟩
    · have HRs : Hid (all = (acc, sc)) := qwm_stop HM.out hgo
      have HEnd : Hid (∃ bb : Bool, (sc.2 == 0) = bb ∧ (bb = true → isR [62, 61] sc = true)) := by
        refine ⟨_, rfl, fun e => ?_⟩
        cases hi : isR [62, 61] sc with
        | true => rfl
        | false => exact absurd ⟨by simpa using e, hi⟩ hgo
      clear hgo HM
      obtain ⟨bb, hbb, hbi⟩ := HEnd.out
      cases bb with
      | false =>
        clear hbi
        go_wp2_with fail
        refine calls_at (HGe.out wr _ HRw.out.ln) (by with_reducible rfl) (by with_reducible rfl) ?_
        rintro e w2 ⟨rfl, h1, h2⟩
        have H2 : Hid (QwAt G B b w.heap.size X1.heap.size w w2 (.slice va acc.length vc) (.string ⟨#[]⟩) acc (oneR [62, 61] sc)) := HRw.out.call hbl h1 h2
        clear h1 h2 HRw
        obtain ⟨se, hse⟩ : ∃ se, oneR [62, 61] sc = se := ⟨_, rfl⟩
        rw [hse] at H2
        have HSE : Hid (oneR [62, 61] sc = se) := hse
        clear hse
        go_wp2_with fail
        refine calls_at (HNum.out w2 _ H2.out.ln) (by with_reducible rfl) (by with_reducible rfl) ?_
        rintro e w3 ⟨rfl, h1, h2⟩
        have H3 : Hid (QwAt G B b w.heap.size X1.heap.size w w3 (.slice va acc.length vc) (.string ⟨#[]⟩) acc (numR (-1) se).2) := H2.out.call hbl h1 h2
        clear h1 h2 H2
        have d1 : w3.cell? ⟨X1.heap.size, 1, none⟩ = some (.string ⟨#[]⟩) := cell_of H3.out.b3 1
        have dz := frozen_of H3.out.b3 1
        have H4 : Hid (QwAt G B b w.heap.size X1.heap.size w (w3.setCell ⟨X1.heap.size, 1, none⟩ (.string (txtOf (numR (-1) se).1))) (.slice va acc.length vc) (.string (txtOf (numR (-1) se).1)) acc (numR (-1) se).2) := H3.out.deg hB hbl
        go_wp2_with fail
        refine calls_at (HSc.out _ _ H4.out.ln) (by with_reducible rfl) (by with_reducible rfl) ?_
        rintro e w5 ⟨rfl, h1, h2⟩
        have H5 : Hid (QwAt G B b w.heap.size X1.heap.size w w5 (.slice va acc.length vc) (.string (txtOf (numR (-1) se).1)) acc (oneR [59] (numR (-1) se).2)) := H4.out.call hbl h1 h2
        clear h1 h2 d1 dz
        have f0 : w5.cell? ⟨X1.heap.size, 0, none⟩ = some (.slice va acc.length vc) := cell_of H5.out.b3 0
        have f1 : w5.cell? ⟨X1.heap.size, 1, none⟩ = some (.string (txtOf (numR (-1) se).1)) := cell_of H5.out.b3 1
        have k0 : w5.cell? ⟨w.heap.size, 0, none⟩ = some (.slice none 0 0) := cell_of H5.out.b2 0
        have k1 : w5.cell? ⟨w.heap.size, 1, none⟩ = some (.string ⟨#[]⟩) := cell_of H5.out.b2 1
        have kz := frozen_of H5.out.b2
        go_wp2_with fail
        have hE := H5.out.out hB hbl
        have hp := set_of (set_of H5.out.b2 0 (.slice va acc.length vc)) 1 (.string (txtOf (numR (-1) se).1))
        have m0 := cell_of hp 0
        have m1 := cell_of hp 1
        simp only [HRs.out, HSE.out]
        exact bodyPost_ret (v := .agg #[.slice va acc.length vc, .string (txtOf (numR (-1) se).1)]) (by simp [results, Tryz.results26, go_sem, m0, m1]) rfl hE
      | true =>
        have HI3 : Hid (Calls Tryz.prog 46 #[.pointer (some ⟨b, 0, none⟩), .string ⟨#[62, 61]⟩] wr fun e w2 => e = .returned (.bool true) ∧ w2 = wr) := by
          have := HIs.out wr sc HRw.out.ln
          rwa [hbi rfl] at this
        have hs0 : sc.2 = 0 := by simpa using hbb
        rw [hs0] at l1
        clear hbi hbb hs0
        go_wp2_with fail
        refine calls_at HI3.out (by with_reducible rfl) (by with_reducible rfl) ?_
        rintro e w1 ⟨rfl, hw1⟩
        rw [hw1]
        clear HI3 hw1 l1
        go_wp2_with fail
        refine calls_at (HGe.out wr _ HRw.out.ln) (by with_reducible rfl) (by with_reducible rfl) ?_
        rintro e w2 ⟨rfl, h1, h2⟩
        have H2 : Hid (QwAt G B b w.heap.size X1.heap.size w w2 (.slice va acc.length vc) (.string ⟨#[]⟩) acc (oneR [62, 61] sc)) := HRw.out.call hbl h1 h2
        clear h1 h2 HRw
        obtain ⟨se, hse⟩ : ∃ se, oneR [62, 61] sc = se := ⟨_, rfl⟩
        rw [hse] at H2
        have HSE : Hid (oneR [62, 61] sc = se) := hse
        clear hse
        go_wp2_with fail
        refine calls_at (HNum.out w2 _ H2.out.ln) (by with_reducible rfl) (by with_reducible rfl) ?_
        rintro e w3 ⟨rfl, h1, h2⟩
        have H3 : Hid (QwAt G B b w.heap.size X1.heap.size w w3 (.slice va acc.length vc) (.string ⟨#[]⟩) acc (numR (-1) se).2) := H2.out.call hbl h1 h2
        clear h1 h2 H2
        have d1 : w3.cell? ⟨X1.heap.size, 1, none⟩ = some (.string ⟨#[]⟩) := cell_of H3.out.b3 1
        have dz := frozen_of H3.out.b3 1
        have H4 : Hid (QwAt G B b w.heap.size X1.heap.size w (w3.setCell ⟨X1.heap.size, 1, none⟩ (.string (txtOf (numR (-1) se).1))) (.slice va acc.length vc) (.string (txtOf (numR (-1) se).1)) acc (numR (-1) se).2) := H3.out.deg hB hbl
        go_wp2_with fail
        refine calls_at (HSc.out _ _ H4.out.ln) (by with_reducible rfl) (by with_reducible rfl) ?_
        rintro e w5 ⟨rfl, h1, h2⟩
        have H5 : Hid (QwAt G B b w.heap.size X1.heap.size w w5 (.slice va acc.length vc) (.string (txtOf (numR (-1) se).1)) acc (oneR [59] (numR (-1) se).2)) := H4.out.call hbl h1 h2
        clear h1 h2 d1 dz
        have f0 : w5.cell? ⟨X1.heap.size, 0, none⟩ = some (.slice va acc.length vc) := cell_of H5.out.b3 0
        have f1 : w5.cell? ⟨X1.heap.size, 1, none⟩ = some (.string (txtOf (numR (-1) se).1)) := cell_of H5.out.b3 1
        have k0 : w5.cell? ⟨w.heap.size, 0, none⟩ = some (.slice none 0 0) := cell_of H5.out.b2 0
        have k1 : w5.cell? ⟨w.heap.size, 1, none⟩ = some (.string ⟨#[]⟩) := cell_of H5.out.b2 1
        have kz := frozen_of H5.out.b2
        go_wp2_with fail
        have hE := H5.out.out hB hbl
        have hp := set_of (set_of H5.out.b2 0 (.slice va acc.length vc)) 1 (.string (txtOf (numR (-1) se).1))
        have m0 := cell_of hp 0
        have m1 := cell_of hp 1
        simp only [HRs.out, HSE.out]
        exact bodyPost_ret (v := .agg #[.slice va acc.length vc, .string (txtOf (numR (-1) se).1)]) (by simp [results, Tryz.results26, go_sem, m0, m1]) rfl hE
end Go.Proofs.YtgckmkdmlaocmaaGreatDoor
