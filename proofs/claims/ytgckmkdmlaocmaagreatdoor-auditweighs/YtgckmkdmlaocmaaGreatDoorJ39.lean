/-
  Put together: RqS, RqE, RqT.
-/
import Derived.Test.YtgckmkdmlaocmaaGreatDoorRqO
import Derived.Test.YtgckmkdmlaocmaaGreatDoorJ36
namespace Go.Proofs.YtgckmkdmlaocmaaGreatDoor
open Go.RowKit

structure QsAt (G B b p2 p3 : Nat) (w0 w : World) (d : SL) (vo vp vl vi : Value) (s : RS) : Prop where
  e2 : p2 = w0.heap.size
  e3 : p3 = w0.heap.size + 1
  b2 : StAt w p2 cs0
  b3 : StAt w p3 (slC d vo vp vl vi)
  own : SlOwn (w0.heap.size + 2) w d vo vp vl vi
  ln : RrAt G w b s
  gs : G ≤ w0.heap.size
  bw : b < w0.heap.size
  bB : B ≤ b
  stp : SStp B (fun k => k = b) w0 w
theorem SlOwn.keep {B0 : Nat} {w w' : World} {d : SL} {vo vp vl vi : Value} (h : SlOwn B0 w d vo vp vl vi) (hk : ∀ g, B0 ≤ g → g < w.heap.size → w'.heap[g]? = w.heap[g]?) : SlOwn B0 w' d vo vp vl vi :=
  ⟨own_keep h.o fun g hg => hk g (h.o.lt g hg).1 (h.o.lt g hg).2, own_keep h.p fun g hg => hk g (h.p.lt g hg).1 (h.p.lt g hg).2, own_keep h.l fun g hg => hk g (h.l.lt g hg).1 (h.l.lt g hg).2, own_keep h.i fun g hg => hk g (h.i.lt g hg).1 (h.i.lt g hg).2⟩
theorem QsAt.sz {G B b p2 p3 : Nat} {w0 w : World} {d : SL} {vo vp vl vi : Value} {s : RS} (h : QsAt G B b p2 p3 w0 w d vo vp vl vi s) : w0.heap.size + 2 ≤ w.heap.size := by
  have := (Array.getElem?_eq_some_iff.1 h.b3.o).1
  have := h.e3
  omega
theorem QsAt.call {G B b p2 p3 : Nat} {w0 w w' : World} {d : SL} {vo vp vl vi : Value} {s s' : RS} (h : QsAt G B b p2 p3 w0 w d vo vp vl vi s) (h1 : RrAt G w' b s') (h2 : SStp B (fun k => k = b) w w') : QsAt G B b p2 p3 w0 w' d vo vp vl vi s' := by
  have l2 : p2 < w.heap.size := (Array.getElem?_eq_some_iff.1 h.b2.o).1
  have l3 : p3 < w.heap.size := (Array.getElem?_eq_some_iff.1 h.b3.o).1
  have hb := h.bw
  exact ⟨h.e2, h.e3, ⟨(h2.off.block p2 l2 (by have := h.e2; omega)).trans h.b2.o, h.b2.n⟩, ⟨(h2.off.block p3 l3 (by have := h.e3; omega)).trans h.b3.o, h.b3.n⟩, h.own.keep fun g h3 h4 => h2.off.block g h4 (by omega), h1, h.gs, h.bw, h.bB, h.stp.trans h2⟩
theorem QsAt.below {G B b p2 p3 : Nat} {w0 w w' : World} {d : SL} {vo vp vl vi : Value} {s : RS} (h : QsAt G B b p2 p3 w0 w d vo vp vl vi s) (hb : Below w.heap.size w w') : QsAt G B b p2 p3 w0 w' d vo vp vl vi s := by
  have l2 : p2 < w.heap.size := (Array.getElem?_eq_some_iff.1 h.b2.o).1
  have l3 : p3 < w.heap.size := (Array.getElem?_eq_some_iff.1 h.b3.o).1
  exact ⟨h.e2, h.e3, ⟨(hb.block p2 l2).trans h.b2.o, h.b2.n⟩, ⟨(hb.block p3 l3).trans h.b3.o, h.b3.n⟩, h.own.keep fun g _ h4 => hb.block g h4, h.ln.below hb, h.gs, h.bw, h.bB, h.stp.next hb (Nat.le_trans h.bB (Nat.le_of_lt h.ln.lt))⟩
theorem QsAt.put {G B b p2 p3 : Nat} {w0 w : World} {d d' : SL} {vo vp vl vi vo' vp' vl' vi' : Value} {s : RS} (h : QsAt G B b p2 p3 w0 w d vo vp vl vi s) (i : Nat) (v : Value) (hc : (slC d vo vp vl vi).setIfInBounds i v = slC d' vo' vp' vl' vi') (ho : SlOwn (w0.heap.size + 2) w d' vo' vp' vl' vi') : QsAt G B b p2 p3 w0 (w.setCell ⟨p3, i, none⟩ v) d' vo' vp' vl' vi' s := by
  have e2 := h.e2
  have e3 := h.e3
  have hb := h.bw
  have hB := h.bB
  have hne : ∀ k, k ≠ p3 → (w.setCell ⟨p3, i, none⟩ v).heap[k]? = w.heap[k]? := fun k hk => heap_setCell_other _ _ _ _ hk
  exact ⟨e2, e3, ⟨(hne p2 (by omega)).trans h.b2.o, h.b2.n⟩, ⟨by rw [← hc]; exact set_of h.b3.o i v, rfl⟩, ho.keep fun g h3 _ => hne g (by omega), h.ln.off (hne b (by omega)) (fun k hk1 _ => hne k (by have := h.gs; omega)) (by simp), h.gs, h.bw, h.bB, h.stp.below.setCell (by show B ≤ p3; omega) _, ⟨Nat.le_trans h.stp.off.size (by simp), fun k h3 h4 => (hne k (by omega)).trans (h.stp.off.block k h3 h4)⟩⟩
/-- How the box stands when all is read. -/
def QsF (G B b : Nat) (w0 wx : World) (r : SL × RS) : Prop := ∃ vo vp vl vi, QsAt G B b w0.heap.size (w0.heap.size + 1) w0 wx r.1 vo vp vl vi r.2
/-- How a call ends that answers a step. -/
def QeOut (G B b : Nat) (w : World) (r : SL × RS) (e : Ending) (w' : World) : Prop := ∃ vo vp vl vi, e = .returned (.agg (slC r.1 vo vp vl vi)) ∧ SlOwn w.heap.size w' r.1 vo vp vl vi ∧ RrAt G w' b r.2 ∧ SStp B (fun k => k = b) w w'
theorem own_ten {B0 : Nat} {w : World} {d : SL} {vo vp vl vi : Value} (h : SlOwn B0 w d vo vp vl vi) : ∃ oa oc pa pc la lc ia ic, vo = .slice oa d.ops.length oc ∧ vp = .slice pa d.pcs.length pc ∧ vl = .slice la d.lits.length lc ∧ vi = .slice ia d.ids.length ic := by
  obtain ⟨oa, oc, h1⟩ := own_slice h.o
  obtain ⟨pa, pc, h2⟩ := own_slice h.p
  obtain ⟨la, lc, h3⟩ := own_slice h.l
  obtain ⟨ia, ic, h4⟩ := own_slice h.i
  exact ⟨oa, oc, pa, pc, la, lc, ia, ic, h1, h2, h3, h4⟩
theorem ne10 {w : World} {q k : Nat} (hk : k ≠ q) (v0 v1 v2 v3 v4 v5 v6 v7 v8 v9 : Value) : ((((((((((w.setCell ⟨q, 0, none⟩ v0).setCell ⟨q, 1, none⟩ v1).setCell ⟨q, 2, none⟩ v2).setCell ⟨q, 3, none⟩ v3).setCell ⟨q, 4, none⟩ v4).setCell ⟨q, 5, none⟩ v5).setCell ⟨q, 6, none⟩ v6).setCell ⟨q, 7, none⟩ v7).setCell ⟨q, 8, none⟩ v8).setCell ⟨q, 9, none⟩ v9).heap[k]? = w.heap[k]? := (heap_setCell_other _ ⟨q, 9, none⟩ k v9 hk).trans ((heap_setCell_other _ ⟨q, 8, none⟩ k v8 hk).trans ((heap_setCell_other _ ⟨q, 7, none⟩ k v7 hk).trans ((heap_setCell_other _ ⟨q, 6, none⟩ k v6 hk).trans ((heap_setCell_other _ ⟨q, 5, none⟩ k v5 hk).trans ((heap_setCell_other _ ⟨q, 4, none⟩ k v4 hk).trans ((heap_setCell_other _ ⟨q, 3, none⟩ k v3 hk).trans ((heap_setCell_other _ ⟨q, 2, none⟩ k v2 hk).trans ((heap_setCell_other _ ⟨q, 1, none⟩ k v1 hk).trans (heap_setCell_other _ ⟨q, 0, none⟩ k v0 hk)))))))))
theorem bl10B {B : Nat} {w0 w : World} {q : Nat} (h : Below B w0 w) (hq : B ≤ q) (v0 v1 v2 v3 v4 v5 v6 v7 v8 v9 : Value) : Below B w0 ((((((((((w.setCell ⟨q, 0, none⟩ v0).setCell ⟨q, 1, none⟩ v1).setCell ⟨q, 2, none⟩ v2).setCell ⟨q, 3, none⟩ v3).setCell ⟨q, 4, none⟩ v4).setCell ⟨q, 5, none⟩ v5).setCell ⟨q, 6, none⟩ v6).setCell ⟨q, 7, none⟩ v7).setCell ⟨q, 8, none⟩ v8).setCell ⟨q, 9, none⟩ v9) := (Below.setCell (p := ⟨q, 9, none⟩) (Below.setCell (p := ⟨q, 8, none⟩) (Below.setCell (p := ⟨q, 7, none⟩) (Below.setCell (p := ⟨q, 6, none⟩) (Below.setCell (p := ⟨q, 5, none⟩) (Below.setCell (p := ⟨q, 4, none⟩) (Below.setCell (p := ⟨q, 3, none⟩) (Below.setCell (p := ⟨q, 2, none⟩) (Below.setCell (p := ⟨q, 1, none⟩) (Below.setCell (p := ⟨q, 0, none⟩) h hq v0) hq v1) hq v2) hq v3) hq v4) hq v5) hq v6) hq v7) hq v8) hq v9)
theorem QsAt.out {G B b p2 p3 : Nat} {w0 w : World} {d : SL} {vo vp vl vi : Value} {s : RS} (h : QsAt G B b p2 p3 w0 w d vo vp vl vi s) (v0 v1 v2 v3 v4 v5 v6 v7 v8 v9 : Value) (hc : #[v0, v1, v2, v3, v4, v5, v6, v7, v8, v9] = slC d vo vp vl vi) : QeOut G B b w0 (d, s) (.returned (.agg (slC d vo vp vl vi))) ((((((((((w.setCell ⟨p2, 0, none⟩ v0).setCell ⟨p2, 1, none⟩ v1).setCell ⟨p2, 2, none⟩ v2).setCell ⟨p2, 3, none⟩ v3).setCell ⟨p2, 4, none⟩ v4).setCell ⟨p2, 5, none⟩ v5).setCell ⟨p2, 6, none⟩ v6).setCell ⟨p2, 7, none⟩ v7).setCell ⟨p2, 8, none⟩ v8).setCell ⟨p2, 9, none⟩ v9) ∧ StAt ((((((((((w.setCell ⟨p2, 0, none⟩ v0).setCell ⟨p2, 1, none⟩ v1).setCell ⟨p2, 2, none⟩ v2).setCell ⟨p2, 3, none⟩ v3).setCell ⟨p2, 4, none⟩ v4).setCell ⟨p2, 5, none⟩ v5).setCell ⟨p2, 6, none⟩ v6).setCell ⟨p2, 7, none⟩ v7).setCell ⟨p2, 8, none⟩ v8).setCell ⟨p2, 9, none⟩ v9) p2 (slC d vo vp vl vi) := by
  have hS := set10 h.b2 v0 v1 v2 v3 v4 v5 v6 v7 v8 v9
  rw [hc] at hS
  have e2 := h.e2
  have hb := h.bw
  have hB := h.bB
  refine ⟨⟨vo, vp, vl, vi, rfl, ?_, ?_, ?_⟩, hS⟩
  · refine SlOwn.less (C := w0.heap.size) (h.own.keep fun g h3 _ => ?_) (by omega)
    exact ne10 (by omega) _ _ _ _ _ _ _ _ _ _
  · refine h.ln.off ?_ (fun k hk1 _ => ?_) (by simp)
    · exact ne10 (by omega) _ _ _ _ _ _ _ _ _ _
    · exact ne10 (by have := h.gs; omega) _ _ _ _ _ _ _ _ _ _
  · exact ⟨bl10B h.stp.below (by omega) _ _ _ _ _ _ _ _ _ _, ⟨Nat.le_trans h.stp.off.size (by simp), fun k h3 h4 => (ne10 (by omega) _ _ _ _ _ _ _ _ _ _).trans (h.stp.off.block k h3 h4)⟩⟩
end Go.Proofs.YtgckmkdmlaocmaaGreatDoor

namespace Go.Proofs.YtgckmkdmlaocmaaGreatDoor
open Go.RowKit

def d9 : SL := { SL.zero with k := 9 }
def unsR (s : RS) : SL × RS := if moreR s = true then ({ d9 with ends := 2, ids := [(numR 1 (oneR [58] s)).1] }, (numR 1 (oneR [58] s)).2) else ({ d9 with ends := 2 }, s)
def bndR (s : RS) : SL × RS := if isR [58] (numR (-1) s).2 = true then ({ d9 with ends := 5, low := (numR (-1) s).1, ids := [(numR 1 (oneR [58] (numR (-1) s).2)).1], high := (numR (-1) (numR 1 (oneR [58] (numR (-1) s).2)).2).1 }, (numR (-1) (numR 1 (oneR [58] (numR (-1) s).2)).2).2) else ({ d9 with ends := 5, low := (numR (-1) s).1, high := (numR (-1) (numR (-1) s).2).1 }, (numR (-1) (numR (-1) s).2).2)
def allRR (s : RS) : SL × RS := ({ d9 with ends := 6, high := (numR 0 s).1, ids := [(numR 1 (oneR [58] (numR 0 s).2)).1] }, (numR 1 (oneR [58] (numR 0 s).2)).2)
def endsW (x : List UInt8) (s : RS) : SL × RS :=
  if s.2 ≠ 0 then (d9, s)
  else if x = [78, 79, 78, 69] then ({ d9 with ends := 1 }, s)
  else if x = [85, 78, 83, 65, 84] then unsR s
  else if x = [83, 65, 84] then ({ d9 with ends := 3 }, s)
  else if x = [66, 79, 85, 78, 68, 83] then bndR s
  else if x = [65, 76, 76] then allRR s
  else (d9, failR 80 s)
def endsR (s : RS) : SL × RS := endsW (takeR s).1.1 (takeR s).2
theorem d9_own (B0 : Nat) (w : World) (d : SL) (ho : d.ops = []) (hp : d.pcs = []) (hl : d.lits = []) (hi : d.ids = []) : SlOwn B0 w d (.slice none 0 0) (.slice none 0 0) (.slice none 0 0) (.slice none 0 0) :=
  ⟨by rw [ho]; exact own_z _ _ _ _, by rw [hp]; exact own_z _ _ _ _, by rw [hl]; exact own_z _ _ _ _, by rw [hi]; exact own_z _ _ _ _⟩
theorem d9_one {B0 : Nat} {w : World} {vi : Value} {y : List UInt8} (d : SL) (ho : d.ops = []) (hp : d.pcs = []) (hl : d.lits = []) (hi : d.ids = [y]) (h : w.ownsRow B0 9 1 vi 1 [.string (txtOf y)]) : SlOwn B0 w d (.slice none 0 0) (.slice none 0 0) (.slice none 0 0) vi :=
  ⟨by rw [ho]; exact own_z _ _ _ _, by rw [hp]; exact own_z _ _ _ _, by rw [hl]; exact own_z _ _ _ _, by rw [hi]; exact h⟩

set_option maxRecDepth 10000 in
set_option maxHeartbeats 4000000 in
theorem rends_any {G B b : Nat} {s : RS} (w : World) (h : RrAt G w b s) (hB : B ≤ b) : Calls Tryz.prog 30 #[.pointer (some ⟨b, 0, none⟩)] w (QeOut G B b w (endsR s)) := by
  have hbl := h.lt
  have hBw : B ≤ w.heap.size := by omega
  have HMo : Hid (∀ w' s', RrAt G w' b s' → Calls Tryz.prog 27 #[.pointer (some ⟨b, 0, none⟩)] w' fun e w2 => e = .returned (.bool (moreR s')) ∧ w2 = w') := fun w' s' h' => rmore_any w' h'
  have HTk : Hid (∀ w' s', RrAt G w' b s' → Calls Tryz.prog 13 #[.pointer (some ⟨b, 0, none⟩)] w' (LR G B b (.tuple #[.string (txtOf (takeR s').1.1), .bool (takeR s').1.2]) (takeR s').2 w')) := fun w' s' h' => rtake_any w' h' hB
  have HNm : Hid (∀ w' s', RrAt G w' b s' → Calls Tryz.prog 24 #[.pointer (some ⟨b, 0, none⟩), .int .i64 (-1)] w' (LR G B b (.string (txtOf (numR (-1) s').1)) (numR (-1) s').2 w')) := fun w' s' h' => rnum_any (-1) w' h' hB (.inl rfl)
  have HN0 : Hid (∀ w' s', RrAt G w' b s' → Calls Tryz.prog 24 #[.pointer (some ⟨b, 0, none⟩), .int .i64 0] w' (LR G B b (.string (txtOf (numR 0 s').1)) (numR 0 s').2 w')) := fun w' s' h' => rnum_any 0 w' h' hB (.inr (.inl rfl))
  have HN1 : Hid (∀ w' s', RrAt G w' b s' → Calls Tryz.prog 24 #[.pointer (some ⟨b, 0, none⟩), .int .i64 1] w' (LR G B b (.string (txtOf (numR 1 s').1)) (numR 1 s').2 w')) := fun w' s' h' => rnum_any 1 w' h' hB (.inr (.inr rfl))
  have HIs : Hid (∀ w' s', RrAt G w' b s' → Calls Tryz.prog 46 #[.pointer (some ⟨b, 0, none⟩), .string ⟨#[58]⟩] w' fun e w2 => e = .returned (.bool (isR [58] s')) ∧ w2 = w') := fun w' s' h' => ris_any [58] w' h'
  have HOn : Hid (∀ w' s', RrAt G w' b s' → Calls Tryz.prog 29 #[.pointer (some ⟨b, 0, none⟩), .string ⟨#[58]⟩] w' (LR G B b (.tuple #[]) (oneR [58] s') w')) := fun w' s' h' => rone_any [58] w' h' hB
  have HFa : Hid (∀ w' s', RrAt G w' b s' → Calls Tryz.prog 22 #[.pointer (some ⟨b, 0, none⟩), .int .i64 80] w' (LR G B b (.tuple #[]) (failR 80 s') w')) := fun w' s' h' => rfail_any 80 w' h' hB
  obtain ⟨X1, hX1⟩ : ∃ X, w.alloc (.cells cs0 47) = X := ⟨_, rfl⟩
  obtain ⟨X2, hX2⟩ : ∃ X, X1.alloc (.cells (slC d9 (.slice none 0 0) (.slice none 0 0) (.slice none 0 0) (.slice none 0 0)) 47) = X := ⟨_, rfl⟩
  have s1 : X1.heap.size = w.heap.size + 1 := by rw [← hX1]; simp
  have HX : Hid (QsAt G B b w.heap.size (w.heap.size + 1) w X2 d9 (.slice none 0 0) (.slice none 0 0) (.slice none 0 0) (.slice none 0 0) s) := by
    have b1 : Below w.heap.size w X1 := by rw [← hX1]; exact (Below.refl _ _).alloc (Nat.le_refl _) _
    have b2 : Below X1.heap.size X1 X2 := by rw [← hX2]; exact (Below.refl _ _).alloc (Nat.le_refl _) _
    have g3 : X2.heap[w.heap.size + 1]? = some (.cells (slC d9 (.slice none 0 0) (.slice none 0 0) (.slice none 0 0) (.slice none 0 0)) 47 (0, 0)) := by rw [← s1, ← hX2]; exact heap_alloc_new X1 _
    exact ⟨rfl, rfl, ⟨(b2.block _ (by omega)).trans (by rw [← hX1]; exact heap_alloc_new w _), rfl⟩, ⟨g3, rfl⟩, d9_own _ _ _ rfl rfl rfl rfl, h.below (bl_next b1 b2), h.gs, hbl, hB, SStp.of_below (bl_next b1 b2) hBw⟩
  have HX1 : Hid (w.alloc (.cells #[.int .i64 0, .string ⟨#[]⟩, .slice none 0 0, .slice none 0 0, .string ⟨#[]⟩, .slice none 0 0, .slice none 0 0, .int .i64 0, .string ⟨#[]⟩, .string ⟨#[]⟩] 47) = X1) := hX1
  have HX2 : Hid (X1.alloc (.cells #[.int .i64 9, .string ⟨#[]⟩, .slice none 0 0, .slice none 0 0, .string ⟨#[]⟩, .slice none 0 0, .slice none 0 0, .int .i64 0, .string ⟨#[]⟩, .string ⟨#[]⟩] 47) = X2) := hX2
  have HS1 : Hid (X1.heap.size = w.heap.size + 1) := s1
  unfold endsR
  have HT0 := HTk.out X2 s HX.out.ln
  obtain ⟨r, hr⟩ : ∃ r, takeR s = r := ⟨_, rfl⟩
  rw [hr] at HT0 ⊢
  obtain ⟨⟨x, tt⟩, s'⟩ := r
  simp only at HT0 ⊢
  have HT1 : Hid (Calls Tryz.prog 13 #[.pointer (some ⟨b, 0, none⟩)] X2 (LR G B b (.tuple #[.string (txtOf x), .bool tt]) s' X2)) := HT0
  obtain ⟨R, hR⟩ : ∃ R, endsW x s' = R := ⟨_, rfl⟩
  rw [hR]
  have HR : Hid (endsW x s' = R) := hR
  clear h hX1 hX2 HT0 hr hR s1
  go_enter Tryz.func30, Tryz.ntmps30
  go_wp2_with fail
  rw [HX1.out, HX2.out]
  refine calls_at HT1.out (by with_reducible rfl) (by with_reducible rfl) ?_
  rintro e w1 ⟨rfl, q1, q2⟩
  have H1 : Hid (QsAt G B b w.heap.size (w.heap.size + 1) w w1 d9 (.slice none 0 0) (.slice none 0 0) (.slice none 0 0) (.slice none 0 0) s') := HX.out.call q1 q2
  clear q1 q2 HX HT1 HX1 HX2
  go_upto_block 0 with fail
  go_cut [] from 12 to 70 (fun wx => Hid (QsF G B b w wx R))
  case first =>
    have c7 : w1.cell? ⟨w.heap.size + 1, 7, none⟩ = some (.int .i64 0) := cell_of H1.out.b3.o 7
    have z7 := frozen_of H1.out.b3.o 7
    obtain ⟨ra, rc, hrb, _⟩ := H1.out.ln.o
    have l1 : w1.cell? ⟨b, 1, none⟩ = some (.int .i64 s'.2) := cell_of hrb 1
    clear hrb
    have e1 := txt_eq x [78, 79, 78, 69]
    have e2 := txt_eq x [85, 78, 83, 65, 84]
    have e3 := txt_eq x [83, 65, 84]
    have e4 := txt_eq x [66, 79, 85, 78, 68, 83]
    have e5 := txt_eq x [65, 76, 76]
    by_cases h0 : s'.2 = 0
    · rw [h0] at l1
      have hR0 := HR.out
      unfold endsW at hR0
      rw [if_neg (fun e => e h0)] at hR0
      clear h0
      by_cases k1 : x = [78, 79, 78, 69]
      · rw [if_pos k1] at hR0
        rw [decide_eq_true k1] at e1
        have HRq : Hid (R = ({ d9 with ends := 1 }, s')) := hR0.symm
        have HF : Hid (QsAt G B b w.heap.size (w.heap.size + 1) w (w1.setCell ⟨w.heap.size + 1, 7, none⟩ (.int .i64 1)) { d9 with ends := 1 } (.slice none 0 0) (.slice none 0 0) (.slice none 0 0) (.slice none 0 0) s') := H1.out.put 7 _ rfl (d9_own _ _ _ rfl rfl rfl rfl)
        clear k1 e2 e3 e4 e5 hR0
        go_wp2_with fail
        go_meet
        rw [HRq.out]
        exact ⟨_, _, _, _, HF.out⟩
      rw [if_neg k1] at hR0
      rw [decide_eq_false k1] at e1
      clear k1
      by_cases k2 : x = [85, 78, 83, 65, 84]
      · rw [if_pos k2] at hR0
        rw [decide_eq_true k2] at e2
        unfold unsR at hR0
        obtain ⟨W1, hW1⟩ : ∃ W, w1.setCell ⟨w.heap.size + 1, 7, none⟩ (.int .i64 2) = W := ⟨_, rfl⟩
        have H2 : Hid (QsAt G B b w.heap.size (w.heap.size + 1) w W1 { d9 with ends := 2 } (.slice none 0 0) (.slice none 0 0) (.slice none 0 0) (.slice none 0 0) s') := by
          show QsAt _ _ _ _ _ _ _ _ _ _ _ _ _
          rw [← hW1]; exact H1.out.put 7 _ rfl (d9_own _ _ _ rfl rfl rfl rfl)
        have HM1 := HMo.out W1 s' H2.out.ln
        clear k2 e3 e4 e5
        cases hm : moreR s' with
        | false =>
          rw [hm] at hR0 HM1
          rw [if_neg (by simp)] at hR0
          have HRq : Hid (R = ({ d9 with ends := 2 }, s')) := hR0.symm
          have HM2 : Hid (Calls Tryz.prog 27 #[.pointer (some ⟨b, 0, none⟩)] W1 fun e w2 => e = .returned (.bool false) ∧ w2 = W1) := HM1
          clear hm hR0 HM1
          go_wp2_with fail
          refine calls_at HM2.out (by with_reducible rfl) (by with_reducible rfl) ?_
          rintro e w2 ⟨rfl, hw2⟩
          rw [hw2]
          clear hw2
          go_wp2_with fail
          go_meet
          rw [HRq.out]
          exact ⟨_, _, _, _, H2.out⟩
        | true =>
          rw [hm] at hR0 HM1
          rw [if_pos rfl] at hR0
          have HRq : Hid (R = ({ d9 with ends := 2, ids := [(numR 1 (oneR [58] s')).1] }, (numR 1 (oneR [58] s')).2)) := hR0.symm
          have HM2 : Hid (Calls Tryz.prog 27 #[.pointer (some ⟨b, 0, none⟩)] W1 fun e w2 => e = .returned (.bool true) ∧ w2 = W1) := HM1
          clear hm hR0 HM1
          go_wp2_with fail
          refine calls_at HM2.out (by with_reducible rfl) (by with_reducible rfl) ?_
          rintro e w2 ⟨rfl, hw2⟩
          rw [hw2]
          clear hw2
          go_wp2_with fail
          refine calls_at (HOn.out W1 s' H2.out.ln) (by with_reducible rfl) (by with_reducible rfl) ?_
          rintro e w3 ⟨rfl, q1, q2⟩
          have H3 : Hid (QsAt G B b w.heap.size (w.heap.size + 1) w w3 { d9 with ends := 2 } (.slice none 0 0) (.slice none 0 0) (.slice none 0 0) (.slice none 0 0) (oneR [58] s')) := H2.out.call q1 q2
          clear q1 q2 H2
          go_wp2_with fail
          refine calls_at (HN1.out w3 _ H3.out.ln) (by with_reducible rfl) (by with_reducible rfl) ?_
          rintro e w4 ⟨rfl, q1, q2⟩
          have H4 : Hid (QsAt G B b w.heap.size (w.heap.size + 1) w w4 { d9 with ends := 2 } (.slice none 0 0) (.slice none 0 0) (.slice none 0 0) (.slice none 0 0) (numR 1 (oneR [58] s')).2) := H3.out.call q1 q2
          clear q1 q2 H3
          obtain ⟨y, hy⟩ : ∃ y, (numR 1 (oneR [58] s')).1 = y := ⟨_, rfl⟩
          obtain ⟨s3, hs3⟩ : ∃ y, (numR 1 (oneR [58] s')).2 = y := ⟨_, rfl⟩
          rw [hy, hs3] at HRq
          rw [hs3] at H4
          rw [hy]
          clear hy hs3
          obtain ⟨V, hV⟩ : ∃ V, w4.alloc (.cells #[.string (txtOf y)] 9) = V := ⟨_, rfl⟩
          have hbV : Below w4.heap.size w4 V := by rw [← hV]; exact (Below.refl _ _).alloc (Nat.le_refl _) _
          have hI : V.ownsRow (w.heap.size + 2) 9 1 (.slice (some ⟨w4.heap.size, 0, none⟩) 1 1) 1 [.string (txtOf y)] := by rw [← hV]; exact World.ownsRow_lit w4 #[.string (txtOf y)] 1 H4.out.sz (by decide) rfl
          have H7 : Hid (QsAt G B b w.heap.size (w.heap.size + 1) w V { d9 with ends := 2 } (.slice none 0 0) (.slice none 0 0) (.slice none 0 0) (.slice none 0 0) s3) := H4.out.below hbV
          have c6 : V.cell? ⟨w.heap.size + 1, 6, none⟩ = some (.slice none 0 0) := cell_of H7.out.b3.o 6
          have z6 := frozen_of H7.out.b3.o 6
          have HF : Hid (QsAt G B b w.heap.size (w.heap.size + 1) w (V.setCell ⟨w.heap.size + 1, 6, none⟩ (.slice (some ⟨w4.heap.size, 0, none⟩) 1 1)) { d9 with ends := 2, ids := [y] } (.slice none 0 0) (.slice none 0 0) (.slice none 0 0) (.slice (some ⟨w4.heap.size, 0, none⟩) 1 1) s3) := H7.out.put 6 _ rfl (d9_one _ rfl rfl rfl rfl hI)
          clear hbV hI H7 H4
          go_wp2_with fail
          go_meet
          rw [HRq.out]
          exact ⟨_, _, _, _, HF.out⟩
      rw [if_neg k2] at hR0
      rw [decide_eq_false k2] at e2
      clear k2
      by_cases k3 : x = [83, 65, 84]
      · rw [if_pos k3] at hR0
        rw [decide_eq_true k3] at e3
        have HRq : Hid (R = ({ d9 with ends := 3 }, s')) := hR0.symm
        have HF : Hid (QsAt G B b w.heap.size (w.heap.size + 1) w (w1.setCell ⟨w.heap.size + 1, 7, none⟩ (.int .i64 3)) { d9 with ends := 3 } (.slice none 0 0) (.slice none 0 0) (.slice none 0 0) (.slice none 0 0) s') := H1.out.put 7 _ rfl (d9_own _ _ _ rfl rfl rfl rfl)
        clear k3 e4 e5 hR0
        go_wp2_with fail
        go_meet
        rw [HRq.out]
        exact ⟨_, _, _, _, HF.out⟩
      rw [if_neg k3] at hR0
      rw [decide_eq_false k3] at e3
      clear k3
      by_cases k4 : x = [66, 79, 85, 78, 68, 83]
      · rw [if_pos k4] at hR0
        rw [decide_eq_true k4] at e4
        unfold bndR at hR0
        obtain ⟨W1, hW1⟩ : ∃ W, w1.setCell ⟨w.heap.size + 1, 7, none⟩ (.int .i64 5) = W := ⟨_, rfl⟩
        have H2 : Hid (QsAt G B b w.heap.size (w.heap.size + 1) w W1 { d9 with ends := 5 } (.slice none 0 0) (.slice none 0 0) (.slice none 0 0) (.slice none 0 0) s') := by
          show QsAt _ _ _ _ _ _ _ _ _ _ _ _ _
          rw [← hW1]; exact H1.out.put 7 _ rfl (d9_own _ _ _ rfl rfl rfl rfl)
        clear k4 e5
        go_wp2_with fail
        try rw [hW1]
        refine calls_at (HNm.out W1 s' H2.out.ln) (by with_reducible rfl) (by with_reducible rfl) ?_
        rintro e w3 ⟨rfl, q1, q2⟩
        have H3 : Hid (QsAt G B b w.heap.size (w.heap.size + 1) w w3 { d9 with ends := 5 } (.slice none 0 0) (.slice none 0 0) (.slice none 0 0) (.slice none 0 0) (numR (-1) s').2) := H2.out.call q1 q2
        clear q1 q2 H2 hW1 c7 z7 l1 e1 e2 e3 e4
        obtain ⟨lo, hlo⟩ : ∃ y, (numR (-1) s').1 = y := ⟨_, rfl⟩
        obtain ⟨s2, hs2⟩ : ∃ y, (numR (-1) s').2 = y := ⟨_, rfl⟩
        rw [hlo, hs2] at hR0
        rw [hs2] at H3
        rw [hlo]
        clear hlo hs2
        have c8 : w3.cell? ⟨w.heap.size + 1, 8, none⟩ = some (.string ⟨#[]⟩) := cell_of H3.out.b3.o 8
        have z8 := frozen_of H3.out.b3.o 8
        obtain ⟨W3, hW3⟩ : ∃ W, w3.setCell ⟨w.heap.size + 1, 8, none⟩ (.string (txtOf lo)) = W := ⟨_, rfl⟩
        have H4 : Hid (QsAt G B b w.heap.size (w.heap.size + 1) w W3 { d9 with ends := 5, low := lo } (.slice none 0 0) (.slice none 0 0) (.slice none 0 0) (.slice none 0 0) s2) := by
          show QsAt _ _ _ _ _ _ _ _ _ _ _ _ _
          rw [← hW3]; exact H3.out.put 8 _ rfl (d9_own _ _ _ rfl rfl rfl rfl)
        have HI1 := HIs.out W3 s2 H4.out.ln
        clear H3
        cases hi : isR [58] s2 with
        | false =>
          rw [hi] at hR0 HI1
          rw [if_neg (by simp)] at hR0
          have HRq : Hid (R = ({ d9 with ends := 5, low := lo, high := (numR (-1) s2).1 }, (numR (-1) s2).2)) := hR0.symm
          have HI2 : Hid (Calls Tryz.prog 46 #[.pointer (some ⟨b, 0, none⟩), .string ⟨#[58]⟩] W3 fun e w2 => e = .returned (.bool false) ∧ w2 = W3) := HI1
          clear hi hR0 HI1
          go_wp2_with fail
          refine calls_at HI2.out (by with_reducible rfl) (by with_reducible rfl) ?_
          rintro e w4 ⟨rfl, hw4⟩
          rw [hw4]
          clear hw4
          go_wp2_with fail
          refine calls_at (HNm.out W3 s2 H4.out.ln) (by with_reducible rfl) (by with_reducible rfl) ?_
          rintro e w5 ⟨rfl, q1, q2⟩
          have H5 : Hid (QsAt G B b w.heap.size (w.heap.size + 1) w w5 { d9 with ends := 5, low := lo } (.slice none 0 0) (.slice none 0 0) (.slice none 0 0) (.slice none 0 0) (numR (-1) s2).2) := H4.out.call q1 q2
          clear q1 q2 H4 hW3 c8 z8
          have c9 : w5.cell? ⟨w.heap.size + 1, 9, none⟩ = some (.string ⟨#[]⟩) := cell_of H5.out.b3.o 9
          have z9 := frozen_of H5.out.b3.o 9
          have HF : Hid (QsAt G B b w.heap.size (w.heap.size + 1) w (w5.setCell ⟨w.heap.size + 1, 9, none⟩ (.string (txtOf (numR (-1) s2).1))) { d9 with ends := 5, low := lo, high := (numR (-1) s2).1 } (.slice none 0 0) (.slice none 0 0) (.slice none 0 0) (.slice none 0 0) (numR (-1) s2).2) := H5.out.put 9 _ rfl (d9_own _ _ _ rfl rfl rfl rfl)
          go_wp2_with fail
          go_meet
          rw [HRq.out]
          exact ⟨_, _, _, _, HF.out⟩
        | true =>
          rw [hi] at hR0 HI1
          rw [if_pos rfl] at hR0
          have HRq : Hid (R = ({ d9 with ends := 5, low := lo, ids := [(numR 1 (oneR [58] s2)).1], high := (numR (-1) (numR 1 (oneR [58] s2)).2).1 }, (numR (-1) (numR 1 (oneR [58] s2)).2).2)) := hR0.symm
          have HI2 : Hid (Calls Tryz.prog 46 #[.pointer (some ⟨b, 0, none⟩), .string ⟨#[58]⟩] W3 fun e w2 => e = .returned (.bool true) ∧ w2 = W3) := HI1
          clear hi hR0 HI1
          go_wp2_with fail
          refine calls_at HI2.out (by with_reducible rfl) (by with_reducible rfl) ?_
          rintro e w4 ⟨rfl, hw4⟩
          rw [hw4]
          clear hw4
          go_wp2_with fail
          refine calls_at (HOn.out W3 s2 H4.out.ln) (by with_reducible rfl) (by with_reducible rfl) ?_
          rintro e w5 ⟨rfl, q1, q2⟩
          have H5 : Hid (QsAt G B b w.heap.size (w.heap.size + 1) w w5 { d9 with ends := 5, low := lo } (.slice none 0 0) (.slice none 0 0) (.slice none 0 0) (.slice none 0 0) (oneR [58] s2)) := H4.out.call q1 q2
          clear q1 q2 H4 hW3 c8 z8
          go_wp2_with fail
          refine calls_at (HN1.out w5 _ H5.out.ln) (by with_reducible rfl) (by with_reducible rfl) ?_
          rintro e w6 ⟨rfl, q1, q2⟩
          have H6 : Hid (QsAt G B b w.heap.size (w.heap.size + 1) w w6 { d9 with ends := 5, low := lo } (.slice none 0 0) (.slice none 0 0) (.slice none 0 0) (.slice none 0 0) (numR 1 (oneR [58] s2)).2) := H5.out.call q1 q2
          clear q1 q2 H5
          obtain ⟨y, hy⟩ : ∃ y, (numR 1 (oneR [58] s2)).1 = y := ⟨_, rfl⟩
          obtain ⟨s3, hs3⟩ : ∃ y, (numR 1 (oneR [58] s2)).2 = y := ⟨_, rfl⟩
          rw [hy, hs3] at HRq
          rw [hs3] at H6
          rw [hy]
          clear hy hs3
          obtain ⟨V, hV⟩ : ∃ V, w6.alloc (.cells #[.string (txtOf y)] 9) = V := ⟨_, rfl⟩
          have hbV : Below w6.heap.size w6 V := by rw [← hV]; exact (Below.refl _ _).alloc (Nat.le_refl _) _
          have hI : V.ownsRow (w.heap.size + 2) 9 1 (.slice (some ⟨w6.heap.size, 0, none⟩) 1 1) 1 [.string (txtOf y)] := by rw [← hV]; exact World.ownsRow_lit w6 #[.string (txtOf y)] 1 H6.out.sz (by decide) rfl
          have H7 : Hid (QsAt G B b w.heap.size (w.heap.size + 1) w V { d9 with ends := 5, low := lo } (.slice none 0 0) (.slice none 0 0) (.slice none 0 0) (.slice none 0 0) s3) := H6.out.below hbV
          have c6 : V.cell? ⟨w.heap.size + 1, 6, none⟩ = some (.slice none 0 0) := cell_of H7.out.b3.o 6
          have z6 := frozen_of H7.out.b3.o 6
          obtain ⟨W7, hW7⟩ : ∃ W, V.setCell ⟨w.heap.size + 1, 6, none⟩ (.slice (some ⟨w6.heap.size, 0, none⟩) 1 1) = W := ⟨_, rfl⟩
          have H8 : Hid (QsAt G B b w.heap.size (w.heap.size + 1) w W7 { d9 with ends := 5, low := lo, ids := [y] } (.slice none 0 0) (.slice none 0 0) (.slice none 0 0) (.slice (some ⟨w6.heap.size, 0, none⟩) 1 1) s3) := by
            show QsAt _ _ _ _ _ _ _ _ _ _ _ _ _
            rw [← hW7]; exact H7.out.put 6 _ rfl (d9_one _ rfl rfl rfl rfl hI)
          clear hbV hI H7 H6
          go_wp2_with fail
          refine calls_at (HNm.out W7 s3 H8.out.ln) (by with_reducible rfl) (by with_reducible rfl) ?_
          rintro e w9 ⟨rfl, q1, q2⟩
          have H9 : Hid (QsAt G B b w.heap.size (w.heap.size + 1) w w9 { d9 with ends := 5, low := lo, ids := [y] } (.slice none 0 0) (.slice none 0 0) (.slice none 0 0) (.slice (some ⟨w6.heap.size, 0, none⟩) 1 1) (numR (-1) s3).2) := H8.out.call q1 q2
          clear q1 q2 H8 hW7 c6 z6 hV
          have c9 : w9.cell? ⟨w.heap.size + 1, 9, none⟩ = some (.string ⟨#[]⟩) := cell_of H9.out.b3.o 9
          have z9 := frozen_of H9.out.b3.o 9
          have HF : Hid (QsAt G B b w.heap.size (w.heap.size + 1) w (w9.setCell ⟨w.heap.size + 1, 9, none⟩ (.string (txtOf (numR (-1) s3).1))) { d9 with ends := 5, low := lo, ids := [y], high := (numR (-1) s3).1 } (.slice none 0 0) (.slice none 0 0) (.slice none 0 0) (.slice (some ⟨w6.heap.size, 0, none⟩) 1 1) (numR (-1) s3).2) := H9.out.put 9 _ rfl ⟨H9.out.own.o, H9.out.own.p, H9.out.own.l, H9.out.own.i⟩
          go_wp2_with fail
          go_meet
          rw [HRq.out]
          exact ⟨_, _, _, _, HF.out⟩
      rw [if_neg k4] at hR0
      rw [decide_eq_false k4] at e4
      clear k4
      by_cases k5 : x = [65, 76, 76]
      · rw [if_pos k5] at hR0
        rw [decide_eq_true k5] at e5
        unfold allRR at hR0
        have HRq : Hid (R = ({ d9 with ends := 6, high := (numR 0 s').1, ids := [(numR 1 (oneR [58] (numR 0 s').2)).1] }, (numR 1 (oneR [58] (numR 0 s').2)).2)) := hR0.symm
        obtain ⟨W1, hW1⟩ : ∃ W, w1.setCell ⟨w.heap.size + 1, 7, none⟩ (.int .i64 6) = W := ⟨_, rfl⟩
        have H2 : Hid (QsAt G B b w.heap.size (w.heap.size + 1) w W1 { d9 with ends := 6 } (.slice none 0 0) (.slice none 0 0) (.slice none 0 0) (.slice none 0 0) s') := by
          show QsAt _ _ _ _ _ _ _ _ _ _ _ _ _
          rw [← hW1]; exact H1.out.put 7 _ rfl (d9_own _ _ _ rfl rfl rfl rfl)
        clear k5 hR0
        go_wp2_with fail
        try rw [hW1]
        refine calls_at (HN0.out W1 s' H2.out.ln) (by with_reducible rfl) (by with_reducible rfl) ?_
        rintro e w3 ⟨rfl, q1, q2⟩
        have H3 : Hid (QsAt G B b w.heap.size (w.heap.size + 1) w w3 { d9 with ends := 6 } (.slice none 0 0) (.slice none 0 0) (.slice none 0 0) (.slice none 0 0) (numR 0 s').2) := H2.out.call q1 q2
        clear q1 q2 H2 hW1 c7 z7 l1 e1 e2 e3 e4 e5
        obtain ⟨hi, hhi⟩ : ∃ y, (numR 0 s').1 = y := ⟨_, rfl⟩
        obtain ⟨s2, hs2⟩ : ∃ y, (numR 0 s').2 = y := ⟨_, rfl⟩
        rw [hhi, hs2] at HRq
        rw [hs2] at H3
        rw [hhi]
        clear hhi hs2
        have c9 : w3.cell? ⟨w.heap.size + 1, 9, none⟩ = some (.string ⟨#[]⟩) := cell_of H3.out.b3.o 9
        have z9 := frozen_of H3.out.b3.o 9
        obtain ⟨W3, hW3⟩ : ∃ W, w3.setCell ⟨w.heap.size + 1, 9, none⟩ (.string (txtOf hi)) = W := ⟨_, rfl⟩
        have H4 : Hid (QsAt G B b w.heap.size (w.heap.size + 1) w W3 { d9 with ends := 6, high := hi } (.slice none 0 0) (.slice none 0 0) (.slice none 0 0) (.slice none 0 0) s2) := by
          show QsAt _ _ _ _ _ _ _ _ _ _ _ _ _
          rw [← hW3]; exact H3.out.put 9 _ rfl (d9_own _ _ _ rfl rfl rfl rfl)
        clear H3
        go_wp2_with fail
        try rw [hW3]
        refine calls_at (HOn.out W3 s2 H4.out.ln) (by with_reducible rfl) (by with_reducible rfl) ?_
        rintro e w5 ⟨rfl, q1, q2⟩
        have H5 : Hid (QsAt G B b w.heap.size (w.heap.size + 1) w w5 { d9 with ends := 6, high := hi } (.slice none 0 0) (.slice none 0 0) (.slice none 0 0) (.slice none 0 0) (oneR [58] s2)) := H4.out.call q1 q2
        clear q1 q2 H4 hW3 c9 z9
        go_wp2_with fail
        refine calls_at (HN1.out w5 _ H5.out.ln) (by with_reducible rfl) (by with_reducible rfl) ?_
        rintro e w4 ⟨rfl, q1, q2⟩
        have H4 : Hid (QsAt G B b w.heap.size (w.heap.size + 1) w w4 { d9 with ends := 6, high := hi } (.slice none 0 0) (.slice none 0 0) (.slice none 0 0) (.slice none 0 0) (numR 1 (oneR [58] s2)).2) := H5.out.call q1 q2
        clear q1 q2 H5
        obtain ⟨y, hy⟩ : ∃ y, (numR 1 (oneR [58] s2)).1 = y := ⟨_, rfl⟩
        obtain ⟨s3, hs3⟩ : ∃ y, (numR 1 (oneR [58] s2)).2 = y := ⟨_, rfl⟩
        rw [hy, hs3] at HRq
        rw [hs3] at H4
        rw [hy]
        clear hy hs3
        obtain ⟨V, hV⟩ : ∃ V, w4.alloc (.cells #[.string (txtOf y)] 9) = V := ⟨_, rfl⟩
        have hbV : Below w4.heap.size w4 V := by rw [← hV]; exact (Below.refl _ _).alloc (Nat.le_refl _) _
        have hI : V.ownsRow (w.heap.size + 2) 9 1 (.slice (some ⟨w4.heap.size, 0, none⟩) 1 1) 1 [.string (txtOf y)] := by rw [← hV]; exact World.ownsRow_lit w4 #[.string (txtOf y)] 1 H4.out.sz (by decide) rfl
        have H7 : Hid (QsAt G B b w.heap.size (w.heap.size + 1) w V { d9 with ends := 6, high := hi } (.slice none 0 0) (.slice none 0 0) (.slice none 0 0) (.slice none 0 0) s3) := H4.out.below hbV
        have c6 : V.cell? ⟨w.heap.size + 1, 6, none⟩ = some (.slice none 0 0) := cell_of H7.out.b3.o 6
        have z6 := frozen_of H7.out.b3.o 6
        have HF : Hid (QsAt G B b w.heap.size (w.heap.size + 1) w (V.setCell ⟨w.heap.size + 1, 6, none⟩ (.slice (some ⟨w4.heap.size, 0, none⟩) 1 1)) { d9 with ends := 6, high := hi, ids := [y] } (.slice none 0 0) (.slice none 0 0) (.slice none 0 0) (.slice (some ⟨w4.heap.size, 0, none⟩) 1 1) s3) := H7.out.put 6 _ rfl (d9_one _ rfl rfl rfl rfl hI)
        clear hbV hI H7 H4
        go_wp2_with fail
        go_meet
        rw [HRq.out]
        exact ⟨_, _, _, _, HF.out⟩
      rw [if_neg k5] at hR0
      rw [decide_eq_false k5] at e5
      have HRq : Hid (R = (d9, failR 80 s')) := hR0.symm
      clear k5 hR0
      go_wp2_with fail
      refine calls_at (HFa.out w1 s' H1.out.ln) (by with_reducible rfl) (by with_reducible rfl) ?_
      rintro e w3 ⟨rfl, q1, q2⟩
      have HF : Hid (QsAt G B b w.heap.size (w.heap.size + 1) w w3 d9 (.slice none 0 0) (.slice none 0 0) (.slice none 0 0) (.slice none 0 0) (failR 80 s')) := H1.out.call q1 q2
      clear q1 q2
      go_wp2_with fail
      go_meet
      rw [HRq.out]
      exact ⟨_, _, _, _, HF.out⟩
    · have HRq : Hid (R = (d9, s')) := by
        show _ = _
        rw [← HR.out]; unfold endsW; rw [if_pos h0]
      have h1 : (s'.2 == 0) = false := by simpa using h0
      clear h0
      go_wp2_with fail
      go_meet
      rw [HRq.out]
      exact ⟨_, _, _, _, H1.out⟩
  case rest =>
  obtain ⟨vo, vp, vl, vi, hQ⟩ := hcut.out
  obtain ⟨d, sf⟩ := R
  have HQ : Hid (QsAt G B b w.heap.size (w.heap.size + 1) w wc d vo vp vl vi sf) := hQ
  obtain ⟨oa, oc, pa, pc, la, lc, ia, ic, rfl, rfl, rfl, rfl⟩ := own_ten hQ.own
  clear hQ hcut H1
  have q0 : wc.cell? ⟨w.heap.size + 1, 0, none⟩ = some (.int .i64 d.k) := cell_of HQ.out.b3.o 0
  have q1 : wc.cell? ⟨w.heap.size + 1, 1, none⟩ = some (.string (txtOf d.n)) := cell_of HQ.out.b3.o 1
  have q2 : wc.cell? ⟨w.heap.size + 1, 2, none⟩ = some (.slice oa d.ops.length oc) := cell_of HQ.out.b3.o 2
  have q3 : wc.cell? ⟨w.heap.size + 1, 3, none⟩ = some (.slice pa d.pcs.length pc) := cell_of HQ.out.b3.o 3
  have q4 : wc.cell? ⟨w.heap.size + 1, 4, none⟩ = some (.string (txtOf d.deg)) := cell_of HQ.out.b3.o 4
  have q5 : wc.cell? ⟨w.heap.size + 1, 5, none⟩ = some (.slice la d.lits.length lc) := cell_of HQ.out.b3.o 5
  have q6 : wc.cell? ⟨w.heap.size + 1, 6, none⟩ = some (.slice ia d.ids.length ic) := cell_of HQ.out.b3.o 6
  have q7 : wc.cell? ⟨w.heap.size + 1, 7, none⟩ = some (.int .i64 d.ends) := cell_of HQ.out.b3.o 7
  have q8 : wc.cell? ⟨w.heap.size + 1, 8, none⟩ = some (.string (txtOf d.low)) := cell_of HQ.out.b3.o 8
  have q9 : wc.cell? ⟨w.heap.size + 1, 9, none⟩ = some (.string (txtOf d.high)) := cell_of HQ.out.b3.o 9
  have s0 : wc.cell? ⟨w.heap.size, 0, none⟩ = some (.int .i64 0) := cell_of HQ.out.b2.o 0
  have s1 : wc.cell? ⟨w.heap.size, 1, none⟩ = some (.string ⟨#[]⟩) := cell_of HQ.out.b2.o 1
  have s2 : wc.cell? ⟨w.heap.size, 2, none⟩ = some (.slice none 0 0) := cell_of HQ.out.b2.o 2
  have s3 : wc.cell? ⟨w.heap.size, 3, none⟩ = some (.slice none 0 0) := cell_of HQ.out.b2.o 3
  have s4 : wc.cell? ⟨w.heap.size, 4, none⟩ = some (.string ⟨#[]⟩) := cell_of HQ.out.b2.o 4
  have s5 : wc.cell? ⟨w.heap.size, 5, none⟩ = some (.slice none 0 0) := cell_of HQ.out.b2.o 5
  have s6 : wc.cell? ⟨w.heap.size, 6, none⟩ = some (.slice none 0 0) := cell_of HQ.out.b2.o 6
  have s7 : wc.cell? ⟨w.heap.size, 7, none⟩ = some (.int .i64 0) := cell_of HQ.out.b2.o 7
  have s8 : wc.cell? ⟨w.heap.size, 8, none⟩ = some (.string ⟨#[]⟩) := cell_of HQ.out.b2.o 8
  have s9 : wc.cell? ⟨w.heap.size, 9, none⟩ = some (.string ⟨#[]⟩) := cell_of HQ.out.b2.o 9
  have kz := frozen_of HQ.out.b2.o
  go_wp2_with fail
  have hE := HQ.out.out (.int .i64 d.k) (.string (txtOf d.n)) (.slice oa d.ops.length oc) (.slice pa d.pcs.length pc) (.string (txtOf d.deg)) (.slice la d.lits.length lc) (.slice ia d.ids.length ic) (.int .i64 d.ends) (.string (txtOf d.low)) (.string (txtOf d.high)) rfl
  have m0 := cell_of hE.2.o 0
  have m1 := cell_of hE.2.o 1
  have m2 := cell_of hE.2.o 2
  have m3 := cell_of hE.2.o 3
  have m4 := cell_of hE.2.o 4
  have m5 := cell_of hE.2.o 5
  have m6 := cell_of hE.2.o 6
  have m7 := cell_of hE.2.o 7
  have m8 := cell_of hE.2.o 8
  have m9 := cell_of hE.2.o 9
  simp only [slC] at m0 m1 m2 m3 m4 m5 m6 m7 m8 m9
  exact bodyPost_ret (v := .agg (slC d (.slice oa d.ops.length oc) (.slice pa d.pcs.length pc) (.slice la d.lits.length lc) (.slice ia d.ids.length ic))) (by simp [results, Tryz.results30, go_sem, m0, m1, m2, m3, m4, m5, m6, m7, m8, m9]; rfl) rfl hE.1
end Go.Proofs.YtgckmkdmlaocmaaGreatDoor

namespace Go.Proofs.YtgckmkdmlaocmaaGreatDoor
open Go.RowKit

def llR {α : Type} (f : RS → α × RS) : Nat → List α → RS → List α × RS
  | 0, L, s => (L, s)
  | n + 1, L, s => if moreR s = true then llR f n (L ++ [(f s).1]) (f s).2 else (L, s)
def QlM {α : Type} (f : RS → α × RS) (g n0 : Nat) (L : List α) (s : RS) (all : List α × RS) : Prop := 1 ≤ g ∧ (s.2 = 0 → s.1.length + 1 ≤ g ∧ L.length + s.1.length ≤ n0) ∧ L.length ≤ n0 + 1 ∧ all = llR f g L s
theorem qlm_stop {α : Type} {f : RS → α × RS} {g n0 : Nat} {L : List α} {s : RS} {all : List α × RS} (h : QlM f g n0 L s all) (hs : moreR s = false) : all = (L, s) := by
  obtain ⟨h1, _, _, h2⟩ := h
  obtain ⟨g', rfl⟩ : ∃ g', g = g' + 1 := ⟨g - 1, by omega⟩
  rw [h2]
  unfold llR
  rw [if_neg (by rw [hs]; simp)]
theorem qlm_next {α : Type} {f : RS → α × RS} (hf : ∀ s, (f s).2.1.length ≤ s.1.length ∧ ((f s).2.2 = 0 → s.2 = 0 ∧ (f s).2.1.length + 1 = s.1.length)) {g n0 : Nat} {L : List α} {s : RS} {all : List α × RS} (h : QlM f (g + 1) n0 L s all) (hs : moreR s = true) : QlM f g n0 (L ++ [(f s).1]) (f s).2 all := by
  obtain ⟨h1, h2, h3, h4⟩ := h
  obtain ⟨m1, m2⟩ := more_is hs
  have h5 := h2 m1
  refine ⟨by omega, fun e => ?_, by simp; omega, ?_⟩
  · have h6 := (hf s).2 e
    simp only [List.length_append, List.length_cons, List.length_nil]
    omega
  · rw [h4]
    conv => lhs; unfold llR
    rw [if_pos hs]
theorem own_types {w : World} {B B' : Nat} {e e' : TypeId} {size size' : Nat} {v v' : Value} {n n' : Nat} {xs xs' : List Value} (h : w.ownsRow B e size v n xs) (h' : w.ownsRow B' e' size' v' n' xs') (he : e ≠ e') : ∀ g, v.ownBlock = some g → v'.ownBlock ≠ some g := fun g hg hg' => by
  rcases h.2 with ⟨h1, _⟩ | ⟨g1, cap1, cur1, h1, _, h2, _⟩
  · rw [h1] at hg; cases hg
  · rcases h'.2 with ⟨h3, _⟩ | ⟨g2, cap2, cur2, h3, _, h4, _⟩
    · rw [h3] at hg'; cases hg'
    · rw [h1] at hg
      rw [h3] at hg'
      have e1 : g1 = g := Option.some.inj hg
      have e2 : g2 = g := Option.some.inj hg'
      rw [e1] at h2
      rw [e2, h2] at h4
      have h5 := Option.some.inj h4
      injection h5 with _ h6
      exact he h6
theorem QsAt.appI {G B b p2 p3 : Nat} {w0 w w6 : World} {d : SL} {vo vp vl vi v6 : Value} {s : RS} {y : List UInt8} (h : QsAt G B b p2 p3 w0 w d vo vp vl vi s) (h1 : w6.ownsRow (w0.heap.size + 2) 9 1 v6 (d.ids.length + 1) ((d.ids.map fun x => .string (txtOf x)) ++ [.string (txtOf y)])) (h2 : (w.alloc (.cells #[.string (txtOf y)] 9)).grownBy w6 vi.ownBlock) : StAt w6 p3 (slC d vo vp vl vi) ∧ QsAt G B b p2 p3 w0 (w6.setCell ⟨p3, 6, none⟩ v6) { d with ids := d.ids ++ [y] } vo vp vl v6 s := by
  have e2 := h.e2
  have e3 := h.e3
  have hb := h.bw
  have hB := h.bB
  have hsz := h.sz
  have hv : ∀ g, vi.ownBlock = some g → w0.heap.size + 2 ≤ g := fun g hg => (h.own.i.lt g hg).1
  have hk : ∀ k, k < w.heap.size → vi.ownBlock ≠ some k → w6.heap[k]? = w.heap[k]? := fun k h3 h4 => by
    rw [h2.block k (by simp; omega) (fun e => h4 e.symm), heap_alloc_old w _ k h3]
  have hlow : ∀ k, k < w0.heap.size + 2 → w6.heap[k]? = w.heap[k]? := fun k h3 => hk k (by omega) (fun e => by have := hv k e; omega)
  have hz6 : w.heap.size ≤ w6.heap.size := by have h5 := h2.size; simp at h5; omega
  have g3 : StAt w6 p3 (slC d vo vp vl vi) := ⟨(hlow p3 (by omega)).trans h.b3.o, h.b3.n⟩
  have hne : ∀ k, k ≠ p3 → (w6.setCell ⟨p3, 6, none⟩ v6).heap[k]? = w6.heap[k]? := fun k hk => heap_setCell_other _ _ _ _ hk
  refine ⟨g3, e2, e3, ⟨(hne p2 (by omega)).trans ((hlow p2 (by omega)).trans h.b2.o), h.b2.n⟩, ⟨set_of g3.o 6 v6, rfl⟩, ⟨own_keep h.own.o fun g hg => (hne g (by have := (h.own.o.lt g hg).1; omega)).trans (hk g (h.own.o.lt g hg).2 (own_types h.own.o h.own.i (by decide) g hg)), own_keep h.own.p fun g hg => (hne g (by have := (h.own.p.lt g hg).1; omega)).trans (hk g (h.own.p.lt g hg).2 (own_types h.own.p h.own.i (by decide) g hg)), own_keep h.own.l fun g hg => (hne g (by have := (h.own.l.lt g hg).1; omega)).trans (hk g (h.own.l.lt g hg).2 (own_types h.own.l h.own.i (by decide) g hg)), by rw [List.length_append, List.map_append]; exact own_keep h1 fun g hg => hne g (by have := (h1.lt g hg).1; omega)⟩, h.ln.off ((hne b (by omega)).trans (hlow b (by omega))) (fun k hk1 _ => (hne k (by have := h.gs; omega)).trans (hlow k (by have := h.gs; omega))) (by simpa using hz6), h.gs, h.bw, h.bB, ?_, ⟨Nat.le_trans h.stp.off.size (by simpa using hz6), fun k h3 h4 => (hne k (by omega)).trans ((hlow k (by omega)).trans (h.stp.off.block k h3 h4))⟩⟩
  exact (h.stp.below.trans (((Below.refl B w).alloc (by omega) _).grown h2 (by simp; omega) (fun k hk => Nat.le_trans (by omega) (hv k hk)))).setCell (by show B ≤ p3; omega) _
theorem QsAt.appL {G B b p2 p3 : Nat} {w0 w w6 : World} {d : SL} {vo vp vl vi v6 : Value} {s : RS} {y : Int} (h : QsAt G B b p2 p3 w0 w d vo vp vl vi s) (h1 : w6.ownsRow (w0.heap.size + 2) 3 1 v6 (d.lits.length + 1) ((d.lits.map (.int .i64)) ++ [.int .i64 y])) (h2 : (w.alloc (.cells #[.int .i64 y] 3)).grownBy w6 vl.ownBlock) : StAt w6 p3 (slC d vo vp vl vi) ∧ QsAt G B b p2 p3 w0 (w6.setCell ⟨p3, 5, none⟩ v6) { d with lits := d.lits ++ [y] } vo vp v6 vi s := by
  have e2 := h.e2
  have e3 := h.e3
  have hb := h.bw
  have hB := h.bB
  have hsz := h.sz
  have hv : ∀ g, vl.ownBlock = some g → w0.heap.size + 2 ≤ g := fun g hg => (h.own.l.lt g hg).1
  have hk : ∀ k, k < w.heap.size → vl.ownBlock ≠ some k → w6.heap[k]? = w.heap[k]? := fun k h3 h4 => by
    rw [h2.block k (by simp; omega) (fun e => h4 e.symm), heap_alloc_old w _ k h3]
  have hlow : ∀ k, k < w0.heap.size + 2 → w6.heap[k]? = w.heap[k]? := fun k h3 => hk k (by omega) (fun e => by have := hv k e; omega)
  have hz6 : w.heap.size ≤ w6.heap.size := by have h5 := h2.size; simp at h5; omega
  have g3 : StAt w6 p3 (slC d vo vp vl vi) := ⟨(hlow p3 (by omega)).trans h.b3.o, h.b3.n⟩
  have hne : ∀ k, k ≠ p3 → (w6.setCell ⟨p3, 5, none⟩ v6).heap[k]? = w6.heap[k]? := fun k hk => heap_setCell_other _ _ _ _ hk
  refine ⟨g3, e2, e3, ⟨(hne p2 (by omega)).trans ((hlow p2 (by omega)).trans h.b2.o), h.b2.n⟩, ⟨set_of g3.o 5 v6, rfl⟩, ⟨own_keep h.own.o fun g hg => (hne g (by have := (h.own.o.lt g hg).1; omega)).trans (hk g (h.own.o.lt g hg).2 (own_types h.own.o h.own.l (by decide) g hg)), own_keep h.own.p fun g hg => (hne g (by have := (h.own.p.lt g hg).1; omega)).trans (hk g (h.own.p.lt g hg).2 (own_types h.own.p h.own.l (by decide) g hg)), by rw [List.length_append, List.map_append]; exact own_keep h1 fun g hg => hne g (by have := (h1.lt g hg).1; omega), own_keep h.own.i fun g hg => (hne g (by have := (h.own.i.lt g hg).1; omega)).trans (hk g (h.own.i.lt g hg).2 (own_types h.own.i h.own.l (by decide) g hg))⟩, h.ln.off ((hne b (by omega)).trans (hlow b (by omega))) (fun k hk1 _ => (hne k (by have := h.gs; omega)).trans (hlow k (by have := h.gs; omega))) (by simpa using hz6), h.gs, h.bw, h.bB, ?_, ⟨Nat.le_trans h.stp.off.size (by simpa using hz6), fun k h3 h4 => (hne k (by omega)).trans ((hlow k (by omega)).trans (h.stp.off.block k h3 h4))⟩⟩
  exact (h.stp.below.trans (((Below.refl B w).alloc (by omega) _).grown h2 (by simp; omega) (fun k hk => Nat.le_trans (by omega) (hv k hk)))).setCell (by show B ≤ p3; omega) _
theorem QsAt.all {G B b p2 p3 : Nat} {w0 w : World} {d d' : SL} {vo vp vl vi vo' vp' vl' vi' : Value} {s : RS} (h : QsAt G B b p2 p3 w0 w d vo vp vl vi s) (v0 v1 v2 v3 v4 v5 v6 v7 v8 v9 : Value) (hc : #[v0, v1, v2, v3, v4, v5, v6, v7, v8, v9] = slC d' vo' vp' vl' vi') (ho : SlOwn (w0.heap.size + 2) w d' vo' vp' vl' vi') : QsAt G B b p2 p3 w0 ((((((((((w.setCell ⟨p3, 0, none⟩ v0).setCell ⟨p3, 1, none⟩ v1).setCell ⟨p3, 2, none⟩ v2).setCell ⟨p3, 3, none⟩ v3).setCell ⟨p3, 4, none⟩ v4).setCell ⟨p3, 5, none⟩ v5).setCell ⟨p3, 6, none⟩ v6).setCell ⟨p3, 7, none⟩ v7).setCell ⟨p3, 8, none⟩ v8).setCell ⟨p3, 9, none⟩ v9) d' vo' vp' vl' vi' s := by
  have hS := set10 h.b3 v0 v1 v2 v3 v4 v5 v6 v7 v8 v9
  rw [hc] at hS
  have e2 := h.e2
  have e3 := h.e3
  have hb := h.bw
  have hB := h.bB
  refine ⟨e2, e3, ⟨(ne10 (by omega) _ _ _ _ _ _ _ _ _ _).trans h.b2.o, h.b2.n⟩, hS, ho.keep fun g h3 _ => ne10 (by omega) _ _ _ _ _ _ _ _ _ _, h.ln.off (ne10 (by omega) _ _ _ _ _ _ _ _ _ _) (fun k hk1 _ => ne10 (by have := h.gs; omega) _ _ _ _ _ _ _ _ _ _) (by simp), h.gs, h.bw, h.bB, ⟨bl10B h.stp.below (by omega) _ _ _ _ _ _ _ _ _ _, ⟨Nat.le_trans h.stp.off.size (by simp), fun k h3 h4 => (ne10 (by omega) _ _ _ _ _ _ _ _ _ _).trans (h.stp.off.block k h3 h4)⟩⟩⟩
theorem QsAt.drewn {G B b p2 p3 : Nat} {w0 w : World} {d : SL} {vo vp vl vi : Value} {s : RS} (h : QsAt G B b p2 p3 w0 w d vo vp vl vi s) : QsAt G B b p2 p3 w0 w.drew d vo vp vl vi s := h.below (Below.refl _ _).drew
end Go.Proofs.YtgckmkdmlaocmaaGreatDoor
