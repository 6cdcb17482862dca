/-
  Put together: DrBack, DrCopy.
-/
import Derived.Test.YtchpapppkmnfnaaGreatDoorJ37
namespace Go.Proofs.YtchpapppkmnfnaaGreatDoor
open Go.RowKit

theorem own_take {w : World} {B : Nat} {e : TypeId} {g n q cap : Nat} {xs : List Value} (h : w.ownsRow B e 1 (.slice (some ⟨g, 0, none⟩) n cap) n xs) (hq : q ≤ n) : w.ownsRow B e 1 (.slice (some ⟨g, 0, none⟩) q cap) q (xs.take q) := by
  have hl := h.1
  refine ⟨by rw [List.length_take]; omega, .inr ?_⟩
  rcases h.2 with ⟨h1, _⟩ | ⟨g', cap', cur, hv, e2, e3, e4, e5, e6, e7⟩
  · cases h1
  · injection hv with a1 _ a3
    injection a1 with a1
    injection a1 with a1 _ _
    subst a1 a3
    refine ⟨g, cap, cur, rfl, e2, e3, by omega, e5, e6, ?_⟩
    rw [← e7, List.take_take]
    congr 1
    omega
def backL (MM : List (List (List Int))) (k : Int) : Bool := decide (0 ≤ k) && decide (k < (MM.length : Int))
theorem rs_back {B : Nat} {S : Nat → Prop} {w w2 : World} {r : Nat} {LL : List (List Int)} {MM : List (List (List Int))} {dv u : Value} {ma : Option Addr} {mc q : Nat} (h : RsAt B S w r LL MM) (ho : w.heap[r]? = some (.cells #[dv, .slice ma MM.length mc] 92 (0, 0))) (hm : MksR S w (.slice ma MM.length mc) dv MM) (hq : q < MM.length)
    (hb : Below w.heap.size w w2) (hF : FrR w.heap.size w2 u MM[q]) :
    (∃ S', RsAt B S' ((w2.setCell ⟨r, 0, none⟩ u).setCell ⟨r, 1, none⟩ (.slice ma q mc)) r MM[q] (MM.take q) ∧ SStp B S w ((w2.setCell ⟨r, 0, none⟩ u).setCell ⟨r, 1, none⟩ (.slice ma q mc)) ∧ Grown S w ((w2.setCell ⟨r, 0, none⟩ u).setCell ⟨r, 1, none⟩ (.slice ma q mc)) S') := by
  have hBw : B ≤ w.heap.size := Nat.le_of_lt (Nat.lt_of_le_of_lt (h.lo r h.sr) (h.lt r h.sr))
  have hr2 : w2.heap[r]? = some (.cells #[dv, .slice ma MM.length mc] 92 (0, 0)) := (hb.block r (h.lt r h.sr)).trans ho
  have hsz : ((w2.setCell ⟨r, 0, none⟩ u).setCell ⟨r, 1, none⟩ (.slice ma q mc)).heap.size = w2.heap.size := by simp
  have oth : ∀ k, k ≠ r → ((w2.setCell ⟨r, 0, none⟩ u).setCell ⟨r, 1, none⟩ (.slice ma q mc)).heap[k]? = w2.heap[k]? := fun k hk => by
    rw [heap_setCell_other _ _ _ _ hk, heap_setCell_other _ _ _ _ hk]
  have hK : Keeps (fun _ => True) w2 ((w2.setCell ⟨r, 0, none⟩ u).setCell ⟨r, 1, none⟩ (.slice ma q mc)) := fun k cur t _ ht hc => by
    rw [oth k (type_ne hc hr2 (by rcases ht with rfl | rfl <;> decide)), hc]
  have hKS : Keeps S w ((w2.setCell ⟨r, 0, none⟩ u).setCell ⟨r, 1, none⟩ (.slice ma q mc)) := fun k cur t hS ht hc => hK k cur t trivial ht ((hb.block k (h.lt k hS)).trans hc)
  obtain ⟨cs, m1, m2, m3⟩ := hm
  have hcl : cs.length = MM.length := by have := m1.1; omega
  obtain ⟨g, rfl⟩ : ∃ g, ma = some ⟨g, 0, none⟩ := by
    rcases m1.2 with ⟨e, e2⟩ | ⟨g, cap, cur, e, _⟩
    · omega
    · injection e with e _ _
      exact ⟨g, e⟩
  have sub : ∀ k, S k → S k ∨ (w.heap.size ≤ k ∧ k < w2.heap.size) := fun k hk => .inl hk
  refine ⟨fun k => S k ∨ (w.heap.size ≤ k ∧ k < w2.heap.size), ⟨⟨u, .slice (some ⟨g, 0, none⟩) q mc, ?_, ?_, ⟨cs.take q, ?_, ?_, fun i hi => ?_⟩⟩, .inl h.sr, ?_, ?_, h.fews _ (List.getElem_mem hq), fun M hM => h.fews M (List.mem_of_mem_take hM), ?_⟩, ⟨?_, ?_⟩, ?_⟩
  · have f1 := heap_setCell_same w2 r 0 _ 92 u hr2
    rw [heap_setCell_same _ r 1 _ 92 _ f1]
    rfl
  · exact (hF.lss (S := fun k => S k ∨ (w.heap.size ≤ k ∧ k < w2.heap.size)) (fun k a b => .inr ⟨a, b⟩)).keepT fun k cur t _ ht hc => hK k cur t trivial ht hc
  · rw [List.length_take, Nat.min_eq_left (by omega)]
    refine own_keep (own_take m1 (by omega)) fun g' hg' => ?_
    have e : g = g' := by injection hg'
    subst e
    obtain ⟨cur, hc⟩ := own_type m1 (g := g) rfl
    have h2 := (hb.block g (h.lt g (m2 g rfl))).trans hc
    rw [oth g (type_ne h2 hr2 (by decide)), h2, hc]
  · intro g' hg'
    exact .inl (m2 g' hg')
  · rw [List.length_take] at hi
    obtain ⟨x, hx, hl, _⟩ := m3 i (by omega)
    refine ⟨x, by rw [List.getElem?_take, if_pos (by omega)]; exact hx, ?_, fun g' hg' e => ?_⟩
    · rw [List.getElem_take]
      exact (hl.keepT hKS).more sub
    · have a1 := (hF.lo hg').1
      obtain ⟨_, _, d2, _⟩ := hl
      have a2 := h.lt g' (d2 g' e)
      omega
  · rintro k (e | e)
    · exact h.lo k e
    · omega
  · rintro k (e | e)
    · rw [hsz]; have := h.lt k e; have := hb.size; omega
    · rw [hsz]; exact e.2
  · rw [List.length_take]; have := h.ms; omega
  · exact ((hb.mono hBw).setCell (h.lo r h.sr) _).setCell (h.lo r h.sr) _
  · exact ((Off.of_below hb).trans (Off.set _ h.sr)).trans (Off.set _ h.sr)
  · rintro k (e | e)
    · exact .inl e
    · exact .inr (by rw [hsz]; exact e)
def RbOut (B : Nat) (S : Nat → Prop) (r : Nat) (LL : List (List Int)) (MM : List (List (List Int))) (k : Int) (w : World) (e : Ending) (w' : World) : Prop := e = .returned (.bool (backL MM k)) ∧ ∃ S', RsAt B S' w' r (if backL MM k then MM.getD k.toNat [] else LL) (if backL MM k then MM.take k.toNat else MM) ∧ SStp B S w w' ∧ Grown S w w' S'

set_option maxRecDepth 10000 in
set_option maxHeartbeats 1000000 in
theorem rBack_any {B : Nat} {S : Nat → Prop} {r : Nat} {LL : List (List Int)} {MM : List (List (List Int))} (k : Int) (w : World) (h : RsAt B S w r LL MM) : Calls Tryz.prog 35 #[.pointer (some ⟨r, 0, none⟩), .int .i64 k] w (RbOut B S r LL MM k w) := by
  have hBw : B ≤ w.heap.size := Nat.le_of_lt (Nat.lt_of_le_of_lt (h.lo r h.sr) (h.lt r h.sr))
  obtain ⟨dv, mv, ho, hd, hmk⟩ := h.ex
  have c1 : w.cell? ⟨r, 1, none⟩ = some mv := cell_of ho 1
  have HA : Hid (RsAt B S w r LL MM) := h
  obtain ⟨ma, mc, rfl⟩ : ∃ a c, mv = .slice a MM.length c := by obtain ⟨_, d1, _⟩ := hmk; exact own_slice d1
  by_cases h0 : 0 ≤ k
  · by_cases h1 : k < (MM.length : Int)
    · obtain ⟨q, rfl, hq⟩ : ∃ q : Nat, k = (q : Int) ∧ q < MM.length := ⟨k.toNat, by omega, by omega⟩
      have hbk : backL MM (q : Int) = true := by simp [backL]; omega
      have HE : Hid (∀ w2 u, Below w.heap.size w w2 → FrR w.heap.size w2 u MM[q] → ∃ S', RsAt B S' ((w2.setCell ⟨r, 0, none⟩ u).setCell ⟨r, 1, none⟩ (.slice ma q mc)) r MM[q] (MM.take q) ∧ SStp B S w ((w2.setCell ⟨r, 0, none⟩ u).setCell ⟨r, 1, none⟩ (.slice ma q mc)) ∧ Grown S w ((w2.setCell ⟨r, 0, none⟩ u).setCell ⟨r, 1, none⟩ (.slice ma q mc)) S') := fun w2 u a1 a2 => rs_back h ho hmk hq a1 a2
      obtain ⟨cs, m1, m2, m3⟩ := hmk
      obtain ⟨x, hx, hl, _⟩ := m3 q hq
      have HOw : Hid (Calls Tryz.prog 80 #[x] w (OwOut MM[q] w)) := own_any w hl h.lt (h.fews _ (List.getElem_mem hq))
      obtain ⟨g, rfl, c2, hcap⟩ : ∃ g, ma = some ⟨g, 0, none⟩ ∧ w.cell? ⟨g, q, none⟩ = some x ∧ MM.length ≤ mc := by
        rcases own_cells m1 with ⟨e, e2⟩ | ⟨g, cap, e, _, _, e4, hc⟩
        · omega
        · injection e with e _ e3
          exact ⟨g, e, hc q x hx, by omega⟩
      have hqI : (q : Int) < (MM.length : Int) := by omega
      have hms := h.ms
      obtain ⟨M, hMM⟩ : ∃ M, MM[q] = M := ⟨_, rfl⟩
      have HD : Hid (MM.getD q [] = M) := by show _ = _; rw [List.getD_eq_getElem?_getD, List.getElem?_eq_getElem hq, hMM]; rfl
      rw [hMM] at HOw
      simp only [hMM] at HE
      obtain ⟨xa, xc, rfl⟩ : ∃ a c, x = .slice a MM[q].length c := by obtain ⟨_, d1, _⟩ := hl; exact own_slice d1
      have HR : Hid (w.heap[r]? = some (.cells #[dv, .slice (some ⟨g, 0, none⟩) MM.length mc] 92 (0, 0)) ∧ r < w.heap.size) := ⟨ho, h.lt r h.sr⟩
      have hcapI : (q : Int) ≤ (mc : Int) := by omega
      rw [hMM] at HOw c2
      clear h ho hd m1 m2 m3 hx hl hMM
      go_enter Tryz.func35, Tryz.ntmps35
      go_wp2_with fail
      refine calls_at HOw.out (by with_reducible rfl) (by with_reducible rfl) ?_
      rintro e w2 ⟨u, rfl, hF, hb⟩
      obtain ⟨ua, uc, rfl⟩ : ∃ a c, u = .slice a M.length c := by obtain ⟨_, d1, _⟩ := hF; exact own_slice d1
      have g2 : w2.heap[r]? = some (.cells #[dv, .slice (some ⟨g, 0, none⟩) MM.length mc] 92 (0, 0)) := (hb.block r HR.out.2).trans HR.out.1
      have g3 := heap_setCell_same w2 r 0 _ 92 (.slice ua M.length uc) g2
      have HEd := HE.out w2 _ hb hF
      have HEx : Hid (∃ S', RsAt B S' ((w2.setCell ⟨r, 0, none⟩ (.slice ua M.length uc)).setCell ⟨r, 1, none⟩ (.slice (some ⟨g, 0, none⟩) q mc)) r M (MM.take q) ∧ SStp B S w ((w2.setCell ⟨r, 0, none⟩ (.slice ua M.length uc)).setCell ⟨r, 1, none⟩ (.slice (some ⟨g, 0, none⟩) q mc)) ∧ Grown S w ((w2.setCell ⟨r, 0, none⟩ (.slice ua M.length uc)).setCell ⟨r, 1, none⟩ (.slice (some ⟨g, 0, none⟩) q mc)) S') := HEd
      have d0 : w2.cell? ⟨r, 0, none⟩ = some dv := cell_of g2 0
      have d1 : w2.cell? ⟨r, 1, none⟩ = some (.slice (some ⟨g, 0, none⟩) MM.length mc) := cell_of g2 1
      have dz : ∀ i, w2.frozen? ⟨r, i, none⟩ = false := frozen_of g2
      obtain ⟨X, hX⟩ : ∃ X, w2.setCell ⟨r, 0, none⟩ (.slice ua M.length uc) = X := ⟨_, rfl⟩
      rw [hX] at g3 HEx
      have x0 : X.cell? ⟨r, 0, none⟩ = some (.slice ua M.length uc) := (cell_of g3 0).trans rfl
      have x1 : X.cell? ⟨r, 1, none⟩ = some (.slice (some ⟨g, 0, none⟩) MM.length mc) := (cell_of g3 1).trans rfl
      have xz : ∀ i, X.frozen? ⟨r, i, none⟩ = false := frozen_of g3
      clear hF hb g2 g3 HEd
      go_wp2_with fail
      go_ret
      obtain ⟨S', q1, q2, q3⟩ := HEx.out
      refine ⟨ret_bool hbk.symm, S', ?_, q2, q3⟩
      rw [hbk, if_pos rfl, if_pos rfl, Int.toNat_natCast, HD.out]
      exact q1
    · have hbk : backL MM k = false := by simp [backL, h1]
      have h1' : (MM.length : Int) ≤ k := by omega
      clear h ho hd hmk
      go_enter Tryz.func35, Tryz.ntmps35
      go_wp2_with fail
      go_ret
      exact ⟨ret_bool hbk.symm, S, by rw [hbk]; exact HA.out, SStp.refl _ _ _, Grown.refl _ _ _⟩
  · have hbk : backL MM k = false := by simp [backL, h0]
    have h0' : k < 0 := by omega
    clear h ho hd hmk
    go_enter Tryz.func35, Tryz.ntmps35
    go_wp2_with fail
    go_ret
    exact ⟨ret_bool hbk.symm, S, by rw [hbk]; exact HA.out, SStp.refl _ _ _, Grown.refl _ _ _⟩
end Go.Proofs.YtchpapppkmnfnaaGreatDoor

namespace Go.Proofs.YtchpapppkmnfnaaGreatDoor
open Go.RowKit

def RyOut (LL : List (List Int)) (MM : List (List (List Int))) (w : World) (e : Ending) (w' : World) : Prop := ∃ r S, e = .returned (.pointer (some ⟨r, 0, none⟩)) ∧ RsAt w.heap.size S w' r LL MM ∧ Below w.heap.size w w'
theorem FrR.less {m n : Nat} {w : World} {u : Value} {LL : List (List Int)} (h : FrR n w u LL) (hm : m ≤ n) : FrR m w u LL := by
  obtain ⟨cs', f1, f2⟩ := h
  refine ⟨cs', own_lessR f1 hm, fun i hi => ?_⟩
  obtain ⟨x, hx, hl⟩ := f2 i hi
  exact ⟨x, hx, own_lessR hl hm⟩
set_option maxRecDepth 10000 in
set_option maxHeartbeats 1000000 in
theorem rCopy_any {B : Nat} {S : Nat → Prop} {r : Nat} {LL : List (List Int)} {MM : List (List (List Int))} (w : World) (h : RsAt B S w r LL MM) : Calls Tryz.prog 36 #[.pointer (some ⟨r, 0, none⟩)] w (RyOut LL MM w) := by
  obtain ⟨dv, mv, ho, hd, cs, m1, m2, m3⟩ := h.ex
  have c0 : w.cell? ⟨r, 0, none⟩ = some dv := cell_of ho 0
  have HOw : Hid (Calls Tryz.prog 80 #[dv] w (OwOut LL w)) := own_any w hd h.lt h.few
  obtain ⟨da, dc, rfl⟩ : ∃ a c, dv = .slice a LL.length c := by obtain ⟨_, d1, _⟩ := hd; exact own_slice d1
  obtain ⟨ma, mc, rfl⟩ := own_slice m1
  have HC : Hid (∀ w', Below w.heap.size w w' → w'.cell? ⟨r, 1, none⟩ = some (.slice ma MM.length mc)) := fun w' hb => cell_of ((hb.block r (h.lt r h.sr)).trans ho) 1
  have HM : Hid (∀ w', Below w.heap.size w w' → ∀ i (hi : i < MM.length), ∃ g x, ma = some ⟨g, 0, none⟩ ∧ w'.cell? ⟨g, i, none⟩ = some x ∧ (∃ a c, x = .slice a MM[i].length c) ∧ ∀ w'', Below w.heap.size w w'' → Calls Tryz.prog 80 #[x] w'' (OwOut MM[i] w'')) := fun w' hb i hi => by
    obtain ⟨x, hx, hl, _⟩ := m3 i hi
    rcases own_cells m1 with ⟨e, e2⟩ | ⟨g, cap, e, _, hgl, _, hc⟩
    · omega
    · injection e with e _ _
      refine ⟨g, x, e, (hb.cell (p := ⟨g, i, none⟩) hgl).trans (hc i x hx), ?_, fun w'' hb2 => own_any w'' (hl.keep fun k hk => hb2.block k (h.lt k hk)) (fun k hk => Nat.lt_of_lt_of_le (h.lt k hk) hb2.size) (h.fews _ (List.getElem_mem hi))⟩
      obtain ⟨_, d1, _⟩ := hl
      exact own_slice d1
  have HFw : Hid (Few LL ∧ (∀ i (hi : i < MM.length), Few MM[i]) ∧ MM.length ≤ 10000) := ⟨h.few, fun i hi => h.fews _ (List.getElem_mem hi), h.ms⟩
  have hms := h.ms
  have HRl : Hid (r < w.heap.size) := h.lt r h.sr
  have HGl : Hid (∀ g, ma = some ⟨g, 0, none⟩ → g < w.heap.size) := fun g e => h.lt g (m2 g (by rw [e]; rfl))
  clear h ho hd m1 m2 m3
  go_enter Tryz.func36, Tryz.ntmps36
  go_wp2_with fail
  refine calls_at HOw.out (by with_reducible rfl) (by with_reducible rfl) ?_
  rintro e w1 ⟨u, rfl, hF, hb⟩
  obtain ⟨W, hW⟩ : ∃ W, w1.alloc (.cells #[u, .slice none 0 0] 92) = W := ⟨_, rfl⟩
  have hbW : Below w1.heap.size w1 W := by rw [← hW]; exact (Below.refl _ _).alloc (Nat.le_refl _) _
  have gW : W.heap[w1.heap.size]? = some (.cells #[u, .slice none 0 0] 92 (0, 0)) := by rw [← hW]; exact heap_alloc_new w1 _
  have HBW : Hid (Below w.heap.size w W) := bl_next hb hbW
  have HR0 : Hid (∃ S', RsAt w.heap.size S' W w1.heap.size LL []) := by
    obtain ⟨cs', f1, f2⟩ := hF.below hbW
    exact ⟨_, NwAt.done (n := w.heap.size) ⟨u, cs', gW, f1, f2⟩ hb.size HFw.out.1⟩
  obtain ⟨ua, uc, rfl⟩ : ∃ a c, u = .slice a LL.length c := by obtain ⟨_, d1, _⟩ := hF; exact own_slice d1
  have HP : Hid (w.heap.size ≤ w1.heap.size) := hb.size
  clear hF hb hbW gW c0
  go_wp2_with fail
  go_loopw [4] (fun iv wr => ∃ k : Nat, iv = .int .i64 (k : Int) ∧ k ≤ MM.length ∧ Hid (∃ S', RsAt w.heap.size S' wr w1.heap.size LL (MM.take k)) ∧ Hid (Below w.heap.size w wr)) (fun iv _ => MM.length - (intOf iv).toNat)
  case atStart => exact ⟨0, rfl, Nat.zero_le _, HR0, HBW⟩
  case round =>
    obtain ⟨k, rfl, hk, HRr, HBr⟩ := hrel
    have y1 := HC.out wr HBr.out
    by_cases hkn : k < MM.length
    · have hkI : (k : Int) < (MM.length : Int) := by omega
      obtain ⟨S1, hR1⟩ := HRr.out
      obtain ⟨dv1, mv1, o1, d1, cs1, n1, n2, n3⟩ := hR1.ex
      have HKl : Hid ((MM.take k).length = k) := by show _ = _; rw [List.length_take]; omega
      have HTk : Hid (MM.take (k + 1) = MM.take k ++ [MM[k]]) := List.take_succ_eq_append_getElem hkn
      obtain ⟨g, x, rfl, y2, ⟨xa, xc, rfl⟩, hOx⟩ := HM.out wr HBr.out k hkn
      have hNk := HFw.out.2.1 k hkn
      obtain ⟨M, hMM⟩ : ∃ M, MM[k] = M := ⟨_, rfl⟩
      rw [hMM] at HTk y2 hNk hOx
      have HOx : Hid (∀ w'', Below w.heap.size w w'' → Calls Tryz.prog 80 #[.slice xa M.length xc] w'' (OwOut M w'')) := hOx
      have HAc : Hid (∀ w', Below wr.heap.size wr w' → w'.cell? ⟨r, 1, none⟩ = some (.slice (some ⟨g, 0, none⟩) MM.length mc) ∧ w'.cell? ⟨g, k, none⟩ = some (.slice xa M.length xc)) := fun w' hb => by
        refine ⟨HC.out w' (bl_next HBr.out hb), ?_⟩
        exact (hb.cell (p := ⟨g, k, none⟩) (World.block_lt_of_cell? wr _ y2)).trans y2
      have HBc : Hid (∀ w', Below wr.heap.size wr w' → w'.heap[w1.heap.size]? = some (.cells #[dv1, mv1] 92 (0, 0)) ∧ w'.ownsRow 0 41 1 mv1 (MM.take k).length cs1) := fun w' hb => ⟨(hb.block _ (hR1.lt _ hR1.sr)).trans o1, own_keep n1 fun g' hg' => hb.block g' (hR1.lt g' (n2 g' hg'))⟩
      have HE : Hid (∀ (w2 w6 : World) (u v6 : Value), Below wr.heap.size wr w2 → FrR wr.heap.size w2 u M → w6.ownsRow 0 41 1 v6 ((MM.take k).length + 1) (cs1 ++ [u]) → (w2.alloc (.cells #[u] 41)).grownBy w6 mv1.ownBlock → (mv1.ownBlock = v6.ownBlock ∨ ∃ g, v6.ownBlock = some g ∧ w2.heap.size ≤ g) → (∃ S', RsAt w.heap.size S' (w6.setCell ⟨w1.heap.size, 1, none⟩ v6) w1.heap.size LL (MM.take k ++ [M]) ∧ SStp w.heap.size S1 wr (w6.setCell ⟨w1.heap.size, 1, none⟩ v6) ∧ Grown S1 wr (w6.setCell ⟨w1.heap.size, 1, none⟩ v6) S') ∧ w6.heap[w1.heap.size]? = some (.cells #[dv1, mv1] 92 (0, 0))) := fun w2 w6 u v6 a1 a2 a3 a4 a5 => rs_mark hR1 o1 d1 n1 n2 n3 a1 hNk a2 a3 a4 a5 (by rw [HKl.out]; omega)
      have HG1 : Hid (∀ g', mv1.ownBlock = some g' → w.heap.size ≤ g' ∧ g' ≠ r ∧ g' ≠ g) := fun g' hg' => by
        have a1 := hR1.lo g' (n2 g' hg')
        have a2 : r < w.heap.size := by
          by_cases hlt : r < w.heap.size
          · exact hlt
          · exfalso; exact hlt HRl.out
        have a3 : g < w.heap.size := HGl.out g rfl
        exact ⟨a1, by omega, by omega⟩
      obtain ⟨mb, md, rfl⟩ : ∃ a c, mv1 = .slice a k c := by have := own_slice n1; rw [HKl.out] at this; exact this
      obtain ⟨db, dd, rfl⟩ : ∃ a c, dv1 = .slice a LL.length c := by obtain ⟨_, q1, _⟩ := d1; exact own_slice q1
      clear hMM hOx hR1 o1 d1 n1 n2 n3 HRr
      go_wp2_with fail
      have HU0 : Hid (Below wr.heap.size wr wr.drew) := (Below.refl _ _).drew
      have HC0 : Hid ((wr.drew.cell? ⟨r, 1, none⟩ = some (.slice (some ⟨g, 0, none⟩) MM.length mc) ∧ wr.drew.cell? ⟨g, k, none⟩ = some (.slice xa M.length xc)) ∧ wr.drew.cell? ⟨w1.heap.size, 1, none⟩ = some (.slice mb k md)) := ⟨HAc.out _ HU0.out, cell_of (HBc.out _ HU0.out).1 1⟩
      refine wp_region_T (fun w' => w'.cell? ⟨r, 1, none⟩ = some (.slice (some ⟨g, 0, none⟩) MM.length mc) ∧ w'.cell? ⟨g, k, none⟩ = some (.slice xa M.length xc)) (fun w' => w'.cell? ⟨w1.heap.size, 1, none⟩ = some (.slice mb k md)) [17] (by kernel_rfl) HC0.out (fun hHeld => ?_)
      clear HC0
      generalize wr.drew = U at hHeld HU0 ⊢
      refine wpAnyT_takeB (i := 0) (oi := ⟨some 21, .move (.tmp 3), _, _, _, _⟩) (v := ?vR5x0) rfl (by kernel_rfl) (by kernel_rfl) (by kernel_rfl) (by kernel_rfl) (fun _ _ _ h => h) (Or.inl ⟨by rfl, ?hyR5x0⟩) (by assumption) ?restR5x0
      case hyR5x0 => (intro w hSw; (try dsimp only at hSw); go_simp; try (with_reducible rfl))
      try simp only [Act.put, List.setIfInBounds_toArray, List.set_cons_zero, List.set_cons_succ]
      refine wpAnyT_takeB (i := 1) (oi := ⟨some 22, .move (.tmp 3), _, _, _, _⟩) (v := ?vR5x1) rfl (by kernel_rfl) (by kernel_rfl) (by kernel_rfl) (by kernel_rfl) (fun _ _ _ h => h) (Or.inl ⟨by rfl, ?hyR5x1⟩) (by assumption) ?restR5x1
      case hyR5x1 => (intro w hSw; (try dsimp only at hSw); go_simp; try (with_reducible rfl))
      try simp only [Act.put, List.setIfInBounds_toArray, List.set_cons_zero, List.set_cons_succ]
      refine wpAnyT_takeB (i := 2) (oi := ⟨some 23, .nilCheck (.tmp 22), _, _, _, _⟩) (v := ?vR5x2) rfl (by kernel_rfl) (by kernel_rfl) (by kernel_rfl) (by kernel_rfl) (fun _ _ _ h => h) (Or.inl ⟨by rfl, ?hyR5x2⟩) (by assumption) ?restR5x2
      case hyR5x2 => (intro w hSw; (try dsimp only at hSw); go_simp; try (with_reducible rfl))
      try simp only [Act.put, List.setIfInBounds_toArray, List.set_cons_zero, List.set_cons_succ]
      refine wpAnyT_takeB (i := 3) (oi := ⟨some 24, .fieldAddr 92 (.tmp 23) 1, _, _, _, _⟩) (v := ?vR5x3) rfl (by kernel_rfl) (by kernel_rfl) (by kernel_rfl) (by kernel_rfl) (fun _ _ _ h => h) (Or.inl ⟨by rfl, ?hyR5x3⟩) (by assumption) ?restR5x3
      case hyR5x3 => (intro w hSw; (try dsimp only at hSw); go_simp; try (with_reducible rfl))
      try simp only [Act.put, List.setIfInBounds_toArray, List.set_cons_zero, List.set_cons_succ]
      refine wpAnyT_take (i := 4) (oi := ⟨some 25, .load 50 (.tmp 24), _, _, _, _⟩) (v := ?vR5x4) rfl (by kernel_rfl) (by kernel_rfl) (by kernel_rfl) (by kernel_rfl) (by kernel_rfl) (fun _ _ _ h => h) (Or.inl ⟨by rfl, ?hyR5x4⟩) (by assumption) ?restR5x4
      case hyR5x4 => (intro w hSw; (try dsimp only at hSw); go_simp; try (with_reducible rfl))
      try simp only [Act.put, List.setIfInBounds_toArray, List.set_cons_zero, List.set_cons_succ]
      refine wpAnyT_takeB (i := 5) (oi := ⟨some 26, .move (.tmp 0), _, _, _, _⟩) (v := ?vR5x5) rfl (by kernel_rfl) (by kernel_rfl) (by kernel_rfl) (by kernel_rfl) (fun _ _ _ h => h) (Or.inl ⟨by rfl, ?hyR5x5⟩) (by assumption) ?restR5x5
      case hyR5x5 => (intro w hSw; (try dsimp only at hSw); go_simp; try (with_reducible rfl))
      try simp only [Act.put, List.setIfInBounds_toArray, List.set_cons_zero, List.set_cons_succ]
      refine wpAnyT_takeB (i := 6) (oi := ⟨some 27, .nilCheck (.tmp 26), _, _, _, _⟩) (v := ?vR5x6) rfl (by kernel_rfl) (by kernel_rfl) (by kernel_rfl) (by kernel_rfl) (fun _ _ _ h => h) (Or.inl ⟨by rfl, ?hyR5x6⟩) (by assumption) ?restR5x6
      case hyR5x6 => (intro w hSw; (try dsimp only at hSw); go_simp; try (with_reducible rfl))
      try simp only [Act.put, List.setIfInBounds_toArray, List.set_cons_zero, List.set_cons_succ]
      refine wpAnyT_takeB (i := 7) (oi := ⟨some 28, .fieldAddr 92 (.tmp 27) 1, _, _, _, _⟩) (v := ?vR5x7) rfl (by kernel_rfl) (by kernel_rfl) (by kernel_rfl) (by kernel_rfl) (fun _ _ _ h => h) (Or.inl ⟨by rfl, ?hyR5x7⟩) (by assumption) ?restR5x7
      case hyR5x7 => (intro w hSw; (try dsimp only at hSw); go_simp; try (with_reducible rfl))
      try simp only [Act.put, List.setIfInBounds_toArray, List.set_cons_zero, List.set_cons_succ]
      refine wpAnyT_takeB (i := 8) (oi := ⟨some 29, .load 50 (.tmp 28), _, _, _, _⟩) (v := ?vR5x8) rfl (by kernel_rfl) (by kernel_rfl) (by kernel_rfl) (by kernel_rfl) (fun _ _ _ h => h) (Or.inl ⟨by rfl, ?hyR5x8⟩) (by assumption) ?restR5x8
      case hyR5x8 => (intro w hSw; (try dsimp only at hSw); go_simp; try (with_reducible rfl))
      try simp only [Act.put, List.setIfInBounds_toArray, List.set_cons_zero, List.set_cons_succ]
      refine wpAnyT_takeB (i := 9) (oi := ⟨some 30, .move (.tmp 4), _, _, _, _⟩) (v := ?vR5x9) rfl (by kernel_rfl) (by kernel_rfl) (by kernel_rfl) (by kernel_rfl) (fun _ _ _ h => h) (Or.inl ⟨by rfl, ?hyR5x9⟩) (by assumption) ?restR5x9
      case hyR5x9 => (intro w hSw; (try dsimp only at hSw); go_simp; try (with_reducible rfl))
      try simp only [Act.put, List.setIfInBounds_toArray, List.set_cons_zero, List.set_cons_succ]
      refine wpAnyT_takeB (i := 10) (oi := ⟨some 31, .indexAddr 50 (.tmp 29) (.tmp 30), _, _, _, _⟩) (v := ?vR5x10) rfl (by kernel_rfl) (by kernel_rfl) (by kernel_rfl) (by kernel_rfl) (fun _ _ _ h => h) (Or.inl ⟨by rfl, ?hyR5x10⟩) (by assumption) ?restR5x10
      case hyR5x10 => (intro w hSw; (try dsimp only at hSw); go_simp; try (with_reducible rfl))
      try simp only [Act.put, List.setIfInBounds_toArray, List.set_cons_zero, List.set_cons_succ]
      refine wpAnyT_takeB (i := 11) (oi := ⟨some 32, .load 41 (.tmp 31), _, _, _, _⟩) (v := ?vR5x11) rfl (by kernel_rfl) (by kernel_rfl) (by kernel_rfl) (by kernel_rfl) (fun _ _ _ h => h) (Or.inl ⟨by rfl, ?hyR5x11⟩) (by assumption) ?restR5x11
      case hyR5x11 => (intro w hSw; (try dsimp only at hSw); go_simp; try (with_reducible rfl))
      try simp only [Act.put, List.setIfInBounds_toArray, List.set_cons_zero, List.set_cons_succ]
      refine wpAnyT_one (i := 12) (o := ⟨some 33, .call { callee := .value (.func 80), args := #[(.tmp 32)], argTypes := #[41] }, _, _, _, _⟩) (by kernel_rfl) rfl (fun K hK => ?_)
      go_simp
      refine calls_at (HOx.out U (bl_next HBr.out HU0.out)) (by with_reducible rfl) (by with_reducible rfl) ?_
      rintro e w2 ⟨u, rfl, hF, hb⟩
      obtain ⟨ua2, uc2, rfl⟩ : ∃ a c, u = .slice a M.length c := by obtain ⟨_, q1, _⟩ := hF; exact own_slice q1
      go_wp2_with fail
      have HB2 : Hid (Below wr.heap.size wr w2) := bl_next HU0.out hb
      have HF : Hid (FrR wr.heap.size w2 (.slice ua2 M.length uc2) M) := hF.less HU0.out.size
      clear hHeld hb hF
      have hHeld : _ ∧ _ := ⟨HAc.out w2 HB2.out, cell_of (HBc.out w2 HB2.out).1 1⟩
      refine hK.out _ _ ⟨hHeld.1, fun _ => hHeld.2⟩ ?_
      clear hK K
      try simp only [Act.put, List.setIfInBounds_toArray, List.set_cons_zero, List.set_cons_succ]
      refine wpAnyT_one (i := 13) (o := ⟨some 34, .buildSlice 50 1 #[(0, (.tmp 33))], _, _, _, _⟩) (by kernel_rfl) rfl (fun K hK => ?_)
      go_simp
      obtain ⟨Y, hY⟩ : ∃ Y, w2.alloc (.cells #[.slice ua2 M.length uc2] 41) = Y := ⟨_, rfl⟩
      have HBY : Hid (Below wr.heap.size wr Y) := by show Below _ _ _; rw [← hY]; exact HB2.out.alloc HB2.out.size _
      have HSc2 : Hid (SrcAt Y (.slice (some ⟨w2.heap.size, 0, none⟩) 1 1) 1 1 [.slice ua2 M.length uc2]) := src_1 (by rw [← hY]; exact heap_alloc_new w2 _) rfl
      have HY : Hid (w2.alloc (.cells #[.slice ua2 M.length uc2] 41) = Y) := hY
      have HYs : Hid (w2.heap.size ≤ Y.heap.size) := by show _ ≤ _; rw [← hY]; simp
      rw [hY]
      clear hY hHeld
      have hHeld : _ ∧ _ := ⟨HAc.out Y HBY.out, cell_of (HBc.out Y HBY.out).1 1⟩
      refine hK.out _ _ ⟨hHeld.1, fun _ => hHeld.2⟩ ?_
      clear hK K
      try simp only [Act.put, List.setIfInBounds_toArray, List.set_cons_zero, List.set_cons_succ]
      refine wpAnyT_one (i := 14) (o := ⟨some 35, .call { callee := .builtin .append, args := #[(.tmp 25), (.tmp 34)], argTypes := #[50, 50] }, _, _, _, _⟩) (by kernel_rfl) rfl (fun K hK => ?_)
      have hown : Y.ownsRow 0 41 1 (.slice mb k md) k cs1 := by have := (HBc.out Y HBY.out).2; rw [HKl.out] at this; exact this
      refine op_append_src Y (.tmp 25) (.tmp 34) 50 41 (.slice none 0 0) 1 24 rfl un64 inf63 rfl (by decide) 0 _ _ k 1 cs1 _ (by rfl) (by rfl) hown HSc2.out (by unfold maxLen; omega) (by omega) (Nat.zero_le _) (by rfl) ?_
      intro v6 w6 o1 o2 o3
      obtain ⟨a6, c6, rfl⟩ := own_slice o1
      have hE := HE.out w2 w6 _ _ HB2.out HF.out (by rw [HKl.out]; exact o1) (by rw [HY.out]; exact o2) (by
        rcases o3 with e | e
        · exact .inl e.symm
        · exact .inr ⟨_, e, HYs.out⟩)
      have HSx : Hid (∃ S', RsAt w.heap.size S' (w6.setCell ⟨w1.heap.size, 1, none⟩ (.slice a6 (k + 1) c6)) w1.heap.size LL (MM.take k ++ [M]) ∧ SStp w.heap.size S1 wr (w6.setCell ⟨w1.heap.size, 1, none⟩ (.slice a6 (k + 1) c6)) ∧ Grown S1 wr (w6.setCell ⟨w1.heap.size, 1, none⟩ (.slice a6 (k + 1) c6)) S') := hE.1
      have GP : Hid (w6.heap[w1.heap.size]? = some (.cells #[.slice db LL.length dd, .slice mb k md] 92 (0, 0))) := hE.2
      have hcl : ∀ (g' j : Nat), g' < Y.heap.size → (∀ g'', (Value.slice mb k md).ownBlock = some g'' → g'' ≠ g') → w6.cell? ⟨g', j, none⟩ = Y.cell? ⟨g', j, none⟩ := fun g' j hl hn => World.cell?_of_block (a := ⟨g', j, none⟩) (o2.block g' hl fun e => hn g' e.symm rfl)
      have hHl := hHeld.1
      have c0 : w6.cell? ⟨r, 1, none⟩ = some (.slice (some ⟨g, 0, none⟩) MM.length mc) := (hcl r 1 (World.block_lt_of_cell? Y _ hHl.1) (fun g'' e => (HG1.out g'' e).2.1)).trans hHl.1
      have c0' : w6.cell? ⟨g, k, none⟩ = some (.slice xa M.length xc) := (hcl g k (World.block_lt_of_cell? Y _ hHl.2) (fun g'' e => (HG1.out g'' e).2.2)).trans hHl.2
      have HH6 : Hid (w6.cell? ⟨r, 1, none⟩ = some (.slice (some ⟨g, 0, none⟩) MM.length mc) ∧ w6.cell? ⟨g, k, none⟩ = some (.slice xa M.length xc)) := ⟨c0, c0'⟩
      have c1 : w6.cell? ⟨w1.heap.size, 1, none⟩ = some (.slice mb k md) := cell_of hE.2 1
      have cz : ∀ i, w6.frozen? ⟨w1.heap.size, i, none⟩ = false := frozen_of hE.2
      clear hE o1 o2 o3 hown hHeld hcl hHl
      refine hK.out _ _ ⟨⟨c0, c0'⟩, fun _ => c1⟩ ?_
      have hHeld := (⟨(⟨c0, c0'⟩ : _ ∧ _), c1⟩ : _ ∧ _)
      clear hK K
      try simp only [Act.put, List.setIfInBounds_toArray, List.set_cons_zero, List.set_cons_succ]
      refine wpAnyT_takeB (i := 15) (oi := ⟨some 36, .nilCheck (.tmp 21), _, _, _, _⟩) (v := ?vR5x15) rfl (by kernel_rfl) (by kernel_rfl) (by kernel_rfl) (by kernel_rfl) (fun _ _ _ h => h) (Or.inl ⟨by rfl, ?hyR5x15⟩) (by assumption) ?restR5x15
      case hyR5x15 => (intro w hSw; (try dsimp only at hSw); go_simp; try (with_reducible rfl))
      try simp only [Act.put, List.setIfInBounds_toArray, List.set_cons_zero, List.set_cons_succ]
      refine wpAnyT_takeB (i := 16) (oi := ⟨some 37, .fieldAddr 92 (.tmp 36) 1, _, _, _, _⟩) (v := ?vR5x16) rfl (by kernel_rfl) (by kernel_rfl) (by kernel_rfl) (by kernel_rfl) (fun _ _ _ h => h) (Or.inl ⟨by rfl, ?hyR5x16⟩) (by assumption) ?restR5x16
      case hyR5x16 => (intro w hSw; (try dsimp only at hSw); go_simp; try (with_reducible rfl))
      try simp only [Act.put, List.setIfInBounds_toArray, List.set_cons_zero, List.set_cons_succ]
      refine wpAnyT_late (i := 17) (o := ⟨none, .store 50 (.tmp 37) (.tmp 35), _, _, _, _⟩) (by kernel_rfl) rfl (by kernel_rfl) (fun K hK => ?_)
      go_simp
      refine hK.out _ _ ?shR5x17 ?restR5x17
      case shR5x17 => ((try dsimp only); exact ⟨(World.cell?_setCell_far _ _ ⟨r, 1, none⟩ _ (by have := HRl.out; have := HP.out; show w1.heap.size ≠ r; omega)).trans HH6.out.1, (World.cell?_setCell_far _ _ ⟨g, k, none⟩ _ (by have := HGl.out g rfl; have := HP.out; show w1.heap.size ≠ g; omega)).trans HH6.out.2⟩)
      clear hK K
      try simp only [Act.put, List.setIfInBounds_toArray, List.set_cons_zero, List.set_cons_succ]
      refine wpAnyT_done (by kernel_rfl) ?_ _
      obtain ⟨X, hX⟩ : ∃ X, w6.setCell ⟨w1.heap.size, 1, none⟩ (.slice a6 (k + 1) c6) = X := ⟨_, rfl⟩
      rw [hX] at HSx
      try rw [hX]
      clear hX c0 c0' c1 cz hHeld
      go_wp2_with fail
      go_roundw
      case rel =>
        obtain ⟨S', q1, q2, q3⟩ := HSx.out
        exact ⟨k + 1, by go_num, hkn, ⟨S', by rw [HTk.out]; exact q1⟩, HBr.out.trans q2.below⟩
      case measure => simp [intOf]; omega
    · have hke : k = MM.length := by omega
      subst hke
      have hkI : ¬ (MM.length : Int) < (MM.length : Int) := by omega
      rw [List.take_length] at HRr
      go_wp2_with fail
      go_ret
      obtain ⟨S', q1⟩ := HRr.out
      exact ⟨_, S', rfl, q1, HBr.out⟩
end Go.Proofs.YtchpapppkmnfnaaGreatDoor
