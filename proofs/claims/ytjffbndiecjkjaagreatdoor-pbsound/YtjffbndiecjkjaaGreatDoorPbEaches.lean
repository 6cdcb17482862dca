/-
  Put together: PbEach, PbRules.
-/
import Derived.Test.YtjffbndiecjkjaaGreatDoorPbOfs
import Derived.Test.YtjffbndiecjkjaaGreatDoorDivUp
namespace Go.Proofs.YtjffbndiecjkjaaGreatDoor
open Go.Shelf Go.RowKit Go.Lib Go.Sort
open Bn (limbs)

/-- What is made on the way: the row in its box, the result's box, pieces written in place. -/
structure EaAt (w : World) (rv : Value) (n : Int) (q : Option Addr) (N : Nat) (L : List PcV) (K : List (Int × Int)) (wr : World) : Prop where
  arg : wr.heap[w.heap.size]? = some (.cells #[rv, .int .i64 n, .pointer q] 35)
  res : Box0 wr (w.heap.size + 1)
  put : PutAt wr (w.heap.size + 1 + 1) N L K
  rest : RowKit.Below w.heap.size w wr
theorem EaAt.below {w : World} {rv : Value} {n : Int} {q : Option Addr} {N : Nat} {L : List PcV} {K : List (Int × Int)} {wr w' : World} (h : EaAt w rv n q N L K wr) (hb : RowKit.Below wr.heap.size wr w') : EaAt w rv n q N L K w' :=
  ⟨(hb.block _ (Array.getElem?_eq_some_iff.1 h.arg).1).trans h.arg, h.res.below hb, h.put.below hb, h.rest.trans (hb.mono h.rest.size)⟩
theorem EaAt.next {w : World} {rv : Value} {n : Int} {q : Option Addr} {N k : Nat} {L : List PcV} {K : List (Int × Int)} {wr : World} {m : Int} {mq : Option Addr} {l : Int} {p : Int × Int} (h : EaAt w rv n q N L K wr) (hp : Say wr (m, mq, l) p) (hk : L.length = k) (hlt : k < N) :
    EaAt w rv n q N (L ++ [(m, mq, l)]) (K ++ [p]) (set3 wr (w.heap.size + 1 + 1) (k * 3) (.int .i64 m) (.pointer mq) (.int .i64 l)) := by
  have hg := grown_set3 wr (w.heap.size + 1 + 1) (k * 3) (.int .i64 m) (.pointer mq) (.int .i64 l)
  refine ⟨(hg.block _ (Array.getElem?_eq_some_iff.1 h.arg).1 (by simp; omega)).trans h.arg, (hg.block _ (Array.getElem?_eq_some_iff.1 h.res).1 (by simp)).trans h.res, (h.put.put hp hk hlt).1, ?_⟩
  exact ((h.rest.setCell (p := ⟨w.heap.size + 1 + 1, _, none⟩) (by simp only; omega) _).setCell (p := ⟨w.heap.size + 1 + 1, _, none⟩) (by simp only; omega) _).setCell (p := ⟨w.heap.size + 1 + 1, _, none⟩) (by simp only; omega) _

def Pm.chg (ch : Int → Int) (K : List (Int × Int)) : List (Int × Int) := K.map fun p => (ch p.1, p.2)
theorem Pm.chg_next (ch : Int → Int) {K : List (Int × Int)} {k : Nat} (hk : k < K.length) : Pm.chg ch (K.take (k + 1)) = Pm.chg ch (K.take k) ++ [(ch K[k].1, K[k].2)] := by
  unfold Pm.chg; rw [List.take_succ_eq_append_getElem hk, List.map_append]; rfl

set_option maxRecDepth 100000 in
set_option maxHeartbeats 2000000 in
theorem each_any (v : Value) (K : List (Int × Int)) (D : Int) (G : Nat) (first cap : Array Value) (ch : Int → Int) (w : World) (h : PbAt w v K D) (hn : K.length ≤ 1000000) (he : Enters Tryz.prog G)
    (hG : ∀ z, (z = D ∨ ∃ p ∈ K, p.1 = z) → ∀ w' u, RowKit.Below w.heap.size w w' → BigAt w' u z → Calls Tryz.prog G (first.push u ++ cap) w' fun e w'' => ∃ r, e = .returned r ∧ BigAt w'' r (ch z) ∧ RowKit.Below w'.heap.size w' w'') :
    Calls Tryz.prog 57 #[v, .func (.func G) first cap] w fun e w' => ∃ r, e = .returned r ∧ PbAt w' r (Pm.chg ch K) (ch D) ∧ RowKit.Below w.heap.size w w' := by
  obtain ⟨a, c, n, q, rfl, hpi, hB⟩ := h
  obtain ⟨a2, c2, hac, hlc, hcm⟩ := hpi.form
  injection hac with ea _ ec
  subst ea
  subst ec
  obtain ⟨N, hN⟩ : ∃ N : Nat, K.length = N := ⟨_, rfl⟩
  have HN : Hid (K.length = N) := hN
  rw [hN] at hlc hpi ⊢
  have HP : Hid (PiAt w (.slice a N c) K) := hpi
  have HB : Hid (BigAt w (.agg #[.int .i64 n, .pointer q]) D) := hB
  have HG : Hid (∀ z, (z = D ∨ ∃ p ∈ K, p.1 = z) → ∀ w' u, RowKit.Below w.heap.size w w' → BigAt w' u z → Calls Tryz.prog G (first.push u ++ cap) w' fun e w'' => ∃ r, e = .returned r ∧ BigAt w'' r (ch z) ∧ RowKit.Below w'.heap.size w' w'') := hG
  have hN6 : N ≤ 1000000 := by omega
  have hmake := makePieces N hN6
  unfold Enters at he
  clear hN hpi hB hG hn
  go_enter Tryz.func57, Tryz.ntmps57
  go_wp2_with fail
  obtain ⟨W, hW⟩ : ∃ W, ((w.alloc (.cells #[.slice a N c, .int .i64 n, .pointer q] 35)).alloc (.cells #[.slice none 0 0, .int .i64 0, .pointer none] 35)).alloc (.cells (madeCells #[.int .i64 0, .pointer none, .int .i64 0] (N * 3)) 67) = W := ⟨_, rfl⟩
  obtain ⟨hO1, hO2, hO3, hbW, _⟩ := three_objs w _ _ _ hW
  rw [hW]
  have HF0 : Hid (EaAt w (.slice a N c) n q N [] [] W) := ⟨hO1, hO2, PutAt.start hO3, hbW⟩
  clear hW hO1 hO2 hO3 hbW hmake
  go_loopw [15] (fun iv wr => ∃ (k : Nat) (L : List PcV), iv = .int .i64 (k : Int) ∧ k ≤ N ∧ L.length = k ∧ Hid (EaAt w (.slice a N c) n q N L (Pm.chg ch (K.take k)) wr)) (fun iv _ => N - (intOf iv).toNat)
  case atStart => exact ⟨0, [], rfl, Nat.zero_le _, rfl, HF0⟩
  case round =>
    obtain ⟨k, L, rfl, hk, hL, hF⟩ := hrel
    have HL : Hid (L.length = k) := hL
    clear HF0 hL
    by_cases hkN : k < N
    · have hkI : (k : Int) < (N : Int) := by omega
      have hkl : k < K.length := by have := HN.out; omega
      obtain ⟨b, m, qq, ha, hbl, e0, e1, e2, hBk⟩ := (HP.out.below hF.out.rest).cell k hkl
      have hmem : ∃ p ∈ K, p.1 = K[k].1 := ⟨_, List.getElem_mem hkl, rfl⟩
      have hnx := Pm.chg_next ch hkl
      obtain ⟨p, hp⟩ : ∃ p, K[k] = p := ⟨_, rfl⟩
      rw [hp] at e2 hBk hmem hnx
      obtain ⟨z, l⟩ := p
      simp only at e2 hBk hmem hnx
      subst ha
      obtain ⟨V, hV⟩ : ∃ V, wr.alloc (.cells #[.int .i64 m, .pointer qq, .int .i64 l] 67) = V := ⟨_, rfl⟩
      obtain ⟨hO, hbV⟩ := new_obj wr _ hV
      obtain ⟨v0, v1, v2, _, _, _⟩ := box3_facts hO
      have HO : Hid (V.heap[wr.heap.size]? = some (.cells #[.int .i64 m, .pointer qq, .int .i64 l] 67)) := hO
      have HFV : Hid (EaAt w (.slice (some ⟨b, 0, none⟩) N c) n q N L (Pm.chg ch (K.take k)) V) := hF.out.below hbV
      have HCl : Hid (Calls Tryz.prog G (first.push (.agg #[.int .i64 m, .pointer qq]) ++ cap) V.drew fun e w'' => ∃ r, e = .returned r ∧ BigAt w'' r (ch z) ∧ RowKit.Below V.heap.size V w'') := by
        refine (HG.out z (.inr hmem) V.drew _ (HFV.out.rest.drew) ((hBk.below hbV).below (Below.refl _ _).drew)).mono ?_
        rintro e w' ⟨r, rfl, h1, h2⟩
        exact ⟨r, rfl, h1, (Below.refl V.heap.size V).drew.trans h2⟩
      have Hnx : Hid (Pm.chg ch (K.take (k + 1)) = Pm.chg ch (K.take k) ++ [(ch z, l)]) := hnx
      clear hO hbV hBk hp hF hmem hnx
      go_wp2_with fail
      go_region_with (go_at_fn G; refine calls_at HCl.out (by with_reducible rfl) (by with_reducible rfl) ?_; rintro e w1 ⟨r, rfl, hr, hb1⟩; obtain ⟨n1, q1, rfl⟩ := hr.shape; have hO1 : w1.heap[wr.heap.size]? = some (.cells #[.int .i64 m, .pointer qq, .int .i64 l] 67) := (hb1.block _ (Array.getElem?_eq_some_iff.1 HO.out).1).trans HO.out; obtain ⟨o0, o1, o2, _, _, _⟩ := box3_facts hO1; have HF1 : Hid (EaAt w (.slice (some ⟨b, 0, none⟩) N c) n q N L (Pm.chg ch (K.take k)) w1) := HFV.out.below hb1; obtain ⟨⟨g0, r0⟩, t0⟩ := HF1.out.put.1.cell (k * 3) (by omega); obtain ⟨⟨g1, r1⟩, t1⟩ := HF1.out.put.1.cell (k * 3 + 1) (by omega); obtain ⟨⟨g2, r2⟩, t2⟩ := HF1.out.put.1.cell (k * 3 + 2) (by omega))
      all_goals
        have HF2 : Hid (EaAt w (.slice (some ⟨b, 0, none⟩) N c) n q N (L ++ [(n1, q1, l)]) (Pm.chg ch (K.take (k + 1))) (set3 w1 (w.heap.size + 1 + 1) (k * 3) (.int .i64 n1) (.pointer q1) (.int .i64 l))) := by
          show EaAt _ _ _ _ _ _ _ _
          rw [Hnx.out]
          exact HF1.out.next ⟨hr, rfl⟩ HL.out hkN
        clear hr hb1 hO1 o0 o1 o2 r0 r1 r2 t0 t1 t2
        go_wp2_with fail
        go_roundw
        case rel => exact ⟨k + 1, L ++ [(n1, q1, l)], by go_num, by omega, by rw [List.length_append, HL.out]; rfl, HF2⟩
        case measure => simp [intOf]; omega
    · obtain rfl : k = N := by omega
      have htake : K.take k = K := List.take_of_length_le (by have := HN.out; omega)
      rw [htake] at hF
      obtain ⟨a0, a1, a2, _, _, _⟩ := box3_facts hF.out.arg
      have HCl : Hid (Calls Tryz.prog G (first.push (.agg #[.int .i64 n, .pointer q]) ++ cap) wr fun e w'' => ∃ r, e = .returned r ∧ BigAt w'' r (ch D) ∧ RowKit.Below wr.heap.size wr w'') := HG.out D (.inl rfl) wr _ hF.out.rest (HB.out.below hF.out.rest)
      clear htake
      go_wp2_with (go_at_fn G; refine calls_at HCl.out (by with_reducible rfl) (by with_reducible rfl) ?_; rintro e w1 ⟨r, rfl, hr, hb1⟩; obtain ⟨n1, q1, rfl⟩ := hr.shape; have HF1 : Hid (EaAt w (.slice a k c) n q k L (Pm.chg ch K) w1) := hF.out.below hb1; obtain ⟨r0, r1, r2, t0, t1, t2⟩ := HF1.out.res.cells; have HR : Hid (BigAt w1 (.agg #[.int .i64 n1, .pointer q1]) (ch D)) := hr; clear hr hb1)
      obtain ⟨X, hX⟩ : ∃ X, ((w1.setCell ⟨w.heap.size + 1, 0, none⟩ (.slice (some ⟨w.heap.size + 1 + 1, 0, none⟩) k k)).setCell ⟨w.heap.size + 1, 1, none⟩ (.int .i64 n1)).setCell ⟨w.heap.size + 1, 2, none⟩ (.pointer q1) = X := ⟨_, rfl⟩
      rw [hX]
      obtain ⟨x0, x1, x2, hPb, hbX⟩ := row_ret HF1.out.res (HF1.out.put.pi HL.out hN6) HR.out hX
      exact bodyPost_ret (by simp [results, Tryz.results57, go_sem, x0, x1, x2]; try rfl) rfl ⟨_, rfl, hPb, hbX _ _ (Nat.le_succ _) HF1.out.rest⟩
end Go.Proofs.YtjffbndiecjkjaaGreatDoor

namespace Go.Proofs.YtjffbndiecjkjaaGreatDoor
open Go.Shelf Go.RowKit Go.Lib Go.Sort
open Bn (limbs)

/-- A number's result box, written. -/
theorem num_ret {w V : World} {R : Nat} {y : Int} {p : Option Addr} (h : w.heap[R]? = some (.cells #[.int .i64 y, .pointer p] 33)) {m : Int} {q : Option Addr} {z : Int} (hB : BigAt w (.agg #[.int .i64 m, .pointer q]) z)
    (hV : (w.setCell ⟨R, 0, none⟩ (.int .i64 m)).setCell ⟨R, 1, none⟩ (.pointer q) = V) :
    V.cell? ⟨R, 0, none⟩ = some (.int .i64 m) ∧ V.cell? ⟨R, 1, none⟩ = some (.pointer q) ∧ BigAt V (.agg #[.int .i64 m, .pointer q]) z ∧ ∀ B a', B ≤ R → RowKit.Below B a' w → RowKit.Below B a' V := by
  have h1 := box_over h (.int .i64 m) (.pointer q)
  have h2 := hB.setBox h (.int .i64 m) (.pointer q)
  rw [hV] at h1 h2
  obtain ⟨x0, x1, _, _⟩ := box_facts h1
  refine ⟨x0, x1, h2, fun B a' hB hb => ?_⟩
  rw [← hV]
  exact (hb.setCell (p := ⟨R, 0, none⟩) hB _).setCell (p := ⟨R, 1, none⟩) hB _

/-- What Times and Div answer. -/
def RuleOut (w : World) (K : List (Int × Int)) (D : Int) (ch : Int → Int) (d : Int) (e : Ending) (w' : World) : Prop :=
  ∃ r K' D' c, e = .returned (.tuple #[r, .int .i64 c]) ∧ PbAt w' r K' D' ∧ RowKit.Below w.heap.size w w' ∧ (0 < d → c = 0 ∧ K' = Pm.chg ch K ∧ D' = ch D) ∧ (d < 1 → c = 22 ∧ K' = [] ∧ D' = 0)

set_option maxRecDepth 100000 in
set_option maxHeartbeats 2000000 in
theorem times_any (v : Value) (K : List (Int × Int)) (D : Int) (u : Value) (d : Int) (w : World) (h : PbAt w v K D) (hu : BigAt w u d) (hn : K.length ≤ 1000000) (hkl : ∀ p ∈ K, (limbs p.1.natAbs).length ≤ 1000000) (hDl : (limbs D.natAbs).length ≤ 1000000) (hdl : (limbs d.natAbs).length ≤ 1000000) :
    Calls Tryz.prog 23 #[v, u] w (RuleOut w K D (fun z => d * z) d) := by
  obtain ⟨dn, dq, rfl⟩ := hu.shape
  have HP : Hid (PbAt w v K D) := h
  have HU : Hid (BigAt w (.agg #[.int .i64 dn, .pointer dq]) d) := hu
  obtain ⟨a, c, n, q, rfl, _, _⟩ := h
  obtain ⟨W, hW⟩ : ∃ W, ((w.alloc (.cells #[.slice a K.length c, .int .i64 n, .pointer q] 35)).alloc (.cells #[.int .i64 dn, .pointer dq] 33)).alloc (.cells #[.slice none 0 0, .int .i64 0, .pointer none] 35) = W := ⟨_, rfl⟩
  obtain ⟨hO1, hO2, hO3, hbW, _⟩ := three_objs w _ _ _ hW
  obtain ⟨k0, k1, k2, _, _, _⟩ := box3_facts hO1
  obtain ⟨m0, m1, _, _⟩ := box_facts hO2
  have HO1 : Hid (W.heap[w.heap.size]? = some (.cells #[.slice a K.length c, .int .i64 n, .pointer q] 35)) := hO1
  have HO2 : Hid (W.heap[w.heap.size + 1]? = some (.cells #[.int .i64 dn, .pointer dq] 33)) := hO2
  have HO3 : Hid (Box0 W (w.heap.size + 1 + 1)) := hO3
  have HbW : Hid (RowKit.Below w.heap.size w W) := hbW
  obtain ⟨sg, hsg⟩ : ∃ s, d.sign = s := ⟨_, rfl⟩
  have HS : Hid (Calls Tryz.prog 15 #[.agg #[.int .i64 dn, .pointer dq]] W fun e w' => e = .returned (.int .i64 sg) ∧ RowKit.Below W.heap.size W w') := by
    have h := sign_big d _ W (HU.out.below hbW)
    rw [hsg] at h; exact h
  by_cases hd : 0 < d
  · have hs1 : ¬ sg < 1 := by rw [← hsg, Int.sign_eq_one_of_pos hd]; decide
    have HE : Hid (∀ w1, RowKit.Below W.heap.size W w1 → Calls Tryz.prog 57 #[.agg #[.slice a K.length c, .int .i64 n, .pointer q], .func (.func 58) #[.agg #[.int .i64 dn, .pointer dq]] #[]] w1 fun e w' => ∃ r, e = .returned r ∧ PbAt w' r (Pm.chg (fun z => d * z) K) (d * D) ∧ RowKit.Below w1.heap.size w1 w') := fun w1 hb1 => by
      have hb0 : RowKit.Below w.heap.size w w1 := HbW.out.trans (hb1.mono HbW.out.size)
      refine each_any _ K D 58 #[.agg #[.int .i64 dn, .pointer dq]] #[] (fun z => d * z) w1 (HP.out.below hb0) hn (enters_of Tryz.func58 (by kernel_rfl) rfl) (fun z hz w' u hb hu => ?_)
      have hzl : (limbs z.natAbs).length ≤ 1000000 := by
        rcases hz with rfl | ⟨p, hp, rfl⟩
        · exact hDl
        · exact hkl p hp
      exact mul_big d z _ u w' ((HU.out.below hb0).below hb) hu hdl hzl
    have Hd : Hid (0 < d) := hd
    clear hO1 hO2 hO3 hbW hsg hd hn hkl hDl hdl
    go_enter Tryz.func23, Tryz.ntmps23
    go_wp2_with fail
    refine HS.out.mono ?_
    rintro e w1 ⟨rfl, hb1⟩
    have hQ1 := (hb1.block _ (Array.getElem?_eq_some_iff.1 HO1.out).1).trans HO1.out
    have hQ2 := (hb1.block _ (Array.getElem?_eq_some_iff.1 HO2.out).1).trans HO2.out
    obtain ⟨g0, g1, g2, _, _, _⟩ := box3_facts hQ1
    obtain ⟨h0, h1, _, _⟩ := box_facts hQ2
    have HB1 : Hid (RowKit.Below W.heap.size W w1) := hb1
    clear hb1 hQ1 hQ2 k0 k1 k2 m0 m1
    go_wp2_with fail
    refine (HE.out w1 HB1.out).mono ?_
    rintro e w2 ⟨r, rfl, hpb, hb2⟩
    obtain ⟨a', c', n', q', rfl, hPi, hBg⟩ := hpb
    have hX2 := (HO3.out.below HB1.out).below hb2
    have hbw2 : RowKit.Below w.heap.size w w2 := HbW.out.trans ((HB1.out.trans (hb2.mono HB1.out.size)).mono HbW.out.size)
    obtain ⟨r0, r1, r2, t0, t1, t2⟩ := hX2.cells
    obtain ⟨X, hX⟩ : ∃ X, ((w2.setCell ⟨w.heap.size + 1 + 1, 0, none⟩ (.slice a' (Pm.chg (fun z => d * z) K).length c')).setCell ⟨w.heap.size + 1 + 1, 1, none⟩ (.int .i64 n')).setCell ⟨w.heap.size + 1 + 1, 2, none⟩ (.pointer q') = X := ⟨_, rfl⟩
    have HR := row_ret hX2 hPi hBg hX
    have HX : Hid (((w2.setCell ⟨w.heap.size + 1 + 1, 0, none⟩ (.slice a' (Pm.chg (fun z => d * z) K).length c')).setCell ⟨w.heap.size + 1 + 1, 1, none⟩ (.int .i64 n')).setCell ⟨w.heap.size + 1 + 1, 2, none⟩ (.pointer q') = X) := hX
    obtain ⟨x0, x1, x2, hPb, hbX⟩ := HR
    have HPb : Hid (PbAt X (.agg #[.slice a' (Pm.chg (fun z => d * z) K).length c', .int .i64 n', .pointer q']) (Pm.chg (fun z => d * z) K) (d * D)) := hPb
    have HbX : Hid (RowKit.Below w.heap.size w X) := hbX _ _ (by omega) hbw2
    clear hX hPi hBg hb2 hX2 hPb hbX
    go_wp2_with fail
    rw [HX.out]
    exact bodyPost_ret (by simp [results, Tryz.results23, go_sem, x0, x1, x2]; try rfl) rfl ⟨_, _, _, 0, rfl, HPb.out, HbX.out, fun _ => ⟨rfl, rfl, rfl⟩, fun h => absurd Hd.out (by omega)⟩
  · have hs1 : sg < 1 := by
      rw [← hsg]
      rcases Int.lt_or_eq_of_le (Int.not_lt.1 hd) with h | h
      · rw [Int.sign_eq_neg_one_of_neg h]; decide
      · rw [h]; decide
    have Hd : Hid (¬ 0 < d) := hd
    clear hO1 hO2 hO3 hbW hsg hd hn hkl hDl hdl
    go_enter Tryz.func23, Tryz.ntmps23
    go_wp2_with fail
    refine HS.out.mono ?_
    rintro e w1 ⟨rfl, hb1⟩
    have hX1 := HO3.out.below hb1
    have hbw1 : RowKit.Below w.heap.size w w1 := HbW.out.trans (hb1.mono HbW.out.size)
    obtain ⟨r0, r1, r2, t0, t1, t2⟩ := hX1.cells
    obtain ⟨X, hX⟩ : ∃ X, ((w1.setCell ⟨w.heap.size + 1 + 1, 0, none⟩ (.slice none 0 0)).setCell ⟨w.heap.size + 1 + 1, 1, none⟩ (.int .i64 0)).setCell ⟨w.heap.size + 1 + 1, 2, none⟩ (.pointer none) = X := ⟨_, rfl⟩
    have HX : Hid (((w1.setCell ⟨w.heap.size + 1 + 1, 0, none⟩ (.slice none 0 0)).setCell ⟨w.heap.size + 1 + 1, 1, none⟩ (.int .i64 0)).setCell ⟨w.heap.size + 1 + 1, 2, none⟩ (.pointer none) = X) := hX
    obtain ⟨x0, x1, x2, hbX⟩ := row_zero hX1 hX
    have HbX : Hid (RowKit.Below w.heap.size w X) := hbX _ _ (by omega) hbw1
    clear hX hX1 hbX hb1
    go_wp2_with fail
    rw [HX.out]
    exact bodyPost_ret (by simp [results, Tryz.results23, go_sem, x0, x1, x2]; try rfl) rfl ⟨_, [], 0, 22, rfl, PbAt.zero X, HbX.out, (fun h => absurd h (by have := Hd.out; omega)), fun _ => ⟨rfl, rfl, rfl⟩⟩

set_option maxRecDepth 100000 in
set_option maxHeartbeats 2000000 in
theorem div1_any (u : Value) (z d : Int) (P : Nat) (dn : Int) (dq : Option Addr) (w : World) (hu : BigAt w u z) (hP : w.heap[P]? = some (.cells #[.int .i64 dn, .pointer dq] 33)) (hd : BigAt w (.agg #[.int .i64 dn, .pointer dq]) d) (h0 : 0 < d) (hzl : (limbs z.natAbs).length ≤ 1000000) :
    Calls Tryz.prog 59 #[u, .pointer (some ⟨P, 0, none⟩)] w fun e w' => ∃ r, e = .returned r ∧ BigAt w' r (divUpI z d) ∧ RowKit.Below w.heap.size w w' := by
  obtain ⟨n, q, rfl⟩ := hu.shape
  obtain ⟨W, hW⟩ : ∃ W, (w.alloc (.cells #[.int .i64 n, .pointer q] 33)).alloc (.cells #[.int .i64 0, .pointer none] 33) = W := ⟨_, rfl⟩
  obtain ⟨hO1, hO2, hbW, _⟩ := two_objs w _ _ hW
  have hPW := (hbW.block _ (Array.getElem?_eq_some_iff.1 hP).1).trans hP
  obtain ⟨k0, k1, _, _⟩ := box_facts hO1
  obtain ⟨p0, p1, _, _⟩ := box_facts hPW
  have HO2 : Hid (W.heap[w.heap.size + 1]? = some (.cells #[.int .i64 0, .pointer none] 33)) := hO2
  have HbW : Hid (RowKit.Below w.heap.size w W) := hbW
  have HD : Hid (Calls Tryz.prog 60 #[.agg #[.int .i64 n, .pointer q], .agg #[.int .i64 dn, .pointer dq]] W fun e w' => ∃ r, e = .returned (.tuple #[r, .int .i64 0]) ∧ BigAt w' r (divUpI z d) ∧ RowKit.Below W.heap.size W w') := divUp_big z d _ _ W (hu.below hbW) (hd.below hbW) hzl h0
  clear hO1 hO2 hbW hPW hP hu hd h0 hzl
  go_enter Tryz.func59, Tryz.ntmps59
  go_wp2_with fail
  refine HD.out.mono ?_
  rintro e w1 ⟨r, rfl, hB, hb1⟩
  obtain ⟨n1, q1, rfl⟩ := hB.shape
  obtain ⟨V, hV⟩ : ∃ V, w1.alloc (.cells #[.int .i64 n1, .pointer q1] 33) = V := ⟨_, rfl⟩
  obtain ⟨hO, hbV⟩ := new_obj w1 _ hV
  obtain ⟨v0, v1, _, _⟩ := box_facts hO
  have hR : V.heap[w.heap.size + 1]? = some (.cells #[.int .i64 0, .pointer none] 33) := by
    have h := (hb1.block _ (Array.getElem?_eq_some_iff.1 HO2.out).1).trans HO2.out
    exact (hbV.block _ (Array.getElem?_eq_some_iff.1 h).1).trans h
  obtain ⟨r0, r1, t0, t1⟩ := box_facts hR
  obtain ⟨X, hX⟩ : ∃ X, (V.setCell ⟨w.heap.size + 1, 0, none⟩ (.int .i64 n1)).setCell ⟨w.heap.size + 1, 1, none⟩ (.pointer q1) = X := ⟨_, rfl⟩
  obtain ⟨x0, x1, hBX, hbX⟩ := num_ret hR (hB.below hbV) hX
  have hbw1 : RowKit.Below w.heap.size w w1 := HbW.out.trans (hb1.mono HbW.out.size)
  have HbX : Hid (RowKit.Below w.heap.size w X) := hbX _ _ (Nat.le_succ _) (hbw1.trans (hbV.mono hbw1.size))
  have HBX : Hid (BigAt X (.agg #[.int .i64 n1, .pointer q1]) (divUpI z d)) := hBX
  have HX : Hid ((V.setCell ⟨w.heap.size + 1, 0, none⟩ (.int .i64 n1)).setCell ⟨w.heap.size + 1, 1, none⟩ (.pointer q1) = X) := hX
  clear hX hBX hbX hR hO hbV hB hb1
  go_wp2_with fail
  rw [HX.out]
  exact bodyPost_ret (by simp [results, Tryz.results59, go_sem, x0, x1]; try rfl) rfl ⟨_, rfl, HBX.out, HbX.out⟩

set_option maxRecDepth 100000 in
set_option maxHeartbeats 2000000 in
theorem div_any (v : Value) (K : List (Int × Int)) (D : Int) (u : Value) (d : Int) (w : World) (h : PbAt w v K D) (hu : BigAt w u d) (hn : K.length ≤ 1000000) (hkl : ∀ p ∈ K, (limbs p.1.natAbs).length ≤ 1000000) (hDl : (limbs D.natAbs).length ≤ 1000000) :
    Calls Tryz.prog 24 #[v, u] w (RuleOut w K D (fun z => divUpI z d) d) := by
  obtain ⟨dn, dq, rfl⟩ := hu.shape
  have HP : Hid (PbAt w v K D) := h
  have HU : Hid (BigAt w (.agg #[.int .i64 dn, .pointer dq]) d) := hu
  obtain ⟨a, c, n, q, rfl, _, _⟩ := h
  obtain ⟨W, hW⟩ : ∃ W, ((w.alloc (.cells #[.slice a K.length c, .int .i64 n, .pointer q] 35)).alloc (.cells #[.int .i64 dn, .pointer dq] 33)).alloc (.cells #[.slice none 0 0, .int .i64 0, .pointer none] 35) = W := ⟨_, rfl⟩
  obtain ⟨hO1, hO2, hO3, hbW, _⟩ := three_objs w _ _ _ hW
  obtain ⟨k0, k1, k2, _, _, _⟩ := box3_facts hO1
  obtain ⟨m0, m1, _, _⟩ := box_facts hO2
  have HO1 : Hid (W.heap[w.heap.size]? = some (.cells #[.slice a K.length c, .int .i64 n, .pointer q] 35)) := hO1
  have HO2 : Hid (W.heap[w.heap.size + 1]? = some (.cells #[.int .i64 dn, .pointer dq] 33)) := hO2
  have HO3 : Hid (Box0 W (w.heap.size + 1 + 1)) := hO3
  have HbW : Hid (RowKit.Below w.heap.size w W) := hbW
  obtain ⟨sg, hsg⟩ : ∃ s, d.sign = s := ⟨_, rfl⟩
  have HS : Hid (Calls Tryz.prog 15 #[.agg #[.int .i64 dn, .pointer dq]] W fun e w' => e = .returned (.int .i64 sg) ∧ RowKit.Below W.heap.size W w') := by
    have h := sign_big d _ W (HU.out.below hbW)
    rw [hsg] at h; exact h
  by_cases hd : 0 < d
  · have hs1 : ¬ sg < 1 := by rw [← hsg, Int.sign_eq_one_of_pos hd]; decide
    have HE : Hid (∀ w1, RowKit.Below W.heap.size W w1 → Calls Tryz.prog 57 #[.agg #[.slice a K.length c, .int .i64 n, .pointer q], .func (.func 59) #[] #[.pointer (some ⟨w.heap.size + 1, 0, none⟩)]] w1 fun e w' => ∃ r, e = .returned r ∧ PbAt w' r (Pm.chg (fun z => divUpI z d) K) (divUpI D d) ∧ RowKit.Below w1.heap.size w1 w') := fun w1 hb1 => by
      have hb0 : RowKit.Below w.heap.size w w1 := HbW.out.trans (hb1.mono HbW.out.size)
      have hQ := (hb1.block _ (Array.getElem?_eq_some_iff.1 HO2.out).1).trans HO2.out
      refine each_any _ K D 59 #[] #[.pointer (some ⟨w.heap.size + 1, 0, none⟩)] (fun z => divUpI z d) w1 (HP.out.below hb0) hn (enters_of Tryz.func59 (by kernel_rfl) rfl) (fun z hz w' u hb hu => ?_)
      have hzl : (limbs z.natAbs).length ≤ 1000000 := by
        rcases hz with rfl | ⟨p, hp, rfl⟩
        · exact hDl
        · exact hkl p hp
      exact div1_any u z d (w.heap.size + 1) dn dq w' hu ((hb.block _ (Array.getElem?_eq_some_iff.1 hQ).1).trans hQ) ((HU.out.below hb0).below hb) hd hzl
    have Hd : Hid (0 < d) := hd
    clear hO1 hO2 hO3 hbW hsg hd hn hkl hDl
    go_enter Tryz.func24, Tryz.ntmps24
    go_wp2_with fail
    refine HS.out.mono ?_
    rintro e w1 ⟨rfl, hb1⟩
    have hQ1 := (hb1.block _ (Array.getElem?_eq_some_iff.1 HO1.out).1).trans HO1.out
    have hQ2 := (hb1.block _ (Array.getElem?_eq_some_iff.1 HO2.out).1).trans HO2.out
    obtain ⟨g0, g1, g2, _, _, _⟩ := box3_facts hQ1
    obtain ⟨h0, h1, _, _⟩ := box_facts hQ2
    have HB1 : Hid (RowKit.Below W.heap.size W w1) := hb1
    clear hb1 hQ1 hQ2 k0 k1 k2 m0 m1
    go_wp2_with fail
    refine (HE.out w1 HB1.out).mono ?_
    rintro e w2 ⟨r, rfl, hpb, hb2⟩
    obtain ⟨a', c', n', q', rfl, hPi, hBg⟩ := hpb
    have hX2 := (HO3.out.below HB1.out).below hb2
    have hbw2 : RowKit.Below w.heap.size w w2 := HbW.out.trans ((HB1.out.trans (hb2.mono HB1.out.size)).mono HbW.out.size)
    obtain ⟨r0, r1, r2, t0, t1, t2⟩ := hX2.cells
    obtain ⟨X, hX⟩ : ∃ X, ((w2.setCell ⟨w.heap.size + 1 + 1, 0, none⟩ (.slice a' (Pm.chg (fun z => divUpI z d) K).length c')).setCell ⟨w.heap.size + 1 + 1, 1, none⟩ (.int .i64 n')).setCell ⟨w.heap.size + 1 + 1, 2, none⟩ (.pointer q') = X := ⟨_, rfl⟩
    have HR := row_ret hX2 hPi hBg hX
    have HX : Hid (((w2.setCell ⟨w.heap.size + 1 + 1, 0, none⟩ (.slice a' (Pm.chg (fun z => divUpI z d) K).length c')).setCell ⟨w.heap.size + 1 + 1, 1, none⟩ (.int .i64 n')).setCell ⟨w.heap.size + 1 + 1, 2, none⟩ (.pointer q') = X) := hX
    obtain ⟨x0, x1, x2, hPb, hbX⟩ := HR
    have HPb : Hid (PbAt X (.agg #[.slice a' (Pm.chg (fun z => divUpI z d) K).length c', .int .i64 n', .pointer q']) (Pm.chg (fun z => divUpI z d) K) (divUpI D d)) := hPb
    have HbX : Hid (RowKit.Below w.heap.size w X) := hbX _ _ (by omega) hbw2
    clear hX hPi hBg hb2 hX2 hPb hbX
    go_wp2_with fail
    rw [HX.out]
    exact bodyPost_ret (by simp [results, Tryz.results24, go_sem, x0, x1, x2]; try rfl) rfl ⟨_, _, _, 0, rfl, HPb.out, HbX.out, fun _ => ⟨rfl, rfl, rfl⟩, fun h => absurd Hd.out (by omega)⟩
  · have hs1 : sg < 1 := by
      rw [← hsg]
      rcases Int.lt_or_eq_of_le (Int.not_lt.1 hd) with h | h
      · rw [Int.sign_eq_neg_one_of_neg h]; decide
      · rw [h]; decide
    have Hd : Hid (¬ 0 < d) := hd
    clear hO1 hO2 hO3 hbW hsg hd hn hkl hDl
    go_enter Tryz.func24, Tryz.ntmps24
    go_wp2_with fail
    refine HS.out.mono ?_
    rintro e w1 ⟨rfl, hb1⟩
    have hX1 := HO3.out.below hb1
    have hbw1 : RowKit.Below w.heap.size w w1 := HbW.out.trans (hb1.mono HbW.out.size)
    obtain ⟨r0, r1, r2, t0, t1, t2⟩ := hX1.cells
    obtain ⟨X, hX⟩ : ∃ X, ((w1.setCell ⟨w.heap.size + 1 + 1, 0, none⟩ (.slice none 0 0)).setCell ⟨w.heap.size + 1 + 1, 1, none⟩ (.int .i64 0)).setCell ⟨w.heap.size + 1 + 1, 2, none⟩ (.pointer none) = X := ⟨_, rfl⟩
    have HX : Hid (((w1.setCell ⟨w.heap.size + 1 + 1, 0, none⟩ (.slice none 0 0)).setCell ⟨w.heap.size + 1 + 1, 1, none⟩ (.int .i64 0)).setCell ⟨w.heap.size + 1 + 1, 2, none⟩ (.pointer none) = X) := hX
    obtain ⟨x0, x1, x2, hbX⟩ := row_zero hX1 hX
    have HbX : Hid (RowKit.Below w.heap.size w X) := hbX _ _ (by omega) hbw1
    clear hX hX1 hbX hb1
    go_wp2_with fail
    rw [HX.out]
    exact bodyPost_ret (by simp [results, Tryz.results24, go_sem, x0, x1, x2]; try rfl) rfl ⟨_, [], 0, 22, rfl, PbAt.zero X, HbX.out, (fun h => absurd h (by have := Hd.out; omega)), fun _ => ⟨rfl, rfl, rfl⟩⟩

/-- What Saturate does with a number. -/
def capD (D : Int) (z : Int) : Int := if D < z then D else z

set_option maxRecDepth 100000 in
set_option maxHeartbeats 2000000 in
theorem sat1_any (u : Value) (z D : Int) (P : Nat) (rv : Value) (dn : Int) (dq : Option Addr) (w : World) (hu : BigAt w u z) (hP : w.heap[P]? = some (.cells #[rv, .int .i64 dn, .pointer dq] 35)) (hd : BigAt w (.agg #[.int .i64 dn, .pointer dq]) D) (hzl : (limbs z.natAbs).length ≤ 1000000) :
    Calls Tryz.prog 61 #[u, .pointer (some ⟨P, 0, none⟩)] w fun e w' => ∃ r, e = .returned r ∧ BigAt w' r (capD D z) ∧ RowKit.Below w.heap.size w w' := by
  obtain ⟨n, q, rfl⟩ := hu.shape
  obtain ⟨W, hW⟩ : ∃ W, (w.alloc (.cells #[.int .i64 n, .pointer q] 33)).alloc (.cells #[.int .i64 0, .pointer none] 33) = W := ⟨_, rfl⟩
  obtain ⟨hO1, hO2, hbW, _⟩ := two_objs w _ _ hW
  have hPW := (hbW.block _ (Array.getElem?_eq_some_iff.1 hP).1).trans hP
  obtain ⟨k0, k1, _, _⟩ := box_facts hO1
  obtain ⟨_, p1, p2, _, _, _⟩ := box3_facts hPW
  have HO1 : Hid (W.heap[w.heap.size]? = some (.cells #[.int .i64 n, .pointer q] 33)) := hO1
  have HO2 : Hid (W.heap[w.heap.size + 1]? = some (.cells #[.int .i64 0, .pointer none] 33)) := hO2
  have HPW : Hid (W.heap[P]? = some (.cells #[rv, .int .i64 dn, .pointer dq] 35)) := hPW
  have HbW : Hid (RowKit.Below w.heap.size w W) := hbW
  have HUW : Hid (BigAt W (.agg #[.int .i64 n, .pointer q]) z) := hu.below hbW
  have HDW : Hid (BigAt W (.agg #[.int .i64 dn, .pointer dq]) D) := hd.below hbW
  obtain ⟨cc, hcc⟩ : ∃ cc, cmpI z D = cc := ⟨_, rfl⟩
  have HC : Hid (Calls Tryz.prog 30 #[.agg #[.int .i64 n, .pointer q], .agg #[.int .i64 dn, .pointer dq]] W fun e w' => e = .returned (.int .i64 cc) ∧ RowKit.Below W.heap.size W w') := by
    have h := cmp_big z D _ _ W HUW.out HDW.out hzl
    rw [hcc] at h; exact h
  by_cases hlt : D < z
  · have hc1 : 0 < cc := by rw [← hcc, cmpI_gt hlt]; decide
    have HE : Hid (capD D z = D) := if_pos hlt
    clear hO1 hO2 hbW hPW hP hu hd hzl hcc hlt
    go_enter Tryz.func61, Tryz.ntmps61
    go_wp2_with fail
    refine HC.out.mono ?_
    rintro e w1 ⟨rfl, hb1⟩
    have hP1 := (hb1.block _ (Array.getElem?_eq_some_iff.1 HPW.out).1).trans HPW.out
    have hR := (hb1.block _ (Array.getElem?_eq_some_iff.1 HO2.out).1).trans HO2.out
    obtain ⟨_, s1, s2, _, _, _⟩ := box3_facts hP1
    obtain ⟨r0, r1, t0, t1⟩ := box_facts hR
    obtain ⟨X, hX⟩ : ∃ X, (w1.setCell ⟨w.heap.size + 1, 0, none⟩ (.int .i64 dn)).setCell ⟨w.heap.size + 1, 1, none⟩ (.pointer dq) = X := ⟨_, rfl⟩
    obtain ⟨x0, x1, hBX, hbX⟩ := num_ret hR (HDW.out.below hb1) hX
    have HbX : Hid (RowKit.Below w.heap.size w X) := hbX _ _ (Nat.le_succ _) (HbW.out.trans (hb1.mono HbW.out.size))
    have HBX : Hid (BigAt X (.agg #[.int .i64 dn, .pointer dq]) D) := hBX
    have HX : Hid ((w1.setCell ⟨w.heap.size + 1, 0, none⟩ (.int .i64 dn)).setCell ⟨w.heap.size + 1, 1, none⟩ (.pointer dq) = X) := hX
    clear hX hBX hbX hR hb1 hP1
    go_wp2_with fail
    rw [HX.out]
    exact bodyPost_ret (by simp [results, Tryz.results61, go_sem, x0, x1]; try rfl) rfl ⟨_, rfl, by rw [HE.out]; exact HBX.out, HbX.out⟩
  · have hc1 : ¬ 0 < cc := by
      rw [← hcc]
      rcases Int.lt_or_eq_of_le (Int.not_lt.1 hlt) with h | h
      · rw [cmpI_lt h]; decide
      · rw [cmpI_eq (by omega) (by omega)]; decide
    have HE : Hid (capD D z = z) := if_neg hlt
    clear hO1 hO2 hbW hPW hP hu hd hzl hcc hlt
    go_enter Tryz.func61, Tryz.ntmps61
    go_wp2_with fail
    refine HC.out.mono ?_
    rintro e w1 ⟨rfl, hb1⟩
    have hP1 := (hb1.block _ (Array.getElem?_eq_some_iff.1 HO1.out).1).trans HO1.out
    have hR := (hb1.block _ (Array.getElem?_eq_some_iff.1 HO2.out).1).trans HO2.out
    obtain ⟨s0, s1, _, _⟩ := box_facts hP1
    obtain ⟨r0, r1, t0, t1⟩ := box_facts hR
    obtain ⟨X, hX⟩ : ∃ X, (w1.setCell ⟨w.heap.size + 1, 0, none⟩ (.int .i64 n)).setCell ⟨w.heap.size + 1, 1, none⟩ (.pointer q) = X := ⟨_, rfl⟩
    obtain ⟨x0, x1, hBX, hbX⟩ := num_ret hR (HUW.out.below hb1) hX
    have HbX : Hid (RowKit.Below w.heap.size w X) := hbX _ _ (Nat.le_succ _) (HbW.out.trans (hb1.mono HbW.out.size))
    have HBX : Hid (BigAt X (.agg #[.int .i64 n, .pointer q]) z) := hBX
    have HX : Hid ((w1.setCell ⟨w.heap.size + 1, 0, none⟩ (.int .i64 n)).setCell ⟨w.heap.size + 1, 1, none⟩ (.pointer q) = X) := hX
    clear hX hBX hbX hR hb1 hP1
    go_wp2_with fail
    rw [HX.out]
    exact bodyPost_ret (by simp [results, Tryz.results61, go_sem, x0, x1]; try rfl) rfl ⟨_, rfl, by rw [HE.out]; exact HBX.out, HbX.out⟩

/-- A row, saturated. -/
def satK (K : List (Int × Int)) (D : Int) : List (Int × Int) := if D = 0 then [] else Pm.chg (capD D) K

set_option maxRecDepth 100000 in
set_option maxHeartbeats 2000000 in
theorem saturate_any (v : Value) (K : List (Int × Int)) (D : Int) (w : World) (h : PbAt w v K D) (hn : K.length ≤ 1000000) (hkl : ∀ p ∈ K, (limbs p.1.natAbs).length ≤ 1000000) (hDl : (limbs D.natAbs).length ≤ 1000000) :
    Calls Tryz.prog 25 #[v] w fun e w' => ∃ r, e = .returned r ∧ PbAt w' r (satK K D) D ∧ RowKit.Below w.heap.size w w' := by
  have HP : Hid (PbAt w v K D) := h
  obtain ⟨a, c, n, q, rfl, _, hB⟩ := h
  obtain ⟨W, hW⟩ : ∃ W, (w.alloc (.cells #[.slice a K.length c, .int .i64 n, .pointer q] 35)).alloc (.cells #[.slice none 0 0, .int .i64 0, .pointer none] 35) = W := ⟨_, rfl⟩
  obtain ⟨hO1, hO3, hbW, _⟩ := two_objs w _ _ hW
  obtain ⟨k0, k1, k2, _, _, _⟩ := box3_facts hO1
  have HO1 : Hid (W.heap[w.heap.size]? = some (.cells #[.slice a K.length c, .int .i64 n, .pointer q] 35)) := hO1
  have HO3 : Hid (Box0 W (w.heap.size + 1)) := hO3
  have HbW : Hid (RowKit.Below w.heap.size w W) := hbW
  have HB : Hid (BigAt w (.agg #[.int .i64 n, .pointer q]) D) := hB
  obtain ⟨sg, hsg⟩ : ∃ s, D.sign = s := ⟨_, rfl⟩
  have HS : Hid (Calls Tryz.prog 15 #[.agg #[.int .i64 n, .pointer q]] W fun e w' => e = .returned (.int .i64 sg) ∧ RowKit.Below W.heap.size W w') := by
    have h := sign_big D _ W (HB.out.below hbW)
    rw [hsg] at h; exact h
  by_cases hd : D = 0
  · have hs1 : (sg == 0) = true := by rw [← hsg, hd]; decide
    subst hd
    clear hO1 hO3 hbW hsg hn hkl hDl hB
    go_enter Tryz.func25, Tryz.ntmps25
    go_wp2_with fail
    refine HS.out.mono ?_
    rintro e w1 ⟨rfl, hb1⟩
    have hX1 := HO3.out.below hb1
    have hbw1 : RowKit.Below w.heap.size w w1 := HbW.out.trans (hb1.mono HbW.out.size)
    obtain ⟨r0, r1, r2, t0, t1, t2⟩ := hX1.cells
    obtain ⟨X, hX⟩ : ∃ X, ((w1.setCell ⟨w.heap.size + 1, 0, none⟩ (.slice none 0 0)).setCell ⟨w.heap.size + 1, 1, none⟩ (.int .i64 0)).setCell ⟨w.heap.size + 1, 2, none⟩ (.pointer none) = X := ⟨_, rfl⟩
    have HX : Hid (((w1.setCell ⟨w.heap.size + 1, 0, none⟩ (.slice none 0 0)).setCell ⟨w.heap.size + 1, 1, none⟩ (.int .i64 0)).setCell ⟨w.heap.size + 1, 2, none⟩ (.pointer none) = X) := hX
    obtain ⟨x0, x1, x2, hbX⟩ := row_zero hX1 hX
    have HbX : Hid (RowKit.Below w.heap.size w X) := hbX _ _ (by omega) hbw1
    clear hX hX1 hbX hb1
    go_wp2_with fail
    rw [HX.out]
    exact bodyPost_ret (by simp [results, Tryz.results25, go_sem, x0, x1, x2]; try rfl) rfl ⟨_, rfl, PbAt.zero X, HbX.out⟩
  · have hs1 : (sg == 0) = false := by
      rw [← hsg]
      rcases Int.lt_trichotomy D 0 with h | h | h
      · rw [Int.sign_eq_neg_one_of_neg h]; rfl
      · exact absurd h hd
      · rw [Int.sign_eq_one_of_pos h]; rfl
    have HE : Hid (∀ w1, RowKit.Below W.heap.size W w1 → Calls Tryz.prog 57 #[.agg #[.slice a K.length c, .int .i64 n, .pointer q], .func (.func 61) #[] #[.pointer (some ⟨w.heap.size, 0, none⟩)]] w1 fun e w' => ∃ r, e = .returned r ∧ PbAt w' r (Pm.chg (capD D) K) (capD D D) ∧ RowKit.Below w1.heap.size w1 w') := fun w1 hb1 => by
      have hb0 : RowKit.Below w.heap.size w w1 := HbW.out.trans (hb1.mono HbW.out.size)
      have hQ := (hb1.block _ (Array.getElem?_eq_some_iff.1 HO1.out).1).trans HO1.out
      refine each_any _ K D 61 #[] #[.pointer (some ⟨w.heap.size, 0, none⟩)] (capD D) w1 (HP.out.below hb0) hn (enters_of Tryz.func61 (by kernel_rfl) rfl) (fun z hz w' u hb hu => ?_)
      have hzl : (limbs z.natAbs).length ≤ 1000000 := by
        rcases hz with rfl | ⟨p, hp, rfl⟩
        · exact hDl
        · exact hkl p hp
      exact sat1_any u z D w.heap.size _ n q w' hu ((hb.block _ (Array.getElem?_eq_some_iff.1 hQ).1).trans hQ) ((HB.out.below hb0).below hb) hzl
    have HEq : Hid (Pm.chg (capD D) K = satK K D ∧ capD D D = D) := ⟨(if_neg hd).symm, if_neg (Int.lt_irrefl _)⟩
    clear hO1 hO3 hbW hsg hd hn hkl hDl hB
    go_enter Tryz.func25, Tryz.ntmps25
    go_wp2_with fail
    refine HS.out.mono ?_
    rintro e w1 ⟨rfl, hb1⟩
    have hQ1 := (hb1.block _ (Array.getElem?_eq_some_iff.1 HO1.out).1).trans HO1.out
    obtain ⟨g0, g1, g2, _, _, _⟩ := box3_facts hQ1
    have HB1 : Hid (RowKit.Below W.heap.size W w1) := hb1
    clear hb1 hQ1 k0 k1 k2
    go_wp2_with fail
    refine (HE.out w1 HB1.out).mono ?_
    rintro e w2 ⟨r, rfl, hpb, hb2⟩
    rw [HEq.out.1, HEq.out.2] at hpb
    obtain ⟨a', c', n', q', rfl, hPi, hBg⟩ := hpb
    have hX2 := (HO3.out.below HB1.out).below hb2
    have hbw2 : RowKit.Below w.heap.size w w2 := HbW.out.trans ((HB1.out.trans (hb2.mono HB1.out.size)).mono HbW.out.size)
    obtain ⟨r0, r1, r2, t0, t1, t2⟩ := hX2.cells
    obtain ⟨X, hX⟩ : ∃ X, ((w2.setCell ⟨w.heap.size + 1, 0, none⟩ (.slice a' (satK K D).length c')).setCell ⟨w.heap.size + 1, 1, none⟩ (.int .i64 n')).setCell ⟨w.heap.size + 1, 2, none⟩ (.pointer q') = X := ⟨_, rfl⟩
    obtain ⟨x0, x1, x2, hPb, hbX⟩ := row_ret hX2 hPi hBg hX
    have HX : Hid (((w2.setCell ⟨w.heap.size + 1, 0, none⟩ (.slice a' (satK K D).length c')).setCell ⟨w.heap.size + 1, 1, none⟩ (.int .i64 n')).setCell ⟨w.heap.size + 1, 2, none⟩ (.pointer q') = X) := hX
    have HPb : Hid (PbAt X (.agg #[.slice a' (satK K D).length c', .int .i64 n', .pointer q']) (satK K D) D) := hPb
    have HbX : Hid (RowKit.Below w.heap.size w X) := hbX _ _ (by omega) hbw2
    clear hX hPi hBg hb2 hX2 hPb hbX
    go_wp2_with fail
    rw [HX.out]
    exact bodyPost_ret (by simp [results, Tryz.results25, go_sem, x0, x1, x2]; try rfl) rfl ⟨_, rfl, HPb.out, HbX.out⟩
end Go.Proofs.YtjffbndiecjkjaaGreatDoor
