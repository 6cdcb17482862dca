/-
  Package pb: Negate.
-/
import Derived.Test.YtjffbndiecjkjaaGreatDoorPbSums
import Derived.Test.YtjffbndiecjkjaaGreatDoorPbEaches
import Derived.Test.YtjffbndiecjkjaaGreatDoorPbRows
namespace Go.Proofs.YtjffbndiecjkjaaGreatDoor
open Go.Shelf Go.RowKit Go.Lib Go.Sort
open Bn (limbs)

def Pm.turned (K : List (Int × Int)) : List (Int × Int) := K.map fun p => (p.1, -p.2)
theorem Pm.turned_next {K : List (Int × Int)} {k : Nat} (hk : k < K.length) : Pm.turned (K.take (k + 1)) = Pm.turned (K.take k) ++ [(K[k].1, -K[k].2)] := by
  unfold Pm.turned; rw [List.take_succ_eq_append_getElem hk, List.map_append]; rfl
theorem wrap_lit {l : Int} (h : IsLit l) : wrap64 (-l) = -l ∧ IntKind.i64.wrap (-l) = -l := by
  obtain ⟨_, h1, h2⟩ := h
  have e1 : wrap64 (-l) = -l := by unfold wrap64; omega
  exact ⟨e1, by rw [IntKind.wrap_i64]; omega⟩

set_option maxRecDepth 100000 in
set_option maxHeartbeats 4000000 in
theorem negate_any (v : Value) (K : List (Int × Int)) (D : Int) (w : World) (h : PbAt w v K D) (hlit : ∀ p ∈ K, IsLit p.2) (hn : K.length ≤ 1000000) (hab : (limbs (Pm.absS K)).length ≤ 900000) (hDl : (limbs D.natAbs).length ≤ 900000) (hsl : (limbs (Pm.total K - D).natAbs).length ≤ 1000000) :
    Calls Tryz.prog 26 #[v] w fun e w' => ∃ r, e = .returned r ∧ PbAt w' r (Pm.turned K) (max 0 (Pm.total K - D + 1)) ∧ RowKit.Below w.heap.size w w' := by
  have HPb : Hid (PbAt w v K D) := h
  obtain ⟨a, c, n, q, rfl, hpi, hB⟩ := h
  obtain ⟨a2, c2, hac, hlc, hcm⟩ := hpi.form
  injection hac with ea _ ec
  subst ea
  subst ec
  obtain ⟨N, hN⟩ : ∃ N : Nat, K.length = N := ⟨_, rfl⟩
  have HN : Hid (K.length = N) := hN
  have HT : Hid (∀ w', RowKit.Below w.heap.size w w' → Calls Tryz.prog 28 #[.agg #[.slice a N c, .int .i64 n, .pointer q]] w' fun e w'' => ∃ r, e = .returned r ∧ BigAt w'' r (Pm.total K) ∧ RowKit.Below w'.heap.size w' w'') := fun w' hb => by
    have h := total_any _ K D w' (HPb.out.below hb) hn hab
    rw [hN] at h; exact h
  rw [hN] at hlc hpi ⊢
  have HP : Hid (PiAt w (.slice a N c) K) := hpi
  have HB : Hid (BigAt w (.agg #[.int .i64 n, .pointer q]) D) := hB
  have Hlit : Hid (∀ p ∈ K, IsLit p.2) := hlit
  have Hbd : Hid ((limbs (Pm.total K).natAbs).length ≤ 1000000 ∧ (limbs D.natAbs).length ≤ 1000000 ∧ (limbs (Pm.total K - D).natAbs).length ≤ 1000000) := ⟨Nat.le_trans (limbs_abs (Pm.sumF_abs _ _) hab) (by decide), Nat.le_trans hDl (by decide), hsl⟩
  have hN6 : N ≤ 1000000 := by omega
  have hmake := makePieces N hN6
  clear hN hpi hB hn hlit hab hDl hsl
  go_enter Tryz.func26, Tryz.ntmps26
  go_wp2_with fail
  obtain ⟨W, hW⟩ : ∃ W, ((w.alloc (.cells #[.slice a N c, .int .i64 n, .pointer q] 35)).alloc (.cells #[.slice none 0 0, .int .i64 0, .pointer none] 35)).alloc (.cells (madeCells #[.int .i64 0, .pointer none, .int .i64 0] (N * 3)) 67) = W := ⟨_, rfl⟩
  obtain ⟨hO1, hO2, hO3, hbW, _⟩ := three_objs w _ _ _ hW
  rw [hW]
  have HF0 : Hid (EaAt w (.slice a N c) n q N [] [] W) := ⟨hO1, hO2, PutAt.start hO3, hbW⟩
  clear hW hO1 hO2 hO3 hbW hmake
  go_loopw [13] (fun iv wr => ∃ (k : Nat) (L : List PcV), iv = .int .i64 (k : Int) ∧ k ≤ N ∧ L.length = k ∧ Hid (EaAt w (.slice a N c) n q N L (Pm.turned (K.take k)) wr)) (fun iv _ => N - (intOf iv).toNat)
  case atStart => exact ⟨0, [], rfl, Nat.zero_le _, rfl, HF0⟩
  case round =>
    obtain ⟨k, L, rfl, hk, hL, hF⟩ := hrel
    have HL : Hid (L.length = k) := hL
    clear HF0 hL
    by_cases hkN : k < N
    · have hkI : (k : Int) < (N : Int) := by omega
      have hkl : k < K.length := by have := HN.out; omega
      obtain ⟨b, m, qq, ha, hbl, e0, e1, e2, hBk⟩ := (HP.out.below hF.out.rest).cell k hkl
      have hnx := Pm.turned_next hkl
      obtain ⟨hw1, hw2⟩ := wrap_lit (Hlit.out _ (List.getElem_mem hkl))
      obtain ⟨p, hp⟩ : ∃ p, K[k] = p := ⟨_, rfl⟩
      rw [hp] at e2 hBk hnx hw1 hw2
      obtain ⟨z, l⟩ := p
      simp only at e2 hBk hnx hw1 hw2
      subst ha
      obtain ⟨V, hV⟩ : ∃ V, wr.alloc (.cells #[.int .i64 m, .pointer qq, .int .i64 l] 67) = V := ⟨_, rfl⟩
      obtain ⟨hO, hbV⟩ := new_obj wr _ hV
      obtain ⟨v0, v1, v2, _, _, _⟩ := box3_facts hO
      have HFV : Hid (EaAt w (.slice (some ⟨b, 0, none⟩) N c) n q N L (Pm.turned (K.take k)) V) := hF.out.below hbV
      have HF2 : Hid (EaAt w (.slice (some ⟨b, 0, none⟩) N c) n q N (L ++ [(m, qq, -l)]) (Pm.turned (K.take (k + 1))) (set3 V (w.heap.size + 1 + 1) (k * 3) (.int .i64 m) (.pointer qq) (.int .i64 (-l)))) := by
        show EaAt _ _ _ _ _ _ _ _
        rw [hnx]
        exact HFV.out.next ⟨hBk.below hbV, rfl⟩ HL.out hkN
      obtain ⟨⟨g0, r0⟩, t0⟩ := HFV.out.put.1.cell (k * 3) (by omega)
      obtain ⟨⟨g1, r1⟩, t1⟩ := HFV.out.put.1.cell (k * 3 + 1) (by omega)
      obtain ⟨⟨g2, r2⟩, t2⟩ := HFV.out.put.1.cell (k * 3 + 2) (by omega)
      clear hO hbV hBk hp hF hnx
      go_wp2_with fail
      go_roundw
      case rel => exact ⟨k + 1, L ++ [(m, qq, -l)], by go_num, by omega, by rw [List.length_append, HL.out]; rfl, HF2⟩
      case measure => simp [intOf]; omega
    · obtain rfl : k = N := by omega
      have htake : K.take k = K := List.take_of_length_le (by have := HN.out; omega)
      rw [htake] at hF
      obtain ⟨a0, a1, a2, _, _, _⟩ := box3_facts hF.out.arg
      rename World => wo
      have HW : Hid (RowKit.Below wo.heap.size wo wo.drew) := (Below.refl _ _).drew
      have HA : Hid (∀ w', RowKit.Below wo.heap.size wo w' → w'.heap[w.heap.size]? = some (.cells #[.slice a k c, .int .i64 n, .pointer q] 35)) := fun w' hb => (hb.block _ (Array.getElem?_eq_some_iff.1 hF.out.arg).1).trans hF.out.arg
      have HBw : Hid (∀ w', RowKit.Below wo.heap.size wo w' → RowKit.Below w.heap.size w w') := fun w' hb => hF.out.rest.trans (hb.mono hF.out.rest.size)
      clear htake
      go_wp2_with fail
      go_region_with (first | (go_at_call 28; refine calls_at (HT.out _ (HBw.out _ HW.out)) (by with_reducible rfl) (by with_reducible rfl) ?_; rintro e w1 ⟨rt, rfl, hr, hb1⟩; have HW : Hid (RowKit.Below wo.heap.size wo w1) := HW.out.trans (hb1.mono HW.out.size); have HRt : Hid (BigAt w1 rt (Pm.total K)) := hr; obtain ⟨g0, g1, g2, _, _, _⟩ := box3_facts (HA.out _ HW.out); clear hr hb1) | (go_at_call 33; refine calls_at (of_any 1 _) (by with_reducible rfl) (by with_reducible rfl) ?_; rintro e wf ⟨rfl, hbf⟩; have HO : Hid (RowKit.Below _ _ wf) := hbf; have HW : Hid (RowKit.Below wo.heap.size wo wf) := HW.out.trans (hbf.mono HW.out.size); obtain ⟨f0, f1, f2, _, _, _⟩ := box3_facts (HA.out _ HW.out); clear hbf) | (go_at_call 56; refine calls_at (sub_big (Pm.total K) D _ _ w1 HRt.out (HB.out.below (HBw.out _ HW.out)) Hbd.out.1 Hbd.out.2.1) (by with_reducible rfl) (by with_reducible rfl) ?_; rintro e w2 ⟨rs, rfl, hr, hb2⟩; have HW : Hid (RowKit.Below wo.heap.size wo w2) := HW.out.trans (hb2.mono HW.out.size); have HRs : Hid (BigAt w2 rs (Pm.total K - D)) := hr; clear hr hb2) | (go_at_call 56; refine calls_at (sub_big (Pm.total K) D _ _ wf (HRt.out.below HO.out) (HB.out.below (HBw.out _ HW.out)) Hbd.out.1 Hbd.out.2.1) (by with_reducible rfl) (by with_reducible rfl) ?_; rintro e w2 ⟨rs, rfl, hr, hb2⟩; have HW : Hid (RowKit.Below wo.heap.size wo w2) := HW.out.trans (hb2.mono HW.out.size); have HRs : Hid (BigAt w2 rs (Pm.total K - D)) := hr; clear hr hb2) | (go_at_call 29; refine calls_at (add_big (Pm.total K - D) 1 _ _ w2 HRs.out (.inl ⟨by unfold Fits; omega, rfl⟩) Hbd.out.2.2 (Nat.le_trans (limbs_small (by decide)) (by decide))) (by with_reducible rfl) (by with_reducible rfl) ?_; rintro e w3 ⟨ra, rfl, hr, hb3⟩; have HW : Hid (RowKit.Below wo.heap.size wo w3) := HW.out.trans (hb3.mono HW.out.size); have HRa : Hid (BigAt w3 ra (Pm.total K - D + 1)) := hr; clear hr hb3) | (go_at_call 29; refine calls_at (add_big (Pm.total K - D) 1 _ _ wf (HRs.out.below HO.out) (.inl ⟨by unfold Fits; omega, rfl⟩) Hbd.out.2.2 (Nat.le_trans (limbs_small (by decide)) (by decide))) (by with_reducible rfl) (by with_reducible rfl) ?_; rintro e w3 ⟨ra, rfl, hr, hb3⟩; have HW : Hid (RowKit.Below wo.heap.size wo w3) := HW.out.trans (hb3.mono HW.out.size); have HRa : Hid (BigAt w3 ra (Pm.total K - D + 1)) := hr; clear hr hb3) | (go_at_call 55; refine calls_at (notBelowZero_big (Pm.total K - D + 1) _ _ HRa.out) (by with_reducible rfl) (by with_reducible rfl) ?_; rintro e w4 ⟨rz, rfl, hr, hb4⟩; have HW : Hid (RowKit.Below wo.heap.size wo w4) := HW.out.trans (hb4.mono HW.out.size); obtain ⟨n4, q4, rfl⟩ := hr.shape; have HRz : Hid (BigAt w4 (.agg #[.int .i64 n4, .pointer q4]) (max 0 (Pm.total K - D + 1))) := hr; obtain ⟨b0, b1, b2, u0, u1, u2⟩ := (hF.out.res.below HW.out).cells; clear hr hb4))
      all_goals
        obtain ⟨X, hX⟩ : ∃ X, ((w4.setCell ⟨w.heap.size + 1, 0, none⟩ (.slice (some ⟨w.heap.size + 1 + 1, 0, none⟩) k k)).setCell ⟨w.heap.size + 1, 1, none⟩ (.int .i64 n4)).setCell ⟨w.heap.size + 1, 2, none⟩ (.pointer q4) = X := ⟨_, rfl⟩
        rw [hX]
        have hF4 := hF.out.below HW.out
        obtain ⟨x0, x1, x2, hPb, hbX⟩ := row_ret hF4.res (hF4.put.pi HL.out hN6) HRz.out hX
        have hbr := hF4.rest
        clear b0 b1 b2 u0 u1 u2 hX hF4
        go_wp2
        exact bodyPost_ret (by simp [results, Tryz.results26, go_sem, x0, x1, x2]; try rfl) rfl ⟨_, rfl, hPb, hbX _ _ (Nat.le_succ _) hbr⟩
end Go.Proofs.YtjffbndiecjkjaaGreatDoor
