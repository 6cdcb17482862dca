/-
  Put together: PfCt2, PfCt3, PfCt4, PfMh, PfPra.
-/
import Derived.Test.YtibbnijicdijnaaGreatDoorJ42
import Derived.Test.YtibbnijicdijnaaGreatDoorJ41
import Derived.Test.YtibbnijicdijnaaGreatDoorJ34
namespace Go.Proofs.YtibbnijicdijnaaGreatDoor
open Go.RowKit

theorem tot_snoc (L : List (List UInt8)) (i : Nat) (hi : i < L.length) : tot (L.take (i + 1)) = tot (L.take i) + (L[i].length + 1) := by
  rw [List.take_succ_eq_append_getElem hi, tot_app]
  simp [tot]
theorem RdAt.ext {w : World} {v : Value} {n : Nat} {xs : List Value} (h : RdAt w v n xs) {w' : World} (hb : Below w.heap.size w w') : RdAt w' v n xs := h.below hb

set_option maxRecDepth 10000 in
set_option maxHeartbeats 2000000 in
theorem ctexts_any (w0 : World) (M : List (List UInt8)) (v : Value) (hR : RdAt w0 v M.length (M.map fun x => .string (txtOf x))) (hm : ∀ x ∈ M, x.length ≤ maxLen) {b : Nat} (L : Int) (w : World) (h : CtAt w b L) (hB : w0.heap.size ≤ b) (hb : Below w0.heap.size w0 w) : Calls Tryz.prog 58 #[.pointer (some ⟨b, 0, none⟩), v] w fun e w' => e = .returned (.tuple #[]) ∧ CtO w0.heap.size b L (tot (M)) w w' := by
  obtain ⟨a, c, rfl, hn, _⟩ := id hR
  have HR : Hid (RdAt w0 (.slice a M.length c) M.length (M.map fun x => .string (txtOf x))) := hR
  have HM : Hid (∀ x ∈ M, x.length ≤ maxLen) := hm
  have HB : Hid (Below w0.heap.size w0 w) := hb
  have HC0 : Hid (CtAt w b L) := h
  have HTe : Hid (∀ L' x w', CtAt w' b L' → x.length ≤ maxLen → Calls Tryz.prog 57 #[.pointer (some ⟨b, 0, none⟩), .string (txtOf x)] w' fun e w2 => e = .returned (.tuple #[]) ∧ CtO w0.heap.size b L' (x.length + 1) w' w2) := fun L' x w' h' hx => by
    have := ctext_any (B := w0.heap.size) L' (txtOf x) w' h' hB (by rw [txt_size]; exact hx)
    rw [txt_size] at this
    exact this
  have HOk : Hid (∀ L' w', CtAt w' b L' → Calls Tryz.prog 10 #[.pointer (some ⟨b, 0, none⟩)] w' fun e w2 => e = .returned (.bool (decide (0 ≤ L'))) ∧ w2 = w') := fun L' w' h' => cok_any b L' w' h'
  clear hR hm hb h
  go_enter Tryz.func58, Tryz.ntmps58
  go_wp2_with fail
  go_loopw [4] (fun iv wr => ∃ i : Nat, iv = .int .i64 (i : Int) ∧ i ≤ M.length ∧ Hid (CtO w0.heap.size b L (tot ((M).take i)) w wr)) (fun iv _ => M.length - (intOf iv).toNat)
  case atStart => exact ⟨0, rfl, Nat.zero_le _, L, HC0.out, fun _ => by simp [tot], SStp.refl _ _ _⟩
  case round =>
    obtain ⟨i, rfl, hi, HI⟩ := hrel
    obtain ⟨Lr, k1, k2, k3⟩ := HI.out
    have HK : Hid (CtAt wr b Lr ∧ (0 ≤ Lr → Lr + ((tot ((M).take i) : Nat) : Int) ≤ L) ∧ SStp w0.heap.size (fun k => k = b) w wr) := ⟨k1, k2, k3⟩
    clear k1 k2 k3
    by_cases hin : i < M.length
    · have hiI : (i : Int) < (M.length : Int) := by omega
      go_wp2_with fail
      refine calls_at (HOk.out Lr wr HK.out.1) (by with_reducible rfl) (by with_reducible rfl) ?_
      rintro e w1 ⟨rfl, hw1⟩
      rw [hw1]
      clear hw1
      by_cases hL : 0 ≤ Lr
      · rw [decide_eq_true hL]
        obtain ⟨g, off, e1, e2, e3⟩ : ∃ g off, a = some ⟨g, off, none⟩ ∧ g < wr.heap.size ∧ ∀ j u, (M.map fun x => .string (txtOf x))[j]? = some u → wr.cell? ⟨g, off + j, none⟩ = some u := by
          obtain ⟨a', c', q1, _, q3⟩ := HR.out.below (HB.out.trans HK.out.2.2.below)
          obtain ⟨rfl, _, rfl⟩ : a = a' ∧ M.length = M.length ∧ c = c' := by simpa using q1
          exact q3 (by omega)
        obtain rfl := e1
        obtain ⟨x, hx⟩ : ∃ x, (M)[i]'(by simpa using hin) = x := ⟨_, rfl⟩
        have q0 : wr.cell? ⟨g, off + i, none⟩ = some (.string (txtOf x)) := e3 i _ (by simp [hin, hx])
        have hxl : x.length ≤ maxLen := HM.out x (by rw [← hx]; exact List.getElem_mem _)
        have HTs : Hid (tot ((M).take (i + 1)) = tot ((M).take i) + (x.length + 1)) := by
          have := tot_snoc (M) i (by simpa using hin)
          rw [hx] at this
          exact this
        clear e3 hx e2
        go_wp2_with fail
        refine calls_at (HTe.out Lr x wr HK.out.1 hxl) (by with_reducible rfl) (by with_reducible rfl) ?_
        rintro e w2 ⟨rfl, h2⟩
        have HE : Hid (CtO w0.heap.size b L (tot ((M).take (i + 1))) w w2) := by rw [HTs.out]; exact CtO.next HK.out.2.1 HK.out.2.2 h2
        clear h2
        go_wp2_with fail
        go_roundw
        case rel => exact ⟨i + 1, by go_num, hin, HE⟩
        case measure => simp [intOf]; omega
      · rw [decide_eq_false hL]
        have HE : Hid (CtO w0.heap.size b L (tot (M)) w wr) := ⟨Lr, HK.out.1, fun h => absurd h hL, HK.out.2.2⟩
        go_wp2_with fail
        go_end0
        exact ⟨rfl, HE.out⟩
    · have hiI : ¬ (i : Int) < (M.length : Int) := by omega
      have HE : Hid (CtO w0.heap.size b L (tot (M)) w wr) := by
        have := HI.out
        rw [List.take_of_length_le (by (try simp); omega)] at this
        exact this
      go_wp2_with fail
      go_end0
      exact ⟨rfl, HE.out⟩

set_option maxRecDepth 10000 in
set_option maxHeartbeats 2000000 in
theorem cops_any (w0 : World) (M : List OpL) (v : Value) (hR : RdAt w0 v M.length (opsC M)) (hm : ∀ x ∈ M.map fun o => o.2.1, x.length ≤ maxLen) {b : Nat} (L : Int) (w : World) (h : CtAt w b L) (hB : w0.heap.size ≤ b) (hb : Below w0.heap.size w0 w) : Calls Tryz.prog 49 #[.pointer (some ⟨b, 0, none⟩), v] w fun e w' => e = .returned (.tuple #[]) ∧ CtO w0.heap.size b L (tot (M.map fun o => o.2.1)) w w' := by
  obtain ⟨a, c, rfl, hn, _⟩ := id hR
  have HR : Hid (RdAt w0 (.slice a M.length c) M.length (opsC M)) := hR
  have HM : Hid (∀ x ∈ M.map fun o => o.2.1, x.length ≤ maxLen) := hm
  have HB : Hid (Below w0.heap.size w0 w) := hb
  have HC0 : Hid (CtAt w b L) := h
  have HTe : Hid (∀ L' x w', CtAt w' b L' → x.length ≤ maxLen → Calls Tryz.prog 57 #[.pointer (some ⟨b, 0, none⟩), .string (txtOf x)] w' fun e w2 => e = .returned (.tuple #[]) ∧ CtO w0.heap.size b L' (x.length + 1) w' w2) := fun L' x w' h' hx => by
    have := ctext_any (B := w0.heap.size) L' (txtOf x) w' h' hB (by rw [txt_size]; exact hx)
    rw [txt_size] at this
    exact this
  have HOk : Hid (∀ L' w', CtAt w' b L' → Calls Tryz.prog 10 #[.pointer (some ⟨b, 0, none⟩)] w' fun e w2 => e = .returned (.bool (decide (0 ≤ L'))) ∧ w2 = w') := fun L' w' h' => cok_any b L' w' h'
  clear hR hm hb h
  go_enter Tryz.func49, Tryz.ntmps49
  go_wp2_with fail
  go_loopw [4] (fun iv wr => ∃ i : Nat, iv = .int .i64 (i : Int) ∧ i ≤ M.length ∧ Hid (CtO w0.heap.size b L (tot ((M.map fun o => o.2.1).take i)) w wr)) (fun iv _ => M.length - (intOf iv).toNat)
  case atStart => exact ⟨0, rfl, Nat.zero_le _, L, HC0.out, fun _ => by simp [tot], SStp.refl _ _ _⟩
  case round =>
    obtain ⟨i, rfl, hi, HI⟩ := hrel
    obtain ⟨Lr, k1, k2, k3⟩ := HI.out
    have HK : Hid (CtAt wr b Lr ∧ (0 ≤ Lr → Lr + ((tot ((M.map fun o => o.2.1).take i) : Nat) : Int) ≤ L) ∧ SStp w0.heap.size (fun k => k = b) w wr) := ⟨k1, k2, k3⟩
    clear k1 k2 k3
    by_cases hin : i < M.length
    · have hiI : (i : Int) < (M.length : Int) := by omega
      go_wp2_with fail
      refine calls_at (HOk.out Lr wr HK.out.1) (by with_reducible rfl) (by with_reducible rfl) ?_
      rintro e w1 ⟨rfl, hw1⟩
      rw [hw1]
      clear hw1
      by_cases hL : 0 ≤ Lr
      · rw [decide_eq_true hL]
        obtain ⟨g, off, e1, e2, e3⟩ : ∃ g off, a = some ⟨g, off, none⟩ ∧ g < wr.heap.size ∧ ∀ j u, (opsC M)[j]? = some u → wr.cell? ⟨g, off + j, none⟩ = some u := by
          obtain ⟨a', c', q1, _, q3⟩ := HR.out.below (HB.out.trans HK.out.2.2.below)
          obtain ⟨rfl, _, rfl⟩ : a = a' ∧ M.length = M.length ∧ c = c' := by simpa using q1
          exact q3 (by omega)
        obtain rfl := e1
        obtain ⟨x, hx⟩ : ∃ x, (M.map fun o => o.2.1)[i]'(by simpa using hin) = x := ⟨_, rfl⟩
        have q0 : wr.cell? ⟨g, off + i * 3 + 1, none⟩ = some (.string (txtOf x)) := by
          have := e3 _ _ (ops_get M i hin).2.1
          have hx' : M[i].2.1 = x := by simpa using hx
          rw [hx'] at this
          exact this
        have hxl : x.length ≤ maxLen := HM.out x (by rw [← hx]; exact List.getElem_mem _)
        have HTs : Hid (tot ((M.map fun o => o.2.1).take (i + 1)) = tot ((M.map fun o => o.2.1).take i) + (x.length + 1)) := by
          have := tot_snoc (M.map fun o => o.2.1) i (by simpa using hin)
          rw [hx] at this
          exact this
        clear e3 hx e2
        go_wp2_with fail
        refine calls_at (HTe.out Lr x wr HK.out.1 hxl) (by with_reducible rfl) (by with_reducible rfl) ?_
        rintro e w2 ⟨rfl, h2⟩
        have HE : Hid (CtO w0.heap.size b L (tot ((M.map fun o => o.2.1).take (i + 1))) w w2) := by rw [HTs.out]; exact CtO.next HK.out.2.1 HK.out.2.2 h2
        clear h2
        go_wp2_with fail
        go_roundw
        case rel => exact ⟨i + 1, by go_num, hin, HE⟩
        case measure => simp [intOf]; omega
      · rw [decide_eq_false hL]
        have HE : Hid (CtO w0.heap.size b L (tot (M.map fun o => o.2.1)) w wr) := ⟨Lr, HK.out.1, fun h => absurd h hL, HK.out.2.2⟩
        go_wp2_with fail
        go_end0
        exact ⟨rfl, HE.out⟩
    · have hiI : ¬ (i : Int) < (M.length : Int) := by omega
      have HE : Hid (CtO w0.heap.size b L (tot (M.map fun o => o.2.1)) w wr) := by
        have := HI.out
        rw [List.take_of_length_le (by (try simp); omega)] at this
        exact this
      go_wp2_with fail
      go_end0
      exact ⟨rfl, HE.out⟩
end Go.Proofs.YtibbnijicdijnaaGreatDoor

namespace Go.Proofs.YtibbnijicdijnaaGreatDoor
open Go.RowKit

set_option maxRecDepth 10000 in
set_option maxHeartbeats 2000000 in
theorem crow_any (w0 : World) (M : List PcL) (deg : List UInt8) (v : Value) (hR : RdAt w0 v M.length (pcsC M)) (hm : ∀ x ∈ M.map fun o => o.1, x.length ≤ maxLen) (hd : deg.length ≤ maxLen) {b : Nat} (L : Int) (w : World) (h : CtAt w b L) (hB : w0.heap.size ≤ b) (hb : Below w0.heap.size w0 w) : Calls Tryz.prog 48 #[.pointer (some ⟨b, 0, none⟩), .agg #[v, .string (txtOf deg)]] w fun e w' => e = .returned (.tuple #[]) ∧ CtO w0.heap.size b L (deg.length + 1 + tot (M.map fun o => o.1)) w w' := by
  obtain ⟨a, c, rfl, hn, _⟩ := id hR
  have HR : Hid (RdAt w0 (.slice a M.length c) M.length (pcsC M)) := hR
  have HM : Hid (∀ x ∈ M.map fun o => o.1, x.length ≤ maxLen) := hm
  have HB : Hid (Below w0.heap.size w0 w) := hb
  have hbl := h.lt
  have HTe : Hid (∀ L' x w', CtAt w' b L' → x.length ≤ maxLen → Calls Tryz.prog 57 #[.pointer (some ⟨b, 0, none⟩), .string (txtOf x)] w' fun e w2 => e = .returned (.tuple #[]) ∧ CtO w0.heap.size b L' (x.length + 1) w' w2) := fun L' x w' h' hx => by
    have := ctext_any (B := w0.heap.size) L' (txtOf x) w' h' hB (by rw [txt_size]; exact hx)
    rw [txt_size] at this
    exact this
  have HOk : Hid (∀ L' w', CtAt w' b L' → Calls Tryz.prog 10 #[.pointer (some ⟨b, 0, none⟩)] w' fun e w2 => e = .returned (.bool (decide (0 ≤ L'))) ∧ w2 = w') := fun L' w' h' => cok_any b L' w' h'
  obtain ⟨W, hW⟩ : ∃ W, w.alloc (.cells #[.slice a M.length c, .string (txtOf deg)] 41) = W := ⟨_, rfl⟩
  have hbW : Below w.heap.size w W := by rw [← hW]; exact (Below.refl _ _).alloc (Nat.le_refl _) _
  have gW : W.heap[w.heap.size]? = some (.cells #[.slice a M.length c, .string (txtOf deg)] 41 (0, 0)) := by rw [← hW]; exact heap_alloc_new w _
  have HC0 : Hid (CtAt W b L) := h.below hbW
  have HSW : Hid (SStp w0.heap.size (fun k => k = b) w W) := SStp.of_below hbW (Nat.le_of_lt (Nat.lt_of_le_of_lt hB hbl))
  have HBx : Hid (∀ w', SStp w0.heap.size (fun k => k = b) W w' → w'.cell? ⟨w.heap.size, 0, none⟩ = some (.slice a M.length c) ∧ w'.cell? ⟨w.heap.size, 1, none⟩ = some (.string (txtOf deg))) := fun w' hs => by
    have g := (hs.off.block w.heap.size (Array.getElem?_eq_some_iff.1 gW).1 (fun e => by have e' : w.heap.size = b := e; omega)).trans gW
    exact ⟨cell_of g 0, cell_of g 1⟩
  obtain ⟨m0, m1⟩ := HBx.out W (SStp.refl _ _ _)
  have H1 : Hid (Calls Tryz.prog 57 #[.pointer (some ⟨b, 0, none⟩), .string (txtOf deg)] W fun e w2 => e = .returned (.tuple #[]) ∧ CtO w0.heap.size b L (deg.length + 1) W w2) := HTe.out L deg W HC0.out hd
  clear hR hm hb h hbW gW
  go_enter Tryz.func48, Tryz.ntmps48
  go_wp2_with fail
  refine calls_at H1.out (by with_reducible rfl) (by with_reducible rfl) ?_
  rintro e wd ⟨rfl, Ld, hd1, hd2, hd3⟩
  have HD : Hid (CtAt wd b Ld ∧ (0 ≤ Ld → Ld + ((deg.length + 1 : Nat) : Int) ≤ L) ∧ SStp w0.heap.size (fun k => k = b) W wd) := ⟨hd1, hd2, hd3⟩
  clear hd1 hd2 hd3 H1 m0 m1 hW
  go_wp2_with fail
  go_loopw [4] (fun iv wr => ∃ i : Nat, iv = .int .i64 (i : Int) ∧ i ≤ M.length ∧ Hid (CtO w0.heap.size b L (deg.length + 1 + tot ((M.map fun o => o.1).take i)) W wr)) (fun iv _ => M.length - (intOf iv).toNat)
  case atStart => exact ⟨0, rfl, Nat.zero_le _, Ld, HD.out.1, HD.out.2.1, HD.out.2.2⟩
  case round =>
    obtain ⟨i, rfl, hi, HI⟩ := hrel
    obtain ⟨Lr, k1, k2, k3⟩ := HI.out
    have HK : Hid (CtAt wr b Lr ∧ (0 ≤ Lr → Lr + ((deg.length + 1 + tot ((M.map fun o => o.1).take i) : Nat) : Int) ≤ L) ∧ SStp w0.heap.size (fun k => k = b) W wr) := ⟨k1, k2, k3⟩
    clear k1 k2 k3
    obtain ⟨m0, _⟩ := HBx.out wr HK.out.2.2
    by_cases hin : i < M.length
    · have hiI : (i : Int) < (M.length : Int) := by omega
      go_wp2_with fail
      refine calls_at (HOk.out Lr wr HK.out.1) (by with_reducible rfl) (by with_reducible rfl) ?_
      rintro e w1 ⟨rfl, hw1⟩
      rw [hw1]
      clear hw1
      by_cases hL : 0 ≤ Lr
      · rw [decide_eq_true hL]
        obtain ⟨g, off, e1, e2, e3⟩ : ∃ g off, a = some ⟨g, off, none⟩ ∧ g < wr.heap.size ∧ ∀ j u, (pcsC M)[j]? = some u → wr.cell? ⟨g, off + j, none⟩ = some u := by
          obtain ⟨a', c', q1, _, q3⟩ := HR.out.below (HB.out.trans (HSW.out.below.trans HK.out.2.2.below))
          obtain ⟨rfl, _, rfl⟩ : a = a' ∧ M.length = M.length ∧ c = c' := by simpa using q1
          exact q3 (by omega)
        obtain rfl := e1
        obtain ⟨x, hx⟩ : ∃ x, (M.map fun o => o.1)[i]'(by simpa using hin) = x := ⟨_, rfl⟩
        have q0 : wr.cell? ⟨g, off + i * 2, none⟩ = some (.string (txtOf x)) := by
          have := e3 _ _ (pcs_get M i hin).1
          have hx' : M[i].1 = x := by simpa using hx
          rw [hx'] at this
          exact this
        have hxl : x.length ≤ maxLen := HM.out x (by rw [← hx]; exact List.getElem_mem _)
        have HTs : Hid (deg.length + 1 + tot ((M.map fun o => o.1).take (i + 1)) = deg.length + 1 + tot ((M.map fun o => o.1).take i) + (x.length + 1)) := by
          have := tot_snoc (M.map fun o => o.1) i (by simpa using hin)
          rw [hx] at this
          show _ = _
          omega
        clear e3 hx e2
        go_wp2_with fail
        refine calls_at (HTe.out Lr x wr HK.out.1 hxl) (by with_reducible rfl) (by with_reducible rfl) ?_
        rintro e w2 ⟨rfl, h2⟩
        have HE : Hid (CtO w0.heap.size b L (deg.length + 1 + tot ((M.map fun o => o.1).take (i + 1))) W w2) := by rw [HTs.out]; exact CtO.next HK.out.2.1 HK.out.2.2 h2
        clear h2 m0
        go_wp2_with fail
        go_roundw
        case rel => exact ⟨i + 1, by go_num, hin, HE⟩
        case measure => simp [intOf]; omega
      · rw [decide_eq_false hL]
        have HE : Hid (CtO w0.heap.size b L (deg.length + 1 + tot (M.map fun o => o.1)) w wr) := ⟨Lr, HK.out.1, fun h => absurd h hL, HSW.out.trans HK.out.2.2⟩
        go_wp2_with fail
        go_end0
        exact ⟨rfl, HE.out⟩
    · have hiI : ¬ (i : Int) < (M.length : Int) := by omega
      have HE : Hid (CtO w0.heap.size b L (deg.length + 1 + tot (M.map fun o => o.1)) w wr) := by
        obtain ⟨L', r1, r2, r3⟩ := HI.out
        rw [List.take_of_length_le (by (try simp); omega)] at r2
        exact ⟨L', r1, r2, HSW.out.trans r3⟩
      go_wp2_with fail
      go_end0
      exact ⟨rfl, HE.out⟩

/-- A step's weight. -/
def stW (d : SL) : Nat := (d.n.length + 1) + (d.low.length + 1) + (d.high.length + 1) + tot (d.ops.map fun o => o.2.1) + (d.deg.length + 1 + tot (d.pcs.map fun o => o.1)) + d.lits.length + tot d.ids
/-- Texts that may be. -/
structure SlM (d : SL) : Prop where
  n : d.n.length ≤ maxLen
  low : d.low.length ≤ maxLen
  high : d.high.length ≤ maxLen
  deg : d.deg.length ≤ maxLen
  ops : ∀ x ∈ d.ops.map fun o => o.2.1, x.length ≤ maxLen
  pcs : ∀ x ∈ d.pcs.map fun o => o.1, x.length ≤ maxLen
  ids : ∀ x ∈ d.ids, x.length ≤ maxLen
  lits : d.lits.length ≤ maxLen

set_option maxRecDepth 10000 in
set_option maxHeartbeats 2000000 in
theorem cstep_any (w0 : World) (d : SL) (vo vp vl vi : Value) (hR : SlR w0 d vo vp vl vi) (hm : SlM d) {b : Nat} (L : Int) (w : World) (h : CtAt w b L) (hB : w0.heap.size ≤ b) (hb : Below w0.heap.size w0 w) : Calls Tryz.prog 35 #[.pointer (some ⟨b, 0, none⟩), .agg (slC d vo vp vl vi)] w fun e w' => e = .returned (.tuple #[]) ∧ CtO w0.heap.size b L (stW d) w w' := by
  have hbl := h.lt
  have HTe : Hid (∀ L' x w', CtAt w' b L' → x.length ≤ maxLen → Calls Tryz.prog 57 #[.pointer (some ⟨b, 0, none⟩), .string (txtOf x)] w' fun e w2 => e = .returned (.tuple #[]) ∧ CtO w0.heap.size b L' (x.length + 1) w' w2) := fun L' x w' h' hx => by
    have := ctext_any (B := w0.heap.size) L' (txtOf x) w' h' hB (by rw [txt_size]; exact hx)
    rw [txt_size] at this
    exact this
  have HOp : Hid (∀ L' w', CtAt w' b L' → Below w0.heap.size w0 w' → Calls Tryz.prog 49 #[.pointer (some ⟨b, 0, none⟩), vo] w' fun e w2 => e = .returned (.tuple #[]) ∧ CtO w0.heap.size b L' (tot (d.ops.map fun o => o.2.1)) w' w2) := fun L' w' h' hb' => cops_any w0 d.ops vo hR.o hm.ops L' w' h' hB hb'
  have HRw : Hid (∀ L' w', CtAt w' b L' → Below w0.heap.size w0 w' → Calls Tryz.prog 48 #[.pointer (some ⟨b, 0, none⟩), .agg #[vp, .string (txtOf d.deg)]] w' fun e w2 => e = .returned (.tuple #[]) ∧ CtO w0.heap.size b L' (d.deg.length + 1 + tot (d.pcs.map fun o => o.1)) w' w2) := fun L' w' h' hb' => crow_any w0 d.pcs d.deg vp hR.p hm.pcs hm.deg L' w' h' hB hb'
  have HAd : Hid (∀ L' w', CtAt w' b L' → Calls Tryz.prog 50 #[.pointer (some ⟨b, 0, none⟩), .int .i64 (d.lits.length : Int)] w' fun e w2 => SomeB e ∧ CtO w0.heap.size b L' d.lits.length w' w2) := fun L' w' h' => cadd_any L' d.lits.length w' h' hB hm.lits
  have HTs : Hid (∀ L' w', CtAt w' b L' → Below w0.heap.size w0 w' → Calls Tryz.prog 58 #[.pointer (some ⟨b, 0, none⟩), vi] w' fun e w2 => e = .returned (.tuple #[]) ∧ CtO w0.heap.size b L' (tot d.ids) w' w2) := fun L' w' h' hb' => ctexts_any w0 d.ids vi hR.i hm.ids L' w' h' hB hb'
  obtain ⟨W, hW⟩ : ∃ W, w.alloc (.cells (slC d vo vp vl vi) 45) = W := ⟨_, rfl⟩
  have hbW : Below w.heap.size w W := by rw [← hW]; exact (Below.refl _ _).alloc (Nat.le_refl _) _
  have gW : W.heap[w.heap.size]? = some (.cells (slC d vo vp vl vi) 45 (0, 0)) := by rw [← hW]; exact heap_alloc_new w _
  have HSW : Hid (SStp w0.heap.size (fun k => k = b) w W) := SStp.of_below hbW (Nat.le_of_lt (Nat.lt_of_le_of_lt hB hbl))
  have HB : Hid (Below w0.heap.size w0 w) := hb
  have HC0 : Hid (CtAt W b L) := h.below hbW
  have Hmn : Hid (d.n.length ≤ maxLen ∧ d.low.length ≤ maxLen ∧ d.high.length ≤ maxLen) := ⟨hm.n, hm.low, hm.high⟩
  obtain ⟨oa, oc, rfl, _, _⟩ := id hR.o
  obtain ⟨pa, pc, rfl, _, _⟩ := id hR.p
  obtain ⟨la, lc, rfl, _, _⟩ := id hR.l
  obtain ⟨ia, ic, rfl, _, _⟩ := id hR.i
  unfold slC at hW gW
  have HBx : Hid (∀ w', SStp w0.heap.size (fun k => k = b) W w' → w'.cell? ⟨w.heap.size, 0, none⟩ = some (.int .i64 d.k) ∧ w'.cell? ⟨w.heap.size, 1, none⟩ = some (.string (txtOf d.n)) ∧ w'.cell? ⟨w.heap.size, 2, none⟩ = some (.slice oa d.ops.length oc) ∧ w'.cell? ⟨w.heap.size, 3, none⟩ = some (.slice pa d.pcs.length pc) ∧ w'.cell? ⟨w.heap.size, 4, none⟩ = some (.string (txtOf d.deg)) ∧ w'.cell? ⟨w.heap.size, 5, none⟩ = some (.slice la d.lits.length lc) ∧ w'.cell? ⟨w.heap.size, 6, none⟩ = some (.slice ia d.ids.length ic) ∧ w'.cell? ⟨w.heap.size, 7, none⟩ = some (.int .i64 d.ends) ∧ w'.cell? ⟨w.heap.size, 8, none⟩ = some (.string (txtOf d.low)) ∧ w'.cell? ⟨w.heap.size, 9, none⟩ = some (.string (txtOf d.high))) := fun w' hs => by
    have g := (hs.off.block w.heap.size (Array.getElem?_eq_some_iff.1 gW).1 (fun e => by have e' : w.heap.size = b := e; omega)).trans gW
    exact ⟨cell_of g 0, cell_of g 1, cell_of g 2, cell_of g 3, cell_of g 4, cell_of g 5, cell_of g 6, cell_of g 7, cell_of g 8, cell_of g 9⟩
  obtain ⟨_, m1, m2, m3, m4, m5, m6, _, m8, m9⟩ := HBx.out W (SStp.refl _ _ _)
  unfold slC
  clear hR hm hb h hbW gW
  go_enter Tryz.func35, Tryz.ntmps35
  go_wp2_with fail
  refine calls_at (HTe.out L d.n W HC0.out Hmn.out.1) (by with_reducible rfl) (by with_reducible rfl) ?_
  rintro e w1 ⟨rfl, hq⟩
  obtain ⟨L1, hq1, hq2, hq3⟩ := hq
  have H1 : Hid (CtAt w1 b L1 ∧ (0 ≤ L1 → L1 + (((d.n.length + 1) : Nat) : Int) ≤ L) ∧ SStp w0.heap.size (fun k => k = b) W w1) := ⟨hq1, hq2, hq3⟩
  clear hq1 hq2 hq3 m1 m2 m3 m4 m5 m6 m8 m9 hW
  obtain ⟨_, m1, m2, m3, m4, m5, m6, _, m8, m9⟩ := HBx.out w1 H1.out.2.2
  go_wp2_with fail
  refine calls_at (HTe.out L1 d.low w1 H1.out.1 Hmn.out.2.1) (by with_reducible rfl) (by with_reducible rfl) ?_
  rintro e w2 ⟨rfl, hq⟩
  obtain ⟨L2, hq1, hq2, hq3⟩ := CtO.next H1.out.2.1 H1.out.2.2 hq
  have H2 : Hid (CtAt w2 b L2 ∧ (0 ≤ L2 → L2 + (((d.n.length + 1) + (d.low.length + 1) : Nat) : Int) ≤ L) ∧ SStp w0.heap.size (fun k => k = b) W w2) := ⟨hq1, hq2, hq3⟩
  clear hq hq1 hq2 hq3 m1 m2 m3 m4 m5 m6 m8 m9
  obtain ⟨_, m1, m2, m3, m4, m5, m6, _, m8, m9⟩ := HBx.out w2 H2.out.2.2
  go_wp2_with fail
  refine calls_at (HTe.out L2 d.high w2 H2.out.1 Hmn.out.2.2) (by with_reducible rfl) (by with_reducible rfl) ?_
  rintro e w3 ⟨rfl, hq⟩
  obtain ⟨L3, hq1, hq2, hq3⟩ := CtO.next H2.out.2.1 H2.out.2.2 hq
  have H3 : Hid (CtAt w3 b L3 ∧ (0 ≤ L3 → L3 + (((d.n.length + 1) + (d.low.length + 1) + (d.high.length + 1) : Nat) : Int) ≤ L) ∧ SStp w0.heap.size (fun k => k = b) W w3) := ⟨hq1, hq2, hq3⟩
  clear hq hq1 hq2 hq3 m1 m2 m3 m4 m5 m6 m8 m9
  obtain ⟨_, m1, m2, m3, m4, m5, m6, _, m8, m9⟩ := HBx.out w3 H3.out.2.2
  go_wp2_with fail
  refine calls_at (HOp.out L3 w3 H3.out.1 (HB.out.trans (HSW.out.below.trans H3.out.2.2.below))) (by with_reducible rfl) (by with_reducible rfl) ?_
  rintro e w4 ⟨rfl, hq⟩
  obtain ⟨L4, hq1, hq2, hq3⟩ := CtO.next H3.out.2.1 H3.out.2.2 hq
  have H4 : Hid (CtAt w4 b L4 ∧ (0 ≤ L4 → L4 + (((d.n.length + 1) + (d.low.length + 1) + (d.high.length + 1) + tot (d.ops.map fun o => o.2.1) : Nat) : Int) ≤ L) ∧ SStp w0.heap.size (fun k => k = b) W w4) := ⟨hq1, hq2, hq3⟩
  clear hq hq1 hq2 hq3 m1 m2 m3 m4 m5 m6 m8 m9
  obtain ⟨_, m1, m2, m3, m4, m5, m6, _, m8, m9⟩ := HBx.out w4 H4.out.2.2
  go_wp2_with fail
  refine calls_at (HRw.out L4 w4 H4.out.1 (HB.out.trans (HSW.out.below.trans H4.out.2.2.below))) (by with_reducible rfl) (by with_reducible rfl) ?_
  rintro e w5 ⟨rfl, hq⟩
  obtain ⟨L5, hq1, hq2, hq3⟩ := CtO.next H4.out.2.1 H4.out.2.2 hq
  have H5 : Hid (CtAt w5 b L5 ∧ (0 ≤ L5 → L5 + (((d.n.length + 1) + (d.low.length + 1) + (d.high.length + 1) + tot (d.ops.map fun o => o.2.1) + (d.deg.length + 1 + tot (d.pcs.map fun o => o.1)) : Nat) : Int) ≤ L) ∧ SStp w0.heap.size (fun k => k = b) W w5) := ⟨hq1, hq2, hq3⟩
  clear hq hq1 hq2 hq3 m1 m2 m3 m4 m5 m6 m8 m9
  obtain ⟨_, m1, m2, m3, m4, m5, m6, _, m8, m9⟩ := HBx.out w5 H5.out.2.2
  go_wp2_with fail
  refine calls_at (HAd.out L5 w5 H5.out.1) (by with_reducible rfl) (by with_reducible rfl) ?_
  rintro e w6 ⟨⟨bo, rfl⟩, hq⟩
  obtain ⟨L6, hq1, hq2, hq3⟩ := CtO.next H5.out.2.1 H5.out.2.2 hq
  have H6 : Hid (CtAt w6 b L6 ∧ (0 ≤ L6 → L6 + (((d.n.length + 1) + (d.low.length + 1) + (d.high.length + 1) + tot (d.ops.map fun o => o.2.1) + (d.deg.length + 1 + tot (d.pcs.map fun o => o.1)) + d.lits.length : Nat) : Int) ≤ L) ∧ SStp w0.heap.size (fun k => k = b) W w6) := ⟨hq1, hq2, hq3⟩
  clear hq hq1 hq2 hq3 m1 m2 m3 m4 m5 m6 m8 m9
  obtain ⟨_, m1, m2, m3, m4, m5, m6, _, m8, m9⟩ := HBx.out w6 H6.out.2.2
  go_wp2_with fail
  refine calls_at (HTs.out L6 w6 H6.out.1 (HB.out.trans (HSW.out.below.trans H6.out.2.2.below))) (by with_reducible rfl) (by with_reducible rfl) ?_
  rintro e w7 ⟨rfl, hq⟩
  obtain ⟨L7, hq1, hq2, hq3⟩ := CtO.next H6.out.2.1 H6.out.2.2 hq
  have H7 : Hid (CtAt w7 b L7 ∧ (0 ≤ L7 → L7 + (((d.n.length + 1) + (d.low.length + 1) + (d.high.length + 1) + tot (d.ops.map fun o => o.2.1) + (d.deg.length + 1 + tot (d.pcs.map fun o => o.1)) + d.lits.length + tot d.ids : Nat) : Int) ≤ L) ∧ SStp w0.heap.size (fun k => k = b) W w7) := ⟨hq1, hq2, hq3⟩
  clear hq hq1 hq2 hq3 m1 m2 m3 m4 m5 m6 m8 m9
  obtain ⟨_, m1, m2, m3, m4, m5, m6, _, m8, m9⟩ := HBx.out w7 H7.out.2.2
  go_wp2_with fail
  go_end0
  exact ⟨rfl, L7, H7.out.1, H7.out.2.1, HSW.out.trans H7.out.2.2⟩
end Go.Proofs.YtibbnijicdijnaaGreatDoor

namespace Go.Proofs.YtibbnijicdijnaaGreatDoor
open Go.RowKit

def wtS (ds : List SL) : Nat := (ds.map stW).sum
theorem wtS_snoc (ds : List SL) (i : Nat) (hi : i < ds.length) : wtS (ds.take (i + 1)) = wtS (ds.take i) + stW ds[i] := by
  unfold wtS
  rw [List.take_succ_eq_append_getElem hi, List.map_append, List.sum_append]
  simp only [List.map_cons, List.map_nil, List.sum_cons, List.sum_nil, Nat.add_zero]

set_option maxRecDepth 10000 in
set_option maxHeartbeats 2000000 in
theorem csteps_any (w0 : World) (ds : List SL) (v : Value) (hR : StsR w0 v ds) (hm : ∀ d ∈ ds, SlM d) {b : Nat} (L : Int) (w : World) (h : CtAt w b L) (hB : w0.heap.size ≤ b) (hb : Below w0.heap.size w0 w) : Calls Tryz.prog 9 #[.pointer (some ⟨b, 0, none⟩), v] w fun e w' => e = .returned (.tuple #[]) ∧ CtO w0.heap.size b L (wtS ds) w w' := by
  obtain ⟨a, c, rfl, hn, _⟩ := id hR
  have HR : Hid (StsR w0 (.slice a ds.length c) ds) := hR
  have HM : Hid (∀ d ∈ ds, SlM d) := hm
  have HB : Hid (Below w0.heap.size w0 w) := hb
  have HC0 : Hid (CtAt w b L) := h
  have HSt : Hid (∀ d ∈ ds, ∀ vo vp vl vi L' w', CtAt w' b L' → Below w0.heap.size w0 w' → SlR w0 d vo vp vl vi → Calls Tryz.prog 35 #[.pointer (some ⟨b, 0, none⟩), .agg (slC d vo vp vl vi)] w' fun e w2 => e = .returned (.tuple #[]) ∧ CtO w0.heap.size b L' (stW d) w' w2) := fun d hd vo vp vl vi L' w' h' hb' hs => cstep_any w0 d vo vp vl vi hs (hm d hd) L' w' h' hB hb'
  have HOk : Hid (∀ L' w', CtAt w' b L' → Calls Tryz.prog 10 #[.pointer (some ⟨b, 0, none⟩)] w' fun e w2 => e = .returned (.bool (decide (0 ≤ L'))) ∧ w2 = w') := fun L' w' h' => cok_any b L' w' h'
  clear hR hm hb h
  go_enter Tryz.func9, Tryz.ntmps9
  go_wp2_with fail
  go_loopw [4] (fun iv wr => ∃ i : Nat, iv = .int .i64 (i : Int) ∧ i ≤ ds.length ∧ Hid (CtO w0.heap.size b L (wtS (ds.take i)) w wr)) (fun iv _ => ds.length - (intOf iv).toNat)
  case atStart => exact ⟨0, rfl, Nat.zero_le _, L, HC0.out, fun _ => by simp [wtS], SStp.refl _ _ _⟩
  case round =>
    obtain ⟨i, rfl, hi, HI⟩ := hrel
    obtain ⟨Lr, k1, k2, k3⟩ := HI.out
    have HK : Hid (CtAt wr b Lr ∧ (0 ≤ Lr → Lr + ((wtS (ds.take i) : Nat) : Int) ≤ L) ∧ SStp w0.heap.size (fun k => k = b) w wr) := ⟨k1, k2, k3⟩
    clear k1 k2 k3
    by_cases hin : i < ds.length
    · have hiI : (i : Int) < (ds.length : Int) := by omega
      go_wp2_with fail
      refine calls_at (HOk.out Lr wr HK.out.1) (by with_reducible rfl) (by with_reducible rfl) ?_
      rintro e w1 ⟨rfl, hw1⟩
      rw [hw1]
      clear hw1
      by_cases hL : 0 ≤ Lr
      · rw [decide_eq_true hL]
        have hbr : Below w0.heap.size w0 wr := HB.out.trans HK.out.2.2.below
        obtain ⟨a', c', z1, _, z3⟩ := HR.out
        obtain ⟨rfl, _, rfl⟩ : a = a' ∧ ds.length = ds.length ∧ c = c' := by simpa using z1
        obtain ⟨g, off, vo, vp, vl, vi, rfl, hgl, hsl, hce0⟩ := z3 i hin
        have hce := fun j hj => (hbr.cell (p := ⟨g, off + i * 10 + j, none⟩) hgl).trans (hce0 j hj)
        have HCl0 := HSt.out ds[i] (List.getElem_mem hin) vo vp vl vi Lr wr HK.out.1 hbr hsl
        have hts := wtS_snoc ds i hin
        obtain ⟨d, hd⟩ : ∃ d, ds[i] = d := ⟨_, rfl⟩
        rw [hd] at hsl hce HCl0 hts
        obtain ⟨oa, oc, rfl, _, _⟩ := id hsl.o
        obtain ⟨pa, pc, rfl, _, _⟩ := id hsl.p
        obtain ⟨la, lc, rfl, _, _⟩ := id hsl.l
        obtain ⟨ia, ic, rfl, _, _⟩ := id hsl.i
        have q0 : wr.cell? ⟨g, off + i * 10, none⟩ = some (.int .i64 d.k) := hce 0 (by omega)
        have q1 : wr.cell? ⟨g, off + i * 10 + 1, none⟩ = some (.string (txtOf d.n)) := hce 1 (by omega)
        have q2 : wr.cell? ⟨g, off + i * 10 + 2, none⟩ = some (.slice oa d.ops.length oc) := hce 2 (by omega)
        have q3 : wr.cell? ⟨g, off + i * 10 + 3, none⟩ = some (.slice pa d.pcs.length pc) := hce 3 (by omega)
        have q4 : wr.cell? ⟨g, off + i * 10 + 4, none⟩ = some (.string (txtOf d.deg)) := hce 4 (by omega)
        have q5 : wr.cell? ⟨g, off + i * 10 + 5, none⟩ = some (.slice la d.lits.length lc) := hce 5 (by omega)
        have q6 : wr.cell? ⟨g, off + i * 10 + 6, none⟩ = some (.slice ia d.ids.length ic) := hce 6 (by omega)
        have q7 : wr.cell? ⟨g, off + i * 10 + 7, none⟩ = some (.int .i64 d.ends) := hce 7 (by omega)
        have q8 : wr.cell? ⟨g, off + i * 10 + 8, none⟩ = some (.string (txtOf d.low)) := hce 8 (by omega)
        have q9 : wr.cell? ⟨g, off + i * 10 + 9, none⟩ = some (.string (txtOf d.high)) := hce 9 (by omega)
        have HCl : Hid (Calls Tryz.prog 35 #[.pointer (some ⟨b, 0, none⟩), .agg #[.int .i64 d.k, .string (txtOf d.n), .slice oa d.ops.length oc, .slice pa d.pcs.length pc, .string (txtOf d.deg), .slice la d.lits.length lc, .slice ia d.ids.length ic, .int .i64 d.ends, .string (txtOf d.low), .string (txtOf d.high)]] wr fun e w2 => e = .returned (.tuple #[]) ∧ CtO w0.heap.size b Lr (stW d) wr w2) := HCl0
        have HTs : Hid (wtS (ds.take (i + 1)) = wtS (ds.take i) + stW d) := hts
        clear hce hce0 hsl hgl hd hts HCl0 z3 hbr z1
        go_wp2_with fail
        refine calls_at HCl.out (by with_reducible rfl) (by with_reducible rfl) ?_
        rintro e w2 ⟨rfl, h2⟩
        have HE : Hid (CtO w0.heap.size b L (wtS (ds.take (i + 1))) w w2) := by rw [HTs.out]; exact CtO.next HK.out.2.1 HK.out.2.2 h2
        clear h2
        go_wp2_with fail
        go_roundw
        case rel => exact ⟨i + 1, by go_num, hin, HE⟩
        case measure => simp [intOf]; omega
      · rw [decide_eq_false hL]
        have HE : Hid (CtO w0.heap.size b L (wtS ds) w wr) := ⟨Lr, HK.out.1, fun h => absurd h hL, HK.out.2.2⟩
        go_wp2_with fail
        go_end0
        exact ⟨rfl, HE.out⟩
    · have hiI : ¬ (i : Int) < (ds.length : Int) := by omega
      have HE : Hid (CtO w0.heap.size b L (wtS ds) w wr) := by
        have := HI.out
        rw [List.take_of_length_le (by omega)] at this
        exact this
      go_wp2_with fail
      go_end0
      exact ⟨rfl, HE.out⟩
end Go.Proofs.YtibbnijicdijnaaGreatDoor

namespace Go.Proofs.YtibbnijicdijnaaGreatDoor
open Go.RowKit

theorem dec_len : ∀ (k u : Nat), u < 10 ^ (k + 1) → (Lib.decDigits u).length ≤ k + 1 := by
  intro k
  induction k with
  | zero => intro u h; rw [Lib.decDigits, dif_pos (by simpa using h)]; simp
  | succ k ih =>
    intro u h
    rw [Lib.decDigits]
    split
    · simp
    · have : u / 10 < 10 ^ (k + 1) := by
        rw [Nat.pow_succ] at h
        omega
      have := ih _ this
      simp
      omega
theorem lit_len {n : Int} (h0 : -9223372036854775808 ≤ n) (h1 : n ≤ 9223372036854775807) : (litT n).length ≤ 22 := by
  have key : (Lib.itoa n).length ≤ 20 := by
    unfold Lib.itoa
    split
    · have := dec_len 18 n.natAbs (by have e : (10 : Nat) ^ (18 + 1) = 10000000000000000000 := by decide
                                      rw [e]; omega)
      simp
      omega
    · have := dec_len 18 n.toNat (by have e : (10 : Nat) ^ (18 + 1) = 10000000000000000000 := by decide
                                     rw [e]; omega)
      omega
  have h2 : (Lib.trimPrefix (Lib.itoa n) [45]).length ≤ 20 := by
    unfold Lib.trimPrefix
    split
    · rw [List.length_drop]; omega
    · exact key
  unfold litT
  split <;> simp <;> omega
theorem tot_one (x : List UInt8) : tot [x] = x.length + 1 := by simp [tot]
theorem opT_len (o : OpL) (h : -9223372036854775808 ≤ o.2.2 ∧ o.2.2 ≤ 9223372036854775807) : tot (opT o) ≤ o.2.1.length + 1 + 24 := by
  have hl := lit_len h.1 h.2
  unfold opT
  repeat' split
  all_goals simp [tot]
  all_goals omega
theorem opsT_len (L : List OpL) (h : ∀ o ∈ L, -9223372036854775808 ≤ o.2.2 ∧ o.2.2 ≤ 9223372036854775807) : tot (opsT L) ≤ 25 * tot (L.map fun o => o.2.1) := by
  induction L with
  | nil => simp [opsT, tot]
  | cons o L ih =>
    have h1 := opT_len o (h o List.mem_cons_self)
    have h2 := ih fun p hp => h p (List.mem_cons_of_mem _ hp)
    have e : opsT (o :: L) = opT o ++ opsT L := by simp [opsT]
    rw [e, tot_app, List.map_cons, tot_cons]
    omega
theorem pcsT_len (L : List PcL) (h : ∀ o ∈ L, -9223372036854775808 ≤ o.2 ∧ o.2 ≤ 9223372036854775807) : tot (pcsT L) ≤ 25 * tot (L.map fun o => o.1) := by
  induction L with
  | nil => simp [pcsT, tot]
  | cons o L ih =>
    have h1 := lit_len (h o List.mem_cons_self).1 (h o List.mem_cons_self).2
    have h2 := ih fun p hp => h p (List.mem_cons_of_mem _ hp)
    have e : pcsT (o :: L) = [o.1, litT o.2] ++ pcsT L := by simp [pcsT]
    rw [e, tot_app, List.map_cons, tot_cons]
    simp only [tot_cons]
    have e0 : tot [] = 0 := rfl
    omega
theorem rowT_len (L : List PcL) (deg : List UInt8) (h : ∀ o ∈ L, -9223372036854775808 ≤ o.2 ∧ o.2 ≤ 9223372036854775807) : tot (rowT L deg) ≤ 25 * tot (L.map fun o => o.1) + deg.length + 6 := by
  have := pcsT_len L h
  unfold rowT
  rw [tot_app]
  simp only [tot_cons]
  have e0 : tot [] = 0 := rfl
  have e1 : ([62, 61] : List UInt8).length = 2 := rfl
  have e2 : ([59] : List UInt8).length = 1 := rfl
  omega
theorem litsT_len (L : List Int) (h : ∀ o ∈ L, -9223372036854775808 ≤ o ∧ o ≤ 9223372036854775807) : tot (L.map litT) ≤ 23 * L.length := by
  induction L with
  | nil => simp [tot]
  | cons o L ih =>
    have h1 := lit_len (h o List.mem_cons_self).1 (h o List.mem_cons_self).2
    have h2 := ih fun p hp => h p (List.mem_cons_of_mem _ hp)
    rw [List.map_cons, tot_cons, List.length_cons]
    omega
theorem leanT_len (L : List (List UInt8)) : tot (leanT L) ≤ 2 + tot L := by
  unfold leanT
  split
  · simp [tot]
  · rw [tot_cons]; simp
theorem kind_none (T : List FmL) (wr : FuncId → SL → List (List UInt8)) (k : Int) (d : SL) (h : ∀ f ∈ T, f.1 ≠ k) : kindT T wr k d = [] := by
  unfold kindT
  rw [List.flatMap_eq_nil_iff]
  intro f hf
  rw [if_neg (h f hf)]
theorem claims_len (f : FmL) (hf : f ∈ claimsL) : f.2.1.length ≤ 6 := by
  simp only [claimsL, List.mem_cons, List.not_mem_nil, or_false] at hf
  rcases hf with rfl | rfl | rfl | rfl | rfl <;> decide
theorem forms_len (f : FmL) (hf : f ∈ formsL) : f.2.1.length ≤ 32 := by
  simp only [formsL, List.mem_cons, List.not_mem_nil, or_false] at hf
  rcases hf with rfl | rfl | rfl | rfl | rfl | rfl | rfl | rfl | rfl | rfl | rfl | rfl <;> decide
theorem ends_len (d : SL) : tot (kindT claimsL wrC d.ends d) ≤ 9 + (d.low.length + 1) + (d.high.length + 1) + tot d.ids := by
  by_cases h : ∃ f ∈ claimsL, f.1 = d.ends
  · obtain ⟨f, hf, hk⟩ := h
    rw [← hk, claims_kind f hf, tot_cons]
    have h1 := claims_len f hf
    have h2 := leanT_len d.ids
    have h3 : tot (wrC f.2.2.2 d) ≤ 2 + (d.low.length + 1) + (d.high.length + 1) + tot d.ids := by
      unfold wrC
      have e0 : tot [] = 0 := rfl
      repeat' split
      all_goals (try rw [tot_app])
      all_goals (try simp only [tot_cons, e0])
      all_goals omega
    omega
  · rw [kind_none claimsL wrC d.ends d fun f hf e => h ⟨f, hf, e⟩]
    simp [tot]
theorem lnW_len (d : SL) (hi : SlI d) : tot (lnW d) ≤ 36 * stW d := by
  have hW : 4 ≤ stW d := by unfold stW; omega
  have key : tot (lnW d) ≤ 42 + 25 * stW d := by
    unfold lnW
    by_cases h : ∃ f ∈ formsL, f.1 = d.k
    · obtain ⟨f, hf, hk⟩ := h
      rw [← hk, forms_kind f hf, tot_cons]
      have h1 := forms_len f hf
      have a1 := opsT_len d.ops hi.o
      have a2 := rowT_len d.pcs d.deg hi.p
      have a3 := litsT_len d.lits hi.l
      have a4 := ends_len d
      have e0 : tot [] = 0 := rfl
      have h3 : tot (wrF f.2.2.2 d) ≤ 9 + 25 * stW d := by
        unfold wrF stW
        repeat' split
        all_goals (try rw [tot_app])
        all_goals (try simp only [tot_cons, e0])
        all_goals omega
      omega
    · rw [kind_none formsL wrF d.k d fun f hf e => h ⟨f, hf, e⟩]
      simp [tot]
  omega
theorem lnT_len (d : SL) (hi : SlI d) : (lnT d).length ≤ 36 * stW d := by
  have h1 := words_len (lnW d) []
  have h2 := lnW_len d hi
  unfold lnT
  simp at h1
  omega
theorem txt_wt (ds : List SL) (hi : ∀ d ∈ ds, SlI d) : tot (ds.map lnT) ≤ 37 * wtS ds := by
  induction ds with
  | nil => simp [tot]
  | cons d ds ih =>
    have h1 := lnT_len d (hi d List.mem_cons_self)
    have h2 := ih fun x hx => hi x (List.mem_cons_of_mem _ hx)
    have h3 : 4 ≤ stW d := by unfold stW; omega
    have e : wtS (d :: ds) = stW d + wtS ds := by simp [wtS]
    rw [List.map_cons, tot_cons, e]
    omega
theorem wt_mem {ds : List SL} {d : SL} (h : d ∈ ds) : stW d ≤ wtS ds := by
  induction ds with
  | nil => exact absurd h List.not_mem_nil
  | cons x ds ih =>
    have e : wtS (x :: ds) = stW x + wtS ds := by simp [wtS]
    rw [e]
    rcases List.mem_cons.1 h with rfl | h
    · omega
    · have := ih h; omega
end Go.Proofs.YtibbnijicdijnaaGreatDoor

namespace Go.Proofs.YtibbnijicdijnaaGreatDoor
open Go.RowKit

set_option maxRecDepth 10000 in
set_option maxHeartbeats 4000000 in
theorem print_any (d : SL) (vo vp vl vi : Value) (w : World) (hs : SlR w d vo vp vl vi) (hi : SlI d) (hl : tot (lnW d) ≤ 9000000) (hg : Gl w) (hB : 12 ≤ w.heap.size) : Calls Tryz.prog 13 #[.agg (slC d vo vp vl vi)] w (PrO d w) := by
  unfold PrO
  obtain ⟨W, hW⟩ : ∃ W, w.alloc (.cells (slC d vo vp vl vi) 45) = W := ⟨_, rfl⟩
  have hbW : Below w.heap.size w W := by rw [← hW]; exact (Below.refl _ _).alloc (Nat.le_refl _) _
  have gW : W.heap[w.heap.size]? = some (.cells (slC d vo vp vl vi) 45 (0, 0)) := by rw [← hW]; exact heap_alloc_new w _
  have hlt : w.heap.size < W.heap.size := (Array.getElem?_eq_some_iff.1 gW).1
  obtain ⟨x, hx⟩ : ∃ x, lnT d = x := ⟨_, rfl⟩
  have hxl : x.length ≤ 9000000 := by
    have := words_len (lnW d) []
    have e : wordsP (lnW d) [] = x := hx
    rw [e] at this
    simp at this
    omega
  have HWr : Hid (Calls Tryz.prog 40 #[.agg (slC d vo vp vl vi)] W fun e w' => e = .returned (.string (txtOf x)) ∧ Below W.heap.size W w') := by
    have := write_any d (tabF d.k) vo vp vl vi W (hs.below hbW).e hi (by unfold lnW at hl; omega) (Nat.le_refl _) (hg.next hbW) (by omega)
    have e : wordsP (kindT formsL wrF d.k d) [] = x := hx
    rw [e] at this
    exact this
  obtain ⟨G, hG⟩ : ∃ G, gd x = G := ⟨_, rfl⟩
  obtain ⟨E, hE⟩ : ∃ E, er x = E := ⟨_, rfl⟩
  have HPa : Hid (∀ w', Below W.heap.size W w' → Calls Tryz.prog 18 #[.string (txtOf x)] w' fun e w2 => ∃ oa2 oc2 pa2 pc2 la2 lc2 ia2 ic2, e = .returned (.tuple #[.agg #[.int .i64 G.k, .string (txtOf G.n), .slice oa2 G.ops.length oc2, .slice pa2 G.pcs.length pc2, .string (txtOf G.deg), .slice la2 G.lits.length lc2, .slice ia2 G.ids.length ic2, .int .i64 G.ends, .string (txtOf G.low), .string (txtOf G.high)], .int .i64 E]) ∧ SlR w2 G (.slice oa2 G.ops.length oc2) (.slice pa2 G.pcs.length pc2) (.slice la2 G.lits.length lc2) (.slice ia2 G.ids.length ic2) ∧ Below w'.heap.size w' w2) := fun w' hb => by
    have := parse_out x hxl w' ((hg.next hbW).below hb (by omega))
    rw [hG, hE] at this
    exact this
  have HSm : Hid (∀ w' vo2 vp2 vl2 vi2, Below w.heap.size w w' → SlR w' G vo2 vp2 vl2 vi2 → Calls Tryz.prog 41 #[.agg (slC G vo2 vp2 vl2 vi2), .agg (slC d vo vp vl vi)] w' fun e w2 => e = .returned (.bool (sameB G d)) ∧ Below w'.heap.size w' w2) := fun w' vo2 vp2 vl2 vi2 hb h2 => psame_any G d _ _ _ _ _ _ _ _ w' h2 (hs.below hb)
  have hPx : parseP x = (G, E) := by rw [← hG, ← hE]; rfl
  have HYes : Hid (G = d → E = 0 → prT d = (x, 0)) := fun e1 e2 => by rw [← hx]; exact prT_yes (by rw [hx, hPx, e1, e2])
  have HNo : Hid ((E ≠ 0 ∨ G ≠ d) → prT d = ([], 83)) := fun h => prT_no (by
    rw [hx, hPx]
    intro e
    rcases h with h | h
    · exact h (Prod.ext_iff.1 e).2
    · exact h (Prod.ext_iff.1 e).1)
  have HBW : Hid (Below w.heap.size w W) := hbW
  have HMx : Hid (∀ w', Below W.heap.size W w' → w'.heap[w.heap.size]? = some (.cells (slC d vo vp vl vi) 45 (0, 0))) := fun w' hb => (hb.block _ hlt).trans gW
  obtain ⟨oa, oc, rfl, _, _⟩ := id hs.o
  obtain ⟨pa, pc, rfl, _, _⟩ := id hs.p
  obtain ⟨la, lc, rfl, _, _⟩ := id hs.l
  obtain ⟨ia, ic, rfl, _, _⟩ := id hs.i
  unfold slC at hW HWr HMx gW
  have HM : Hid (∀ w', Below W.heap.size W w' → w'.cell? ⟨w.heap.size, 0, none⟩ = some (.int .i64 d.k) ∧ w'.cell? ⟨w.heap.size, 1, none⟩ = some (.string (txtOf d.n)) ∧ w'.cell? ⟨w.heap.size, 2, none⟩ = some (.slice oa d.ops.length oc) ∧ w'.cell? ⟨w.heap.size, 3, none⟩ = some (.slice pa d.pcs.length pc) ∧ w'.cell? ⟨w.heap.size, 4, none⟩ = some (.string (txtOf d.deg)) ∧ w'.cell? ⟨w.heap.size, 5, none⟩ = some (.slice la d.lits.length lc) ∧ w'.cell? ⟨w.heap.size, 6, none⟩ = some (.slice ia d.ids.length ic) ∧ w'.cell? ⟨w.heap.size, 7, none⟩ = some (.int .i64 d.ends) ∧ w'.cell? ⟨w.heap.size, 8, none⟩ = some (.string (txtOf d.low)) ∧ w'.cell? ⟨w.heap.size, 9, none⟩ = some (.string (txtOf d.high))) := fun w' hb => by
    have g := HMx.out w' hb
    exact ⟨cell_of g 0, cell_of g 1, cell_of g 2, cell_of g 3, cell_of g 4, cell_of g 5, cell_of g 6, cell_of g 7, cell_of g 8, cell_of g 9⟩
  unfold slC
  obtain ⟨m0, m1, m2, m3, m4, m5, m6, m7, m8, m9⟩ := HM.out W (Below.refl _ _)
  obtain ⟨X, hX⟩ : ∃ X, txtOf x = X := ⟨_, rfl⟩
  have HX : Hid (txtOf x = X) := hX
  rw [hX] at HWr HPa
  clear hs hi hl hx hg hbW gW hlt hxl HMx hX hG hE hPx
  go_enter Tryz.func13, Tryz.ntmps13
  go_wp2_with fail
  refine calls_at HWr.out (by with_reducible rfl) (by with_reducible rfl) ?_
  rintro e w1 ⟨rfl, hb1⟩
  have HB1 : Hid (Below W.heap.size W w1) := hb1
  clear hb1 m0 m1 m2 m3 m4 m5 m6 m7 m8 m9
  go_wp2_with fail
  refine calls_at (HPa.out w1 HB1.out) (by with_reducible rfl) (by with_reducible rfl) ?_
  rintro e w2 ⟨oa2, oc2, pa2, pc2, la2, lc2, ia2, ic2, rfl, h2, hb2⟩
  have H2 : Hid (SlR w2 G (.slice oa2 G.ops.length oc2) (.slice pa2 G.pcs.length pc2) (.slice la2 G.lits.length lc2) (.slice ia2 G.ids.length ic2)) := h2
  have HB2 : Hid (Below W.heap.size W w2) := bl_next HB1.out hb2
  clear hb2 h2
  obtain ⟨V, hV⟩ : ∃ V, w2.alloc (.cells #[.int .i64 G.k, .string (txtOf G.n), .slice oa2 G.ops.length oc2, .slice pa2 G.pcs.length pc2, .string (txtOf G.deg), .slice la2 G.lits.length lc2, .slice ia2 G.ids.length ic2, .int .i64 G.ends, .string (txtOf G.low), .string (txtOf G.high)] 45) = V := ⟨_, rfl⟩
  have hbV : Below w2.heap.size w2 V := by rw [← hV]; exact (Below.refl _ _).alloc (Nat.le_refl _) _
  have gV : V.heap[w2.heap.size]? = some (.cells #[.int .i64 G.k, .string (txtOf G.n), .slice oa2 G.ops.length oc2, .slice pa2 G.pcs.length pc2, .string (txtOf G.deg), .slice la2 G.lits.length lc2, .slice ia2 G.ids.length ic2, .int .i64 G.ends, .string (txtOf G.low), .string (txtOf G.high)] 45 (0, 0)) := by rw [← hV]; exact heap_alloc_new w2 _
  have HBV : Hid (Below W.heap.size W V) := bl_next HB2.out hbV
  obtain ⟨m0, m1, m2, m3, m4, m5, m6, m7, m8, m9⟩ := HM.out V HBV.out
  obtain ⟨n0, n1, n2, n3, n4, n5, n6, n7, n8, n9⟩ : V.cell? ⟨w2.heap.size, 0, none⟩ = some (.int .i64 G.k) ∧ V.cell? ⟨w2.heap.size, 1, none⟩ = some (.string (txtOf G.n)) ∧ V.cell? ⟨w2.heap.size, 2, none⟩ = some (.slice oa2 G.ops.length oc2) ∧ V.cell? ⟨w2.heap.size, 3, none⟩ = some (.slice pa2 G.pcs.length pc2) ∧ V.cell? ⟨w2.heap.size, 4, none⟩ = some (.string (txtOf G.deg)) ∧ V.cell? ⟨w2.heap.size, 5, none⟩ = some (.slice la2 G.lits.length lc2) ∧ V.cell? ⟨w2.heap.size, 6, none⟩ = some (.slice ia2 G.ids.length ic2) ∧ V.cell? ⟨w2.heap.size, 7, none⟩ = some (.int .i64 G.ends) ∧ V.cell? ⟨w2.heap.size, 8, none⟩ = some (.string (txtOf G.low)) ∧ V.cell? ⟨w2.heap.size, 9, none⟩ = some (.string (txtOf G.high)) := by
    have g := gV
    exact ⟨cell_of g 0, cell_of g 1, cell_of g 2, cell_of g 3, cell_of g 4, cell_of g 5, cell_of g 6, cell_of g 7, cell_of g 8, cell_of g 9⟩
  have HS2 : Hid (Calls Tryz.prog 41 #[.agg #[.int .i64 G.k, .string (txtOf G.n), .slice oa2 G.ops.length oc2, .slice pa2 G.pcs.length pc2, .string (txtOf G.deg), .slice la2 G.lits.length lc2, .slice ia2 G.ids.length ic2, .int .i64 G.ends, .string (txtOf G.low), .string (txtOf G.high)], .agg #[.int .i64 d.k, .string (txtOf d.n), .slice oa d.ops.length oc, .slice pa d.pcs.length pc, .string (txtOf d.deg), .slice la d.lits.length lc, .slice ia d.ids.length ic, .int .i64 d.ends, .string (txtOf d.low), .string (txtOf d.high)]] V fun e w2 => e = .returned (.bool (sameB G d)) ∧ Below V.heap.size V w2) := HSm.out V _ _ _ _ (HBW.out.trans (HBV.out.mono HBW.out.size)) (H2.out.below hbV)
  clear hbV gV
  by_cases hE0 : E = 0
  · have hEB : (E != 0) = false := by rw [hE0]; rfl
    have HE0 : Hid (E = 0) := hE0
    clear hE0
    go_wp2_with fail
    refine calls_at HS2.out (by with_reducible rfl) (by with_reducible rfl) ?_
    rintro e w3 ⟨rfl, hb3⟩
    have HB3 : Hid (Below W.heap.size W w3) := bl_next HBV.out hb3
    clear hb3 m0 m1 m2 m3 m4 m5 m6 m7 m8 m9 n0 n1 n2 n3 n4 n5 n6 n7 n8 n9
    by_cases hq : G = d
    · have HR : Hid (prT d = (x, 0)) := HYes.out hq HE0.out
      rw [(sameB_iff G d).2 hq]
      clear hq
      go_wp2_with fail
      go_ret2
      refine ⟨?_, HBW.out.trans (HB3.out.mono HBW.out.size)⟩
      rw [HR.out]
      show _ = Ending.returned (.tuple #[.string (txtOf x), .int .i64 0])
      rw [HX.out]
      rfl
    · have HR : Hid (prT d = ([], 83)) := HNo.out (.inr hq)
      rw [sameB_no hq]
      clear hq
      go_wp2_with fail
      go_ret2
      refine ⟨?_, HBW.out.trans (HB3.out.mono HBW.out.size)⟩
      rw [HR.out]
      rfl
  · have hEB : (E != 0) = true := by simpa using hE0
    have HR : Hid (prT d = ([], 83)) := HNo.out (.inl hE0)
    clear hE0
    go_wp2_with fail
    go_ret2
    refine ⟨?_, HBW.out.trans (HBV.out.mono HBW.out.size)⟩
    rw [HR.out]
    rfl
end Go.Proofs.YtibbnijicdijnaaGreatDoor
