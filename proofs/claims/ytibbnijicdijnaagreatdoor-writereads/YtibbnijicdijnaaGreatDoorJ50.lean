/-
  Put together: PwOp, PwFew, PwFit.
-/
import Derived.Test.YtibbnijicdijnaaGreatDoorJ49
import Derived.Test.YtibbnijicdijnaaGreatDoorPfOpn
namespace Go.Proofs.YtibbnijicdijnaaGreatDoor
open Go.ChangeShapes Go.WideShapes Go.ChangeAt Go.RowKit Go.Deep

structure OpD where
  kind : Int
  sec : Bool
  pcs : List PcL
  deg : List UInt8
  ops : List OpL
  l : List Int
  a : Int
  b : Int
  c : Int
  d : Int
def opdC (o : OpD) (vp vo vl : Value) : Array Value := #[.int .i64 o.kind, .bool o.sec, vp, .string (txtOf o.deg), vo, vl, .int .i64 o.a, .int .i64 o.b, .int .i64 o.c, .int .i64 o.d]
structure OdR (w : World) (o : OpD) (vp vo vl : Value) : Prop where
  p : RdAt w vp o.pcs.length (pcsC o.pcs)
  q : RdAt w vo o.ops.length (opsC o.ops)
  l : RdAt w vl o.l.length (o.l.map (.int .i64))
theorem OdR.below {w w' : World} {o : OpD} {vp vo vl : Value} (h : OdR w o vp vo vl) (hb : Below w.heap.size w w') : OdR w' o vp vo vl := ⟨h.p.below hb, h.q.below hb, h.l.below hb⟩
structure OdI (o : OpD) : Prop where
  p : ∀ x ∈ o.pcs, I64 x.2
  q : ∀ x ∈ o.ops, I64 x.2.2
  l : ∀ x ∈ o.l, I64 x
  a : I64 o.a
  b : I64 o.b
  c : I64 o.c
  d : I64 o.d
structure OdM (o : OpD) : Prop where
  deg : o.deg.length ≤ maxLen
  pcs : ∀ x ∈ o.pcs.map fun p => p.1, x.length ≤ maxLen
  ops : ∀ x ∈ o.ops.map fun p => p.2.1, x.length ≤ maxLen
  l : o.l.length ≤ maxLen
def OpsR (w : World) (v : Value) (os : List OpD) : Prop := ∃ a c, v = .slice a os.length c ∧ os.length ≤ 9223372036854775807 ∧ ∀ i (hi : i < os.length), ∃ g off vp vo vl, a = some ⟨g, off, none⟩ ∧ g < w.heap.size ∧ OdR w os[i] vp vo vl ∧ ∀ j, j < 10 → w.cell? ⟨g, off + i * 10 + j, none⟩ = (opdC os[i] vp vo vl)[j]?
theorem OpsR.below {w w' : World} {v : Value} {os : List OpD} (h : OpsR w v os) (hb : Below w.heap.size w w') : OpsR w' v os := by
  obtain ⟨a, c, h1, h2, h3⟩ := h
  refine ⟨a, c, h1, h2, fun i hi => ?_⟩
  obtain ⟨g, off, vp, vo, vl, e1, e2, e3, e4⟩ := h3 i hi
  exact ⟨g, off, vp, vo, vl, e1, Nat.lt_of_lt_of_le e2 hb.size, e3.below hb, fun j hj => (hb.cell (p := ⟨g, off + i * 10 + j, none⟩) e2).trans (e4 j hj)⟩
theorem ou56 : Tryz.prog.underlying 56 = some (.slice 61) := by kernel_rfl
theorem ou61 : Tryz.prog.underlying 61 = some (.struct #[⟨"Kind", 3, 0, false, "", "", 0⟩, ⟨"Second", 4, 1, false, "", "", 8⟩, ⟨"Row", 41, 2, false, "", "", 16⟩, ⟨"Ops", 38, 4, false, "", "", 56⟩, ⟨"L", 42, 5, false, "", "", 80⟩, ⟨"A", 3, 6, false, "", "", 104⟩, ⟨"B", 3, 7, false, "", "", 112⟩, ⟨"C", 3, 8, false, "", "", 120⟩, ⟨"D", 3, 9, false, "", "", 128⟩]) := by kernel_rfl
theorem oc61 : Tryz.prog.cellsOf 61 = 10 := by kernel_rfl
theorem oc4 : Tryz.prog.cellsOf 4 = 1 := by kernel_rfl
section
variable {H : Type} {enc : TypeId × Value → H} {w : World} {base : Nat} {spare : Nat → Bool} {held : Bool} {fuel : Nat} {cs : List Value} {x : DataW H × List MemPlace}
set_option maxRecDepth 100000 in
theorem opd_o (h : DataW.trod enc Tryz.prog w base spare held fuel 61 cs = some x) : ∃ (o : OpD) (vp vo vl : Value), cs = (opdC o vp vo vl).toList ∧ OdR w o vp vo vl ∧ OdI o ∧ OdM o := by
  obtain ⟨xs, k, _, _, hl, hxl, hf⟩ := DataW.trod_struct ou61 h
  replace hl : cs.length = 10 := hl.trans oc61
  match cs, hl with
  | [v0, v1, v2, v3, v4, v5, v6, v7, v8, v9], _ =>
    have g0 := hf 0 _ rfl
    have g1 := hf 1 _ rfl
    have g2 := hf 2 _ rfl
    have g3 := hf 3 _ rfl
    have g4 := hf 4 _ rfl
    have g5 := hf 5 _ rfl
    have g6 := hf 6 _ rfl
    have g7 := hf 7 _ rfl
    have g8 := hf 8 _ rfl
    simp [oc3, oc4, oc38, oc41, oc42] at g0 g1 g2 g3 g4 g5 g6 g7 g8
    have hx : ∀ i, i < 9 → ∃ y, xs[i]? = some y := fun i hi => ⟨xs[i]'(by rw [hxl]; exact hi), List.getElem?_eq_getElem _⟩
    obtain ⟨y0, e0⟩ := hx 0 (by decide)
    obtain ⟨y1, e1⟩ := hx 1 (by decide)
    obtain ⟨y2, e2⟩ := hx 2 (by decide)
    obtain ⟨y3, e3⟩ := hx 3 (by decide)
    obtain ⟨y4, e4⟩ := hx 4 (by decide)
    obtain ⟨y5, e5⟩ := hx 5 (by decide)
    obtain ⟨y6, e6⟩ := hx 6 (by decide)
    obtain ⟨y7, e7⟩ := hx 7 (by decide)
    obtain ⟨y8, e8⟩ := hx 8 (by decide)
    rw [e0] at g0; rw [e1] at g1; rw [e2] at g2; rw [e3] at g3; rw [e4] at g4; rw [e5] at g5; rw [e6] at g6; rw [e7] at g7; rw [e8] at g8
    obtain ⟨n0, h0, _⟩ := int_o g0
    obtain ⟨n1, h1, _⟩ := DataW.trod_bool Tryz.underlying4 g1
    obtain ⟨u2, l2, dg, h2, a2, b2, c2, d2⟩ := row_o g2
    obtain ⟨u3, l3, h3, a3, b3, c3⟩ := ops_o g3
    obtain ⟨u4, l4, h4, a4, b4, c4⟩ := ints_o g4
    obtain ⟨n5, h5, b5⟩ := int_o g5
    obtain ⟨n6, h6, b6⟩ := int_o g6
    obtain ⟨n7, h7, b7⟩ := int_o g7
    obtain ⟨n8, h8, b8⟩ := int_o g8
    simp at h0 h1 h2 h3 h4 h5 h6 h7 h8
    obtain ⟨h2a, h2b⟩ := h2
    subst h0 h1 h2a h2b h3 h4 h5 h6 h7 h8
    refine ⟨⟨n0, n1, l2, dg, l3, l4, n5, n6, n7, n8⟩, v2, v4, v5, rfl, ⟨a2, a3, a4⟩, ⟨c2, c3, b4, b5, b6, b7, b8⟩, ⟨d2, ?_, ?_, c4⟩⟩
    · intro x hx
      obtain ⟨o, ho, rfl⟩ := List.mem_map.1 hx
      exact b2 o ho
    · intro x hx
      obtain ⟨o, ho, rfl⟩ := List.mem_map.1 hx
      exact b3 o ho
theorem opds_o (h : DataW.trod enc Tryz.prog w base spare held fuel 56 cs = some x) : ∃ (v : Value) (os : List OpD), cs = [v] ∧ OpsR w v os ∧ (∀ o ∈ os, OdI o) ∧ ∀ o ∈ os, OdM o := by
  rcases open_slice ou56 h with ⟨rfl, _⟩ | ⟨a, len, cap, m, n, D, Pl, rfl, _, hl, hm, hmm, _, hx⟩
  · exact ⟨_, [], rfl, ⟨none, 0, rfl, by simp, fun i hi => absurd hi (Nat.not_lt_zero _)⟩, fun o ho => absurd ho List.not_mem_nil, fun o ho => absurd ho List.not_mem_nil⟩
  · have hlm : len ≤ m := by rw [hmm]; split <;> omega
    have each : ∀ i, i < len → ∃ o : OpD, ∃ vp vo vl, (∀ j, j < 10 → w.cell? (a.add (i * 10 + j)) = (opdC o vp vo vl)[j]?) ∧ OdR w o vp vo vl ∧ OdI o ∧ OdM o := fun i hi => by
      obtain ⟨cs', h1, h2⟩ := hx i (by omega)
      rw [oc61] at h1
      obtain ⟨o, vp, vo, vl, hz, b1, b2, b3⟩ := opd_o h2
      subst hz
      obtain ⟨_, _, hcell⟩ := World.cells?_some h1
      refine ⟨o, vp, vo, vl, fun j hj => ?_, b1, b2, b3⟩
      have := hcell j hj
      rw [add_add] at this
      rw [this, Array.getElem?_toList]
    obtain ⟨l, hll, hl2⟩ := list_of each
    have hcm : l.length ≤ maxLen := by omega
    refine ⟨_, l, rfl, ⟨some a, cap, by rw [hll], by unfold maxLen at hcm; omega, fun i hi => ?_⟩, ?_, ?_⟩
    · obtain ⟨vp, vo, vl, e1, e2, _, _⟩ := hl2 i hi
      obtain ⟨b, off, spot⟩ := a
      obtain ⟨vp0, vo0, vl0, z1, _, _, _⟩ := hl2 0 (by omega)
      have e0' : w.cell? ((⟨b, off, spot⟩ : Addr).add 0) = some (.int .i64 l[0].kind) := z1 0 (by omega)
      have hspot : spot = none := World.cell?_spot e0'
      subst hspot
      have hbl : b < w.heap.size := World.block_lt_of_cell? w _ e0'
      refine ⟨b, off, vp, vo, vl, rfl, hbl, e2, fun j hj => ?_⟩
      have := e1 j hj
      rw [addr_noneR] at this
      rw [Nat.add_assoc]
      exact this
    · intro z hz
      obtain ⟨j, hj, rfl⟩ := List.mem_iff_getElem.1 hz
      obtain ⟨_, _, _, _, _, h1, _⟩ := hl2 j hj
      exact h1
    · intro z hz
      obtain ⟨j, hj, rfl⟩ := List.mem_iff_getElem.1 hz
      obtain ⟨_, _, _, _, _, _, h1⟩ := hl2 j hj
      exact h1
end
end Go.Proofs.YtibbnijicdijnaaGreatDoor

namespace Go.Proofs.YtibbnijicdijnaaGreatDoor
open Go.RowKit

def fewW (o : OpD) : Nat := (o.deg.length + 1 + tot (o.pcs.map fun p => p.1)) + tot (o.ops.map fun p => p.2.1) + o.l.length
def fewS (os : List OpD) : Nat := (os.map fewW).sum
theorem fewS_snoc (os : List OpD) (i : Nat) (hi : i < os.length) : fewS (os.take (i + 1)) = fewS (os.take i) + fewW os[i] := by
  unfold fewS
  rw [List.take_succ_eq_append_getElem hi, List.map_append, List.sum_append]
  simp only [List.map_cons, List.map_nil, List.sum_cons, List.sum_nil, Nat.add_zero]
theorem many_n (n : Int) (w : World) : Calls Tryz.prog 8 #[.int .i64 n] w fun e w' => e = .returned (.pointer (some ⟨w.heap.size, 0, none⟩)) ∧ w' = w.alloc (.cells #[.int .i64 n] 86) := by
  go_enter Tryz.func8, Tryz.ntmps8
  go_wp2
  go_ret
  exact ⟨rfl, rfl⟩
/-- How few ends. -/
def FwO (os : List OpD) (w : World) (e : Ending) (w' : World) : Prop := ∃ bo, e = .returned (.bool bo) ∧ (bo = true → fewS os ≤ 20000) ∧ Below w.heap.size w w'
set_option maxRecDepth 10000 in
set_option maxHeartbeats 4000000 in
theorem few_any (os : List OpD) (v : Value) (w : World) (hR : OpsR w v os) (hM : ∀ o ∈ os, OdM o) : Calls Tryz.prog 21 #[v] w (FwO os w) := by
  obtain ⟨a, c, rfl, hn, _⟩ := id hR
  have HR : Hid (OpsR w (.slice a os.length c) os) := hR
  have HM : Hid (∀ o ∈ os, OdM o) := hM
  obtain ⟨V, hV⟩ : ∃ V, w.alloc (.cells #[.int .i64 20000] 86) = V := ⟨_, rfl⟩
  have hbV : Below w.heap.size w V := by rw [← hV]; exact (Below.refl _ _).alloc (Nat.le_refl _) _
  have HC0 : Hid (CtAt V w.heap.size 20000) := by rw [← hV]; exact ⟨heap_alloc_new w _, by omega, by omega⟩
  have HBV : Hid (Below w.heap.size w V) := hbV
  have HMa : Hid (Calls Tryz.prog 8 #[.int .i64 20000] w fun e w' => e = .returned (.pointer (some ⟨w.heap.size, 0, none⟩)) ∧ w' = V) := by rw [← hV]; exact many_n 20000 w
  have HOk : Hid (∀ L' w', CtAt w' w.heap.size L' → Calls Tryz.prog 10 #[.pointer (some ⟨w.heap.size, 0, none⟩)] w' fun e w2 => e = .returned (.bool (decide (0 ≤ L'))) ∧ w2 = w') := fun L' w' h' => cok_any _ L' w' h'
  clear hR hM hbV hV
  go_enter Tryz.func21, Tryz.ntmps21
  go_wp2_with fail
  refine calls_at HMa.out (by with_reducible rfl) (by with_reducible rfl) ?_
  rintro e w0 ⟨rfl, hw0⟩
  rw [hw0]
  clear hw0 HMa
  go_wp2_with fail
  go_loopw [4] (fun iv wr => ∃ i : Nat, iv = .int .i64 (i : Int) ∧ i ≤ os.length ∧ Hid (CtO w.heap.size w.heap.size 20000 (fewS (os.take i)) V wr)) (fun iv _ => os.length - (intOf iv).toNat)
  case atStart => exact ⟨0, rfl, Nat.zero_le _, 20000, HC0.out, fun _ => by simp [fewS], SStp.refl _ _ _⟩
  case round =>
    obtain ⟨i, rfl, hi, HI⟩ := hrel
    obtain ⟨Lr, k1, k2, k3⟩ := HI.out
    have HK : Hid (CtAt wr w.heap.size Lr ∧ (0 ≤ Lr → Lr + ((fewS (os.take i) : Nat) : Int) ≤ 20000) ∧ SStp w.heap.size (fun k => k = w.heap.size) V wr) := ⟨k1, k2, k3⟩
    clear k1 k2 k3
    have HBr : Hid (Below w.heap.size w wr) := HBV.out.trans HK.out.2.2.below
    by_cases hin : i < os.length
    · have hiI : (i : Int) < (os.length : Int) := by omega
      go_wp2_with fail
      refine calls_at (HOk.out Lr wr HK.out.1) (by with_reducible rfl) (by with_reducible rfl) ?_
      rintro e w1 ⟨rfl, hw1⟩
      rw [hw1]
      clear hw1
      by_cases hL : 0 ≤ Lr
      · rw [decide_eq_true hL]
        obtain ⟨a', c', z1, _, z3⟩ := HR.out
        obtain ⟨rfl, _, rfl⟩ : a = a' ∧ os.length = os.length ∧ c = c' := by simpa using z1
        obtain ⟨g, off, vp, vo, vl, rfl, hgl, hsl, hce0⟩ := z3 i hin
        have hts := fewS_snoc os i hin
        have hmo := HM.out os[i] (List.getElem_mem hin)
        obtain ⟨o, ho⟩ : ∃ o, os[i] = o := ⟨_, rfl⟩
        rw [ho] at hsl hce0 hts hmo
        have HRw : Hid (∀ L' w', CtAt w' w.heap.size L' → Below w.heap.size w w' → Calls Tryz.prog 48 #[.pointer (some ⟨w.heap.size, 0, none⟩), .agg #[vp, .string (txtOf o.deg)]] w' fun e w2 => e = .returned (.tuple #[]) ∧ CtO w.heap.size w.heap.size L' (o.deg.length + 1 + tot (o.pcs.map fun p => p.1)) w' w2) := fun L' w' h' hb' => crow_any w o.pcs o.deg vp hsl.p hmo.pcs hmo.deg L' w' h' (Nat.le_refl _) hb'
        have HOp : Hid (∀ L' w', CtAt w' w.heap.size L' → Below w.heap.size w w' → Calls Tryz.prog 49 #[.pointer (some ⟨w.heap.size, 0, none⟩), vo] w' fun e w2 => e = .returned (.tuple #[]) ∧ CtO w.heap.size w.heap.size L' (tot (o.ops.map fun p => p.2.1)) w' w2) := fun L' w' h' hb' => cops_any w o.ops vo hsl.q hmo.ops L' w' h' (Nat.le_refl _) hb'
        have HAd : Hid (∀ L' w', CtAt w' w.heap.size L' → Calls Tryz.prog 50 #[.pointer (some ⟨w.heap.size, 0, none⟩), .int .i64 (o.l.length : Int)] w' fun e w2 => SomeB e ∧ CtO w.heap.size w.heap.size L' o.l.length w' w2) := fun L' w' h' => cadd_any L' o.l.length w' h' (Nat.le_refl _) hmo.l
        obtain ⟨pa, pc, rfl, _, _⟩ := id hsl.p
        obtain ⟨qa, qc, rfl, _, _⟩ := id hsl.q
        obtain ⟨la, lc, rfl, _, _⟩ := id hsl.l
        have Hce : Hid (∀ w', Below w.heap.size w w' → w'.cell? ⟨g, off + i * 10 + 2, none⟩ = some (.slice pa o.pcs.length pc) ∧ w'.cell? ⟨g, off + i * 10 + 3, none⟩ = some (.string (txtOf o.deg)) ∧ w'.cell? ⟨g, off + i * 10 + 4, none⟩ = some (.slice qa o.ops.length qc) ∧ w'.cell? ⟨g, off + i * 10 + 5, none⟩ = some (.slice la o.l.length lc)) := fun w' hb => by
          have k := fun j hj => (hb.cell (p := ⟨g, off + i * 10 + j, none⟩) hgl).trans (hce0 j hj)
          exact ⟨k 2 (by omega), k 3 (by omega), k 4 (by omega), k 5 (by omega)⟩
        have HTs : Hid (fewS (os.take (i + 1)) = fewS (os.take i) + fewW o) := hts
        clear hce0 hsl hgl ho hts hmo z3 z1
        obtain ⟨x2, x3, x4, x5⟩ := Hce.out wr HBr.out
        go_wp2_with fail
        refine calls_at (HRw.out Lr wr HK.out.1 HBr.out) (by with_reducible rfl) (by with_reducible rfl) ?_
        rintro e w2 ⟨rfl, hq⟩
        obtain ⟨L2, j1, j2, j3⟩ := CtO.next HK.out.2.1 HK.out.2.2 hq
        have H2 : Hid (CtAt w2 w.heap.size L2 ∧ (0 ≤ L2 → L2 + ((fewS (os.take i) + (o.deg.length + 1 + tot (o.pcs.map fun p => p.1)) : Nat) : Int) ≤ 20000) ∧ SStp w.heap.size (fun k => k = w.heap.size) V w2) := ⟨j1, j2, j3⟩
        clear hq j1 j2 j3 x2 x3 x4 x5
        obtain ⟨x2, x3, x4, x5⟩ := Hce.out w2 (HBV.out.trans H2.out.2.2.below)
        go_wp2_with fail
        refine calls_at (HOp.out L2 w2 H2.out.1 (HBV.out.trans H2.out.2.2.below)) (by with_reducible rfl) (by with_reducible rfl) ?_
        rintro e w3 ⟨rfl, hq⟩
        obtain ⟨L3, j1, j2, j3⟩ := CtO.next H2.out.2.1 H2.out.2.2 hq
        have H3 : Hid (CtAt w3 w.heap.size L3 ∧ (0 ≤ L3 → L3 + ((fewS (os.take i) + (o.deg.length + 1 + tot (o.pcs.map fun p => p.1)) + tot (o.ops.map fun p => p.2.1) : Nat) : Int) ≤ 20000) ∧ SStp w.heap.size (fun k => k = w.heap.size) V w3) := ⟨j1, j2, j3⟩
        clear hq j1 j2 j3 x2 x3 x4 x5
        obtain ⟨x2, x3, x4, x5⟩ := Hce.out w3 (HBV.out.trans H3.out.2.2.below)
        go_wp2_with fail
        refine calls_at (HAd.out L3 w3 H3.out.1) (by with_reducible rfl) (by with_reducible rfl) ?_
        rintro e w4 ⟨⟨bo, rfl⟩, hq⟩
        have HE : Hid (CtO w.heap.size w.heap.size 20000 (fewS (os.take (i + 1))) V w4) := by
          rw [HTs.out]
          exact (CtO.next H3.out.2.1 H3.out.2.2 hq).to (by unfold fewW; omega)
        clear hq x2 x3 x4 x5
        go_wp2_with fail
        go_roundw
        case rel => exact ⟨i + 1, by go_num, hin, HE⟩
        case measure => simp [intOf]; omega
      · rw [decide_eq_false hL]
        go_wp2_with fail
        refine calls_at (HOk.out Lr wr HK.out.1) (by with_reducible rfl) (by with_reducible rfl) ?_
        rintro e w1 ⟨rfl, hw1⟩
        rw [hw1, decide_eq_false (show ¬ 0 ≤ Lr by omega)]
        clear hw1
        have HE : Hid (FwO os w (.returned (.bool false)) wr) := ⟨false, rfl, (fun h => by cases h), HBr.out⟩
        go_wp2_with fail
        go_ret
        exact HE.out
    · have hiI : ¬ (i : Int) < (os.length : Int) := by omega
      have HF : Hid (0 ≤ Lr → fewS os ≤ 20000) := fun h0 => by
        have := HK.out.2.1 h0
        rw [List.take_of_length_le (by omega)] at this
        omega
      go_wp2_with fail
      refine calls_at (HOk.out Lr wr HK.out.1) (by with_reducible rfl) (by with_reducible rfl) ?_
      rintro e w1 ⟨rfl, hw1⟩
      rw [hw1]
      clear hw1
      by_cases hL : 0 ≤ Lr
      · rw [decide_eq_true hL]
        have HE : Hid (FwO os w (.returned (.bool (decide ((os.length : Int) ≤ 200)))) wr) := ⟨_, rfl, fun _ => HF.out hL, HBr.out⟩
        clear HF
        go_wp2_with fail
        go_ret
        exact HE.out
      · rw [decide_eq_false hL]
        have HE : Hid (FwO os w (.returned (.bool false)) wr) := ⟨false, rfl, (fun h => by cases h), HBr.out⟩
        clear HF
        go_wp2_with fail
        go_ret
        exact HE.out
end Go.Proofs.YtibbnijicdijnaaGreatDoor

namespace Go.Proofs.YtibbnijicdijnaaGreatDoor
open Go.RowKit

def stB (d : SL) : Nat := (d.n.length + 1) + (d.low.length + 1) + (d.high.length + 1) + tot (d.ops.map fun o => o.2.1) + (d.deg.length + 1 + tot (d.pcs.map fun o => o.1)) + d.lits.length
theorem lnW_fine (d : SL) (hi : SlI d) : tot (lnW d) ≤ 42 + 25 * stB d + tot d.ids := by
  unfold lnW
  by_cases h : ∃ f ∈ formsL, f.1 = d.k
  · obtain ⟨f, hf, hk⟩ := h
    rw [← hk, forms_kind f hf, tot_cons]
    have h1 := forms_len f hf
    have a1 := opsT_len d.ops hi.o
    have a2 := rowT_len d.pcs d.deg hi.p
    have a3 := litsT_len d.lits hi.l
    have a4 := ends_len d
    have e0 : tot [] = 0 := rfl
    have h3 : tot (wrF f.2.2.2 d) ≤ 9 + 25 * stB d + tot d.ids := by
      unfold wrF stB
      repeat' split
      all_goals (try rw [tot_app])
      all_goals (try simp only [tot_cons, e0])
      all_goals omega
    omega
  · rw [kind_none formsL wrF d.k d fun f hf e => h ⟨f, hf, e⟩]
    simp [tot]
theorem itoas_tot (L : List Int) (h : ∀ x ∈ L, I64 x) : tot (L.map Lib.itoa) ≤ 21 * L.length := by
  induction L with
  | nil => simp [tot]
  | cons x L ih =>
    have h1 := itoa_short (n := x) (h x List.mem_cons_self)
    have h2 := ih fun y hy => h y (List.mem_cons_of_mem _ hy)
    rw [List.map_cons, tot_cons, List.length_cons]
    omega
/-- A log that is not too long for W parts more. -/
theorem fit_one {D : List SL} {W : Nat} (d : SL) (hi : SlI d) (hb : 25 * stB d + tot d.ids ≤ 1900 + 25 * W) (hD : tot (D.map lnT) ≤ 8000000) (hW : W ≤ 20000) : Fit D [d] ∧ tot ((D ++ [d]).map lnT) ≤ tot (D.map lnT) + 2000 + 25 * W := by
  have h1 := lnW_fine d hi
  have h2 := lnT_tot d
  have e : tot ((D ++ [d]).map lnT) = tot (D.map lnT) + ((lnT d).length + 1) := by
    rw [List.map_append, tot_app]
    simp [tot]
  refine ⟨⟨fun x hx => ?_, fun x hx => ?_, by omega⟩, by omega⟩
  · have ex : x = d := by simpa using hx
    rw [ex]
    exact hi
  · have ex : x = d := by simpa using hx
    rw [ex]
    omega
theorem fit_rup {D : List SL} (o : OpD) (ho : OdI o) (hD : tot (D.map lnT) ≤ 8000000) (hW : fewW o ≤ 20000) : Fit D [rupS o.pcs o.deg o.l] ∧ tot ((D ++ [rupS o.pcs o.deg o.l]).map lnT) ≤ tot (D.map lnT) + 2000 + 25 * fewW o := by
  have h1 := itoas_tot o.l ho.l
  refine fit_one _ ⟨ho.p, fun x hx => absurd hx List.not_mem_nil, fun x hx => absurd hx List.not_mem_nil⟩ ?_ hD hW
  unfold rupS stB fewW SL.zero
  simp only [List.map_nil, List.length_nil]
  have e0 : tot [] = 0 := rfl
  omega
theorem fit_pol {D : List SL} (o : OpD) (ho : OdI o) (hD : tot (D.map lnT) ≤ 8000000) (hW : fewW o ≤ 20000) : Fit D [polS o.ops] ∧ tot ((D ++ [polS o.ops]).map lnT) ≤ tot (D.map lnT) + 2000 + 25 * fewW o := by
  refine fit_one _ ⟨fun x hx => absurd hx List.not_mem_nil, fun x hx => absurd hx List.not_mem_nil, ho.q⟩ ?_ hD hW
  unfold polS stB fewW SL.zero
  simp only [List.map_nil, List.length_nil]
  have e0 : tot [] = 0 := rfl
  omega
theorem fit_soli {D : List SL} (o : OpD) (ho : OdI o) (hD : tot (D.map lnT) ≤ 8000000) (hW : fewW o ≤ 20000) : Fit D [soliS o.l] ∧ tot ((D ++ [soliS o.l]).map lnT) ≤ tot (D.map lnT) + 2000 + 25 * fewW o := by
  refine fit_one _ ⟨fun x hx => absurd hx List.not_mem_nil, ho.l, fun x hx => absurd hx List.not_mem_nil⟩ ?_ hD hW
  unfold soliS stB fewW SL.zero
  simp only [List.map_nil, List.length_nil]
  have e0 : tot [] = 0 := rfl
  omega
theorem fit_solx {D : List SL} (o : OpD) (ho : OdI o) (hD : tot (D.map lnT) ≤ 8000000) (hW : fewW o ≤ 20000) : Fit D [solxS o.l] ∧ tot ((D ++ [solxS o.l]).map lnT) ≤ tot (D.map lnT) + 2000 + 25 * fewW o := by
  refine fit_one _ ⟨fun x hx => absurd hx List.not_mem_nil, ho.l, fun x hx => absurd hx List.not_mem_nil⟩ ?_ hD hW
  unfold solxS stB fewW SL.zero
  simp only [List.map_nil, List.length_nil]
  have e0 : tot [] = 0 := rfl
  omega
theorem fit_same {D : List SL} (o : OpD) (ho : OdI o) (hD : tot (D.map lnT) ≤ 8000000) (hW : fewW o ≤ 20000) : Fit D [sameS o.a o.pcs o.deg] ∧ tot ((D ++ [sameS o.a o.pcs o.deg]).map lnT) ≤ tot (D.map lnT) + 2000 + 25 * fewW o := by
  have h1 := itoa_short (n := o.a) ho.a
  refine fit_one _ ⟨ho.p, fun x hx => absurd hx List.not_mem_nil, fun x hx => absurd hx List.not_mem_nil⟩ ?_ hD hW
  unfold sameS stB fewW SL.zero
  simp only [List.map_nil, List.length_nil, tot_cons]
  have e0 : tot [] = 0 := rfl
  omega
theorem fit_del {D : List SL} (o : OpD) (ho : OdI o) (hD : tot (D.map lnT) ≤ 8000000) (hW : fewW o ≤ 20000) : Fit D [delS o.l] ∧ tot ((D ++ [delS o.l]).map lnT) ≤ tot (D.map lnT) + 2000 + 25 * fewW o := by
  have h1 := itoas_tot o.l ho.l
  refine fit_one _ (sli_nil rfl rfl rfl) ?_ hD hW
  unfold delS stB fewW SL.zero
  simp only [List.map_nil, List.length_nil]
  have e0 : tot [] = 0 := rfl
  omega
theorem fit_note {D : List SL} (o : OpD) (hD : tot (D.map lnT) ≤ 8000000) (hW : fewW o ≤ 20000) : Fit D [noteS] ∧ tot ((D ++ [noteS]).map lnT) ≤ tot (D.map lnT) + 2000 + 25 * fewW o := by
  refine fit_one _ (sli_nil rfl rfl rfl) ?_ hD hW
  unfold noteS stB fewW SL.zero
  simp only [List.map_nil, List.length_nil]
  have e0 : tot [] = 0 := rfl
  omega
theorem giv_short {n : Int} (h : I64 n) : (givT n).length ≤ 20 := by
  unfold givT
  split
  · simp
  · exact itoa_short h
theorem fit_end {D : List SL} (o : OpD) (ho : OdI o) (hD : tot (D.map lnT) ≤ 8000000) (hW : fewW o ≤ 20000) : Fit D (endS o.a o.b o.c o.d) ∧ tot ((D ++ endS o.a o.b o.c o.d).map lnT) ≤ tot (D.map lnT) + 2000 + 25 * fewW o := by
  have i1 : SlI outS := sli_nil rfl rfl rfl
  have i2 : SlI (conS o.a o.b o.c o.d) := sli_nil rfl rfl rfl
  have i3 : SlI lastS := sli_nil rfl rfl rfl
  have l1 := lnW_fine outS i1
  have l2 := lnW_fine _ i2
  have l3 := lnW_fine lastS i3
  have t1 := lnT_tot outS
  have t2 := lnT_tot (conS o.a o.b o.c o.d)
  have t3 := lnT_tot lastS
  have b1 : stB outS = 4 := rfl
  have b3 : stB lastS = 4 := rfl
  have n1 : tot outS.ids = 0 := rfl
  have n3 : tot lastS.ids = 0 := rfl
  have s1 := itoa_short (n := o.b) ho.b
  have s2 := itoa_short (n := o.c) ho.c
  have s3 := itoa_short (n := o.d) ho.d
  have g2 := giv_short ho.c
  have g3 := giv_short ho.d
  have e0 : tot [] = 0 := rfl
  have c1 : (conS o.a o.b o.c o.d).low.length ≤ 20 := by unfold conS; simp only []; split <;> omega
  have c2 : (conS o.a o.b o.c o.d).high.length ≤ 20 := by unfold conS; simp only []; split <;> omega
  have c3 : tot (conS o.a o.b o.c o.d).ids ≤ 21 := by
    unfold conS
    simp only []
    split
    · omega
    · simp only [tot_cons]; omega
  have b2 : stB (conS o.a o.b o.c o.d) ≤ 44 := by
    have : stB (conS o.a o.b o.c o.d) = 1 + ((conS o.a o.b o.c o.d).low.length + 1) + ((conS o.a o.b o.c o.d).high.length + 1) + 1 := by
      show (0 + 1) + ((conS o.a o.b o.c o.d).low.length + 1) + ((conS o.a o.b o.c o.d).high.length + 1) + 0 + (0 + 1 + 0) + 0 = _
      omega
    omega
  have e : tot ((D ++ endS o.a o.b o.c o.d).map lnT) = tot (D.map lnT) + ((lnT outS).length + 1 + ((lnT (conS o.a o.b o.c o.d)).length + 1 + ((lnT lastS).length + 1 + 0))) := by
    rw [List.map_append, tot_app]
    rfl
  refine ⟨⟨fun x hx => ?_, fun x hx => ?_, by omega⟩, by omega⟩
  · simp only [endS, List.mem_cons, List.not_mem_nil, or_false] at hx
    rcases hx with rfl | rfl | rfl <;> assumption
  · simp only [endS, List.mem_cons, List.not_mem_nil, or_false] at hx
    rcases hx with rfl | rfl | rfl <;> omega
end Go.Proofs.YtibbnijicdijnaaGreatDoor
