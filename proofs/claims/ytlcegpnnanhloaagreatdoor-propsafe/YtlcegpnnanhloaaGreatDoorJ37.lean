/-
  Put together: PpEnds, PpHas, PpLawS, PpLawT, PpLawB.
-/
import Derived.Test.YtlcegpnnanhloaaGreatDoorJ32
import Derived.Test.YtlcegpnnanhloaaGreatDoorJ31
import Derived.Test.YtlcegpnnanhloaaGreatDoorJ30
import Derived.Test.YtlcegpnnanhloaaGreatDoorDmCut
namespace Go.Proofs.YtlcegpnnanhloaaGreatDoor
open Go.RowKit

def Ct.cells (c : Ct) : List Value := [.int .i64 c.k, .int .i64 c.x, .int .i64 c.v]
def cts (L : List Ct) : List Value := L.flatMap Ct.cells
theorem cts_len (L : List Ct) : (cts L).length = L.length * 3 := by
  induction L with
  | nil => rfl
  | cons d L ih => simp only [cts, List.flatMap_cons, List.length_append, List.length_cons] at ih ⊢; rw [ih]; simp [Ct.cells]; omega
theorem cts_snoc (L : List Ct) (c : Ct) : cts (L ++ [c]) = cts L ++ [.int .i64 c.k, .int .i64 c.x, .int .i64 c.v] := by
  simp [cts, Ct.cells]
theorem cts_append (L M : List Ct) : cts (L ++ M) = cts L ++ cts M := by simp [cts]
theorem cts_get (L : List Ct) (j : Nat) (hj : j < L.length) : (cts L)[j * 3]? = some (.int .i64 L[j].k) ∧ (cts L)[j * 3 + 1]? = some (.int .i64 L[j].x) ∧ (cts L)[j * 3 + 2]? = some (.int .i64 L[j].v) := by
  induction L generalizing j with
  | nil => exact absurd hj (by simp)
  | cons d L ih =>
    cases j with
    | zero => exact ⟨rfl, rfl, rfl⟩
    | succ j =>
      have h := ih j (by simpa using hj)
      have e : cts (d :: L) = d.cells ++ cts L := by simp [cts]
      have key : ∀ i, (cts (d :: L))[(j + 1) * 3 + i]? = (cts L)[j * 3 + i]? := fun i => by
        rw [e, List.getElem?_append_right (by simp [Ct.cells]; omega)]
        simp only [Ct.cells, List.length_cons, List.length_nil]
        congr 1
        omega
      refine ⟨?_, ?_, ?_⟩
      · have := key 0
        simp only [Nat.add_zero] at this
        rw [this]; exact h.1
      · rw [key 1]; exact h.2.1
      · rw [key 2]; exact h.2.2
theorem und27w : Tryz.prog.underlying 27 = some (.slice 46) := by kernel_rfl
theorem info46 : (Tryz.prog.info? 46).map (fun i => (i.zero, i.size, i.bytes)) = some (some (.agg #[.int .i64 0, .int .i64 0, .int .i64 0]), 3, 24) := by kernel_rfl
theorem one3 (a b c : Int) : ∀ u ∈ ([.int .i64 a, .int .i64 b, .int .i64 c] : List Value), u.oneCell' = true := by
  intro u hu
  simp only [List.mem_cons, List.not_mem_nil, or_false] at hu
  rcases hu with rfl | rfl | rfl <;> rfl
/-- What is answered: a new list of cuts. -/
def CsOut (L : List Ct) (w : World) (e : Ending) (w' : World) : Prop := ∃ v, e = .returned v ∧ w'.ownsRow w.heap.size 46 3 v L.length (cts L) ∧ Below w.heap.size w w'
def endsL (x : Int) (vs kept : List Int) : List Ct := (if kept.getD 0 0 ≠ vs.getD 0 0 then [⟨1, x, kept.getD 0 0⟩] else []) ++ (if kept.getD (kept.length - 1) 0 ≠ vs.getD (vs.length - 1) 0 then [⟨2, x, kept.getD (kept.length - 1) 0⟩] else [])

set_option maxRecDepth 10000 in
set_option maxHeartbeats 1000000 in
theorem ends_any (x : Int) (vv kv : Value) (vs kept : List Int) (w : World) (hv : IntsAt w vv vs) (hk : IntsAt w kv kept) (h0 : 0 < vs.length) (h1 : 0 < kept.length) (h2 : vs.length ≤ 1000) (h3 : kept.length ≤ 1000) : Calls Tryz.prog 100 #[.int .i64 x, vv, kv] w (CsOut (endsL x vs kept) w) := by
  obtain ⟨va, vc, rfl, _, hvc⟩ := hv
  obtain ⟨ka, kc, rfl, _, hkc⟩ := hk
  obtain ⟨b, off, rfl, hb, hcl⟩ := hvc h0
  obtain ⟨b2, off2, rfl, hb2, hcl2⟩ := hkc h1
  have e0 : vs.getD 0 0 = vs[0] := by rw [List.getD_eq_getElem?_getD, List.getElem?_eq_getElem h0]; rfl
  have e1 : kept.getD 0 0 = kept[0] := by rw [List.getD_eq_getElem?_getD, List.getElem?_eq_getElem h1]; rfl
  have e2 : vs.getD (vs.length - 1) 0 = vs[vs.length - 1] := by rw [List.getD_eq_getElem?_getD, List.getElem?_eq_getElem (by omega)]; rfl
  have e3 : kept.getD (kept.length - 1) 0 = kept[kept.length - 1] := by rw [List.getD_eq_getElem?_getD, List.getElem?_eq_getElem (by omega)]; rfl
  have f0 := hcl 0 h0
  have f1 := hcl2 0 h1
  have f2 := hcl (vs.length - 1) (by omega)
  have f3 := hcl2 (kept.length - 1) (by omega)
  unfold endsL
  rw [e0, e1, e2, e3]
  obtain ⟨p0, hp0⟩ : ∃ p, vs[0] = p := ⟨_, rfl⟩
  obtain ⟨p1, hp1⟩ : ∃ p, kept[0] = p := ⟨_, rfl⟩
  obtain ⟨p2, hp2⟩ : ∃ p, vs[vs.length - 1] = p := ⟨_, rfl⟩
  obtain ⟨p3, hp3⟩ : ∃ p, kept[kept.length - 1] = p := ⟨_, rfl⟩
  rw [hp0] at f0 ⊢
  rw [hp1] at f1 ⊢
  rw [hp2] at f2 ⊢
  rw [hp3] at f3 ⊢
  rw [Nat.add_zero] at f0 f1
  have HF : Hid (∀ w', Below w.heap.size w w' → w'.cell? ⟨b, off + (vs.length - 1), none⟩ = some (.int .i64 p2) ∧ w'.cell? ⟨b2, off2 + (kept.length - 1), none⟩ = some (.int .i64 p3)) := fun w' hq => ⟨(hq.cell (p := ⟨b, _, none⟩) hb).trans f2, (hq.cell (p := ⟨b2, _, none⟩) hb2).trans f3⟩
  obtain ⟨n2, hn2⟩ : ∃ n, vs.length - 1 = n := ⟨_, rfl⟩
  obtain ⟨n3, hn3⟩ : ∃ n, kept.length - 1 = n := ⟨_, rfl⟩
  have i2 : (vs.length : Int) - 1 = (n2 : Int) := by omega
  have i3 : (kept.length : Int) - 1 = (n3 : Int) := by omega
  have j2 : (n2 : Int) < (vs.length : Int) := by omega
  have j3 : (n3 : Int) < (kept.length : Int) := by omega
  have h0I : (0 : Int) < (vs.length : Int) := by omega
  have h1I : (0 : Int) < (kept.length : Int) := by omega
  rw [hn2, hn3] at HF
  have HNil : Hid (w.ownsRow w.heap.size 46 3 (.slice none 0 0) 0 []) := World.ownsRow_nil _ _ _ _
  clear hvc hkc hcl hcl2 e0 e1 e2 e3 hp0 hp1 hp2 hp3 hn2 hn3 f2 f3 hb hb2
  by_cases hd1 : p1 = p0
  · have d1 : (p1 != p0) = false := by simp [hd1]
    obtain ⟨g2, g3⟩ := HF.out w (Below.refl _ _)
    rw [if_neg (by simpa using hd1), List.nil_append]
    clear hd1
    by_cases hd2 : p3 = p2
    · have d2 : (p3 != p2) = false := by simp [hd2]
      rw [if_neg (by simpa using hd2)]
      clear hd2
      go_enter Tryz.func100, Tryz.ntmps100
      go_wp2_with fail
      go_ret
      exact ⟨_, rfl, HNil.out, Below.refl _ _⟩
    · have d2 : (p3 != p2) = true := by simpa using hd2
      rw [if_pos hd2]
      clear hd2
      go_enter Tryz.func100, Tryz.ntmps100
      go_wp2_with (at_builtin; refine append_els w [.int .i64 2, .int .i64 x, .int .i64 p3] 3 rfl (by decide) rfl (.tmp 38) (.tmp 42) 27 46 (.agg #[.int .i64 0, .int .i64 0, .int .i64 0]) 24 rfl und27w info46 rfl w.heap.size _ 0 [] (by rfl) HNil.out (one3 _ _ _) _ rfl (by rfl) (by unfold maxLen; omega) (by omega) (Nat.le_refl _) ?_; intro v2 w2 ho2 hgr2 hn2)
      go_ret
      exact ⟨_, rfl, ho2, ((Below.refl _ _).alloc (Nat.le_refl _) _).grown hgr2 (by simp) (fun g hg => by cases hg)⟩
  · have d1 : (p1 != p0) = true := by simpa using hd1
    rw [if_pos hd1]
    clear hd1
    by_cases hd2 : p3 = p2
    · have d2 : (p3 != p2) = false := by simp [hd2]
      rw [if_neg (by simpa using hd2), List.append_nil]
      clear hd2
      go_enter Tryz.func100, Tryz.ntmps100
      go_wp2_with (at_builtin; refine append_els w [.int .i64 1, .int .i64 x, .int .i64 p1] 3 rfl (by decide) rfl (.tmp 18) (.tmp 22) 27 46 (.agg #[.int .i64 0, .int .i64 0, .int .i64 0]) 24 rfl und27w info46 rfl w.heap.size _ 0 [] (by rfl) HNil.out (one3 _ _ _) _ rfl (by rfl) (by unfold maxLen; omega) (by omega) (Nat.le_refl _) ?_; intro v2 w2 ho2 hgr2 hn2; (have hbz : Below w.heap.size w w2 := ((Below.refl _ _).alloc (Nat.le_refl _) _).grown hgr2 (by simp) (fun g hg => by cases hg)); obtain ⟨g2, g3⟩ := HF.out w2 hbz; (have HO2 : Hid (w2.ownsRow w.heap.size 46 3 v2 1 [.int .i64 1, .int .i64 x, .int .i64 p1]) := ho2); (have HB2 : Hid (Below w.heap.size w w2) := hbz); clear ho2 hgr2 hn2 hbz)
      go_ret
      exact ⟨_, rfl, HO2.out, HB2.out⟩
    · have d2 : (p3 != p2) = true := by simpa using hd2
      rw [if_pos hd2]
      clear hd2
      go_enter Tryz.func100, Tryz.ntmps100
      go_wp2_with (first
        | (at_builtin; refine append_els w [.int .i64 1, .int .i64 x, .int .i64 p1] 3 rfl (by decide) rfl (.tmp 18) (.tmp 22) 27 46 (.agg #[.int .i64 0, .int .i64 0, .int .i64 0]) 24 rfl und27w info46 rfl w.heap.size _ 0 [] (by rfl) HNil.out (one3 _ _ _) _ rfl (by rfl) (by unfold maxLen; omega) (by omega) (Nat.le_refl _) ?_; intro v2 w2 ho2 hgr2 hn2; (have hbz : Below w.heap.size w w2 := ((Below.refl _ _).alloc (Nat.le_refl _) _).grown hgr2 (by simp) (fun g hg => by cases hg)); obtain ⟨g2, g3⟩ := HF.out w2 hbz; (have HO2 : Hid (w2.ownsRow w.heap.size 46 3 v2 1 [.int .i64 1, .int .i64 x, .int .i64 p1]) := ho2); (have HB2 : Hid (Below w.heap.size w w2) := hbz); clear ho2 hgr2 hn2 hbz)
        | (at_builtin; refine append_els w2 [.int .i64 2, .int .i64 x, .int .i64 p3] 3 rfl (by decide) rfl (.tmp 38) (.tmp 42) 27 46 (.agg #[.int .i64 0, .int .i64 0, .int .i64 0]) 24 rfl und27w info46 rfl w.heap.size _ 1 _ (by rfl) HO2.out (one3 _ _ _) _ rfl (by rfl) (by unfold maxLen; omega) (by omega) HB2.out.size ?_; intro v4 w4 ho4 hgr4 hn4; (have HB4 : Hid (Below w.heap.size w w4) := (HB2.out.alloc HB2.out.size _).grown hgr4 (by have := HB2.out.size; simp; omega) (fun g hg => (HO2.out.lt g hg).1)); (have HO4 : Hid (w4.ownsRow w.heap.size 46 3 v4 2 [.int .i64 1, .int .i64 x, .int .i64 p1, .int .i64 2, .int .i64 x, .int .i64 p3]) := ho4); clear ho4 hgr4 hn4))
      go_ret
      exact ⟨_, rfl, HO4.out, HB4.out⟩
end Go.Proofs.YtlcegpnnanhloaaGreatDoor

namespace Go.Proofs.YtlcegpnnanhloaaGreatDoor
open Go.RowKit

set_option maxRecDepth 10000 in
set_option maxHeartbeats 1000000 in
theorem has_max (B : Nat) (a b : Int) (tv : Value) (ts : List (Int → Bool)) (fs : List Value) (v : Int) (w : World) (ho : w.ownsRow B 58 1 tv ts.length fs) (ht : TestsAt B w fs ts) (hB : B ≤ w.heap.size) (hl : ts.length ≤ 9223372036854775807) (h1 : -2000000000 ≤ v) (h2 : v ≤ 2000000000) : Calls Tryz.prog 99 #[stVal a b tv, .int .i64 v] w fun e w' => e = .returned (.bool (ts.all (fun t => t v) && inB a b v)) ∧ Below w.heap.size w w' := by
  obtain ⟨ta, cap, rfl⟩ := own_slice ho
  obtain ⟨W, hW⟩ : ∃ W, w.alloc (.cells #[.int .i64 a, .int .i64 b, .slice ta ts.length cap] 105) = W := ⟨_, rfl⟩
  have hb0 : Below w.heap.size w W := by rw [← hW]; exact (Below.refl _ _).alloc (Nat.le_refl _) _
  have g0 : W.heap[w.heap.size]? = some (.cells #[.int .i64 a, .int .i64 b, .slice ta ts.length cap] 105 (0, 0)) := by rw [← hW]; exact heap_alloc_new w _
  have hlt0 := (Array.getElem?_eq_some_iff.1 g0).1
  have HC : Hid (∀ w', Below W.heap.size W w' → w'.cell? ⟨w.heap.size, 0, none⟩ = some (.int .i64 a) ∧ w'.cell? ⟨w.heap.size, 1, none⟩ = some (.int .i64 b) ∧ w'.cell? ⟨w.heap.size, 2, none⟩ = some (.slice ta ts.length cap)) := fun w' hb => ⟨cell_of ((hb.block _ hlt0).trans g0) 0, cell_of ((hb.block _ hlt0).trans g0) 1, cell_of ((hb.block _ hlt0).trans g0) 2⟩
  have hfl : fs.length = ts.length := ht.1
  have HO : Hid (∀ k (hk : k < ts.length) w', Below W.heap.size W w' → ∃ q fn caps, ta = some ⟨q, 0, none⟩ ∧ w'.cell? ⟨q, k, none⟩ = some (.func (.func fn) #[] caps) ∧ Enters Tryz.prog fn ∧ Calls Tryz.prog fn (#[.int .i64 v] ++ caps) w' fun e w2 => e = .returned (.bool (ts[k] v)) ∧ Below w'.heap.size w' w2) := fun k hk w' hb => by
    have hbw := hb0.trans (hb.mono hb0.size)
    rcases own_cells (own_below ho hbw) with ⟨_, hn⟩ | ⟨q, c2, hv, _, _, _, hc⟩
    · omega
    · injection hv with e1 _ _
      obtain ⟨fn, caps, hf, he, hcl⟩ := ht.2 k (by omega) hk
      refine ⟨q, fn, caps, e1, ?_, he, hcl w' (Kq.of_below hbw hB) v h1 h2⟩
      have := hc k fs[k] (List.getElem?_eq_getElem (by omega))
      rw [this, hf]
  have HB : Hid (Below w.heap.size w W) := hb0
  have HW : Hid (∀ w', Calls Tryz.prog 54 #[.agg #[.int .i64 a, .int .i64 b], .int .i64 v] w' fun e w2 => e = .returned (.bool (inB a b v)) ∧ Below w'.heap.size w' w2) := fun w' => withinB_any a b v w'
  obtain ⟨c0, c1, c2⟩ := HC.out W (Below.refl _ _)
  clear ho ht hb0 g0 hlt0 hfl
  unfold stVal
  go_enter Tryz.func99, Tryz.ntmps99
  go_wp2_with fail
  clear c0 c1 c2
  go_loopw [10] (fun iv wr => ∃ (k : Nat), iv = .int .i64 (k : Int) ∧ k ≤ ts.length ∧ Hid ((ts.take k).all (fun t => t v) = true) ∧ Hid (Below W.heap.size W wr)) (fun iv _ => ts.length - (intOf iv).toNat)
  case atStart => exact ⟨0, rfl, Nat.zero_le _, rfl, Below.refl _ _⟩
  case round =>
  obtain ⟨k, rfl, hk, HT, HBr⟩ := hrel
  by_cases hkn : k < ts.length
  · have hkI : (k : Int) < (ts.length : Int) := by omega
    obtain ⟨q, fn, caps, rfl, cq, he, hcl⟩ := HO.out k hkn wr HBr.out
    have HN : Hid ((ts.take (k + 1)).all (fun t => t v) = ts[k] v) := by show _ = _; rw [List.take_succ_eq_append_getElem hkn, List.all_append, HT.out]; simp
    have HN2 : Hid (ts[k] v = false → ts.all (fun t => t v) = false) := fun hf => by
      rw [← Bool.not_eq_true, List.all_eq_true]
      intro hh
      have := hh ts[k] (List.getElem_mem hkn)
      rw [hf] at this
      cases this
    obtain ⟨r, hr⟩ : ∃ r, ts[k] v = r := ⟨_, rfl⟩
    rw [hr] at hcl HN HN2
    have HCl : Hid (Calls Tryz.prog fn (#[.int .i64 v] ++ caps) wr fun e w2 => e = .returned (.bool r) ∧ Below wr.heap.size wr w2) := hcl
    unfold Enters at he
    clear hcl hr
    cases r with
    | false =>
      have HZ : Hid (ts.all (fun t => t v) = false) := HN2.out rfl
      go_wp2_with (go_at_fn fn; refine calls_at HCl.out (by with_reducible rfl) (by with_reducible rfl) ?_; rintro e w2 ⟨rfl, hb2⟩)
      go_ret
      exact ⟨ret_bool (by rw [HZ.out]; rfl), HB.out.trans ((HBr.out.trans (hb2.mono HBr.out.size)).mono HB.out.size)⟩
    | true =>
      go_wp2_with (go_at_fn fn; refine calls_at HCl.out (by with_reducible rfl) (by with_reducible rfl) ?_; rintro e w2 ⟨rfl, hb2⟩)
      go_roundw
      case rel => exact ⟨k + 1, by go_num, hkn, HN, HBr.out.trans (hb2.mono HBr.out.size)⟩
      case measure => simp [intOf]; omega
  · have hke : k = ts.length := by omega
    subst hke
    have HT2 : Hid (ts.all (fun t => t v) = true) := by have := HT.out; rw [List.take_length] at this; exact this
    have hkI : ¬ (ts.length : Int) < (ts.length : Int) := by omega
    obtain ⟨c0, c1, c2⟩ := HC.out wr HBr.out
    go_wp2_with fail
    refine calls_at (HW.out wr) (by with_reducible rfl) (by with_reducible rfl) ?_
    rintro e w2 ⟨rfl, hb2⟩
    have HB2 : Hid (Below w.heap.size w w2) := HB.out.trans ((HBr.out.trans (hb2.mono HBr.out.size)).mono HB.out.size)
    clear hb2
    go_wp2_with fail
    go_ret
    exact ⟨ret_bool (by rw [HT2.out]; rfl), HB2.out⟩
end Go.Proofs.YtlcegpnnanhloaaGreatDoor

namespace Go.Proofs.YtlcegpnnanhloaaGreatDoor
open Go.RowKit

/-- A value stays behind a cut. -/
def stB (q : Ct) (x v : Int) : Bool := (q.x != x) || (((q.k == 1) && decide (q.v ≤ v)) || (((q.k == 2) && decide (v ≤ q.v)) || ((q.k == 3) && (v != q.v))))
set_option maxRecDepth 10000 in
set_option maxHeartbeats 1000000 in
theorem stays_any (q : Ct) (x v : Int) (w : World) : Calls Tryz.prog 34 #[.agg #[.int .i64 q.k, .int .i64 q.x, .int .i64 q.v], .int .i64 x, .int .i64 v] w fun e w' => e = .returned (.bool (stB q x v)) ∧ Below w.heap.size w w' := by
  obtain ⟨k, y, u⟩ := q
  obtain ⟨W, hW⟩ : ∃ W, w.alloc (.cells #[.int .i64 k, .int .i64 y, .int .i64 u] 46) = W := ⟨_, rfl⟩
  have HB : Hid (Below w.heap.size w W) := by show Below _ _ _; rw [← hW]; exact (Below.refl _ _).alloc (Nat.le_refl _) _
  have g0 : W.heap[w.heap.size]? = some (.cells #[.int .i64 k, .int .i64 y, .int .i64 u] 46 (0, 0)) := by rw [← hW]; exact heap_alloc_new w _
  have d0 : W.cell? ⟨w.heap.size, 0, none⟩ = some (.int .i64 k) := cell_of g0 0
  have d1 : W.cell? ⟨w.heap.size, 1, none⟩ = some (.int .i64 y) := cell_of g0 1
  have d2 : W.cell? ⟨w.heap.size, 2, none⟩ = some (.int .i64 u) := cell_of g0 2
  show Calls Tryz.prog 34 #[.agg #[.int .i64 k, .int .i64 y, .int .i64 u], .int .i64 x, .int .i64 v] w fun e w' => e = .returned (.bool (stB ⟨k, y, u⟩ x v)) ∧ Below w.heap.size w w'
  have HE : Hid (stB ⟨k, y, u⟩ x v = ((y != x) || (((k == 1) && decide (u ≤ v)) || (((k == 2) && decide (v ≤ u)) || ((k == 3) && (v != u)))))) := rfl
  clear g0
  by_cases hy : y = x
  case neg =>
    have e1 : (y != x) = true := by simpa using hy
    rw [HE.out, e1]
    go_enter Tryz.func34, Tryz.ntmps34
    go_wp2_with fail
    go_ret
    exact ⟨rfl, HB.out⟩
  case pos =>
    have e1 : (y != x) = false := by simpa using hy
    rw [HE.out, e1]
    clear hy
    obtain ⟨b1, h1⟩ : ∃ b, (k == 1) = b := ⟨_, rfl⟩
    obtain ⟨b2, h2⟩ : ∃ b, (k == 2) = b := ⟨_, rfl⟩
    obtain ⟨b3, h3⟩ : ∃ b, (k == 3) = b := ⟨_, rfl⟩
    obtain ⟨l1, g1⟩ : ∃ b, decide (u ≤ v) = b := ⟨_, rfl⟩
    obtain ⟨l2, g2⟩ : ∃ b, decide (v ≤ u) = b := ⟨_, rfl⟩
    obtain ⟨l3, g3⟩ : ∃ b, (v != u) = b := ⟨_, rfl⟩
    rw [h1, h2, h3, g1, g2, g3]
    go_enter Tryz.func34, Tryz.ntmps34
    go_upto_region 3 with fail
    cases b1 <;> cases b2 <;> cases b3 <;> cases l1 <;> cases l2 <;> cases l3 <;> (go_wp2_with fail; go_ret; exact ⟨rfl, HB.out⟩)

/-- A value stays behind each of some cuts. -/
def someB (L : List Ct) (x v : Int) : Bool := L.all fun q => stB q x v
end Go.Proofs.YtlcegpnnanhloaaGreatDoor

namespace Go.Proofs.YtlcegpnnanhloaaGreatDoor
open Go.RowKit

theorem someB_next {L : List Ct} {x v : Int} {k : Nat} (hk : k < L.length) (h : someB (L.take k) x v = true) : someB (L.take (k + 1)) x v = stB L[k] x v := by
  unfold someB at h ⊢
  rw [List.take_succ_eq_append_getElem hk, List.all_append, h]
  simp
theorem someB_not {L : List Ct} {x v : Int} {k : Nat} (hk : k < L.length) (h : stB L[k] x v = false) : someB L x v = false := by
  unfold someB
  rw [← Bool.not_eq_true, List.all_eq_true]
  intro hh
  have := hh L[k] (List.getElem_mem hk)
  rw [h] at this
  cases this
theorem CtsAt.below {w w' : World} {a : Option Addr} {L : List Ct} (h : CtsAt w a L) (hb : Below w.heap.size w w') : CtsAt w' a L := fun j hj => by
  obtain ⟨b, off, e, h0, h1, h2⟩ := h j hj
  exact ⟨b, off, e, one_next hb h0, one_next hb h1, one_next hb h2⟩

set_option maxRecDepth 10000 in
set_option maxHeartbeats 1000000 in
theorem some_any (a : Option Addr) (cap : Nat) (L : List Ct) (x v : Int) (w : World) (h : CtsAt w a L) (hl : L.length ≤ 9223372036854775807) : Calls Tryz.prog 19 #[.slice a L.length cap, .int .i64 x, .int .i64 v] w fun e w' => e = .returned (.bool (someB L x v)) ∧ Below w.heap.size w w' := by
  have HC : Hid (∀ w', Below w.heap.size w w' → CtsAt w' a L) := fun w' hb => h.below hb
  have HS : Hid (∀ (q : Ct) w', Calls Tryz.prog 34 #[.agg #[.int .i64 q.k, .int .i64 q.x, .int .i64 q.v], .int .i64 x, .int .i64 v] w' fun e w2 => e = .returned (.bool (stB q x v)) ∧ Below w'.heap.size w' w2) := fun q w' => stays_any q x v w'
  clear h
  go_enter Tryz.func19, Tryz.ntmps19
  go_wp2_with fail
  go_loopw [7] (fun iv wr => ∃ (k : Nat), iv = .int .i64 (k : Int) ∧ k ≤ L.length ∧ Hid (someB (L.take k) x v = true) ∧ Hid (Below w.heap.size w wr)) (fun iv _ => L.length - (intOf iv).toNat)
  case atStart => exact ⟨0, rfl, Nat.zero_le _, rfl, Below.refl _ _⟩
  case round =>
  obtain ⟨k, rfl, hk, HT, HBr⟩ := hrel
  by_cases hkn : k < L.length
  · have hkI : (k : Int) < (L.length : Int) := by omega
    obtain ⟨b, off, rfl, c0, c1, c2⟩ := HC.out wr HBr.out k hkn
    have hN := someB_next hkn HT.out
    have hZ := fun hh => someB_not (x := x) (v := v) hkn hh
    have hSk := HS.out L[k] wr
    obtain ⟨r, hr⟩ : ∃ r, stB L[k] x v = r := ⟨_, rfl⟩
    rw [hr] at hN hZ hSk
    have HN : Hid (someB (L.take (k + 1)) x v = r) := hN
    have HZ : Hid (r = false → someB L x v = false) := hZ
    have HSk : Hid (Calls Tryz.prog 34 #[.agg #[.int .i64 L[k].k, .int .i64 L[k].x, .int .i64 L[k].v], .int .i64 x, .int .i64 v] wr fun e w2 => e = .returned (.bool r) ∧ Below wr.heap.size wr w2) := hSk
    clear hN hZ hSk hr
    cases r with
    | false =>
      have HZ2 : Hid (someB L x v = false) := HZ.out rfl
      go_wp2_with (go_at_call 34; refine calls_at HSk.out (by with_reducible rfl) (by with_reducible rfl) ?_; rintro e w2 ⟨rfl, hb2⟩)
      go_ret
      exact ⟨ret_bool (by rw [HZ2.out]), bl_next HBr.out hb2⟩
    | true =>
      go_wp2_with (go_at_call 34; refine calls_at HSk.out (by with_reducible rfl) (by with_reducible rfl) ?_; rintro e w2 ⟨rfl, hb2⟩)
      go_roundw
      case rel => exact ⟨k + 1, by go_num, hkn, HN, bl_next HBr.out hb2⟩
      case measure => simp [intOf]; omega
  · have hke : k = L.length := by omega
    subst hke
    have hkI : ¬ (L.length : Int) < (L.length : Int) := by omega
    have HT2 : Hid (someB L x v = true) := by have := HT.out; rw [List.take_length] at this; exact this
    go_wp2_with fail
    go_ret
    exact ⟨ret_bool (by rw [HT2.out]), HBr.out⟩
end Go.Proofs.YtlcegpnnanhloaaGreatDoor

namespace Go.Proofs.YtlcegpnnanhloaaGreatDoor
open Go.RowKit

/-- A store behind cuts, whether they may be or not. -/
def foldC (s : St) (L : List Ct) : St := L.foldl (fun s c => s.cut c.k c.x c.v) s
theorem foldC_next {s : St} {L : List Ct} {k : Nat} (hk : k < L.length) : foldC s (L.take (k + 1)) = (foldC s (L.take k)).cut L[k].k L[k].x L[k].v := by
  unfold foldC
  rw [List.take_succ_eq_append_getElem hk, List.foldl_append]
  rfl
/-- What behind leaves. -/
def BhOut (m : Md.Mo) (L : List Ct) (w : World) (e : Ending) (w' : World) : Prop := ∃ B p nv mv, w.heap.size ≤ B ∧ e = .returned (.pointer (some ⟨p, 0, none⟩)) ∧ StAt B w' p nv mv (foldC (newS m) L) ∧ Below w.heap.size w w'

set_option maxRecDepth 10000 in
set_option maxHeartbeats 1000000 in
theorem behind_any (m : Md.Mo) (vv vc vg : Value) (a : Option Addr) (cap : Nat) (L : List Ct) (w : World) (h : MoAt w m vv vc vg) (hs : 0 < w.heap.size) (hL : CtsAt w a L) (hl : L.length ≤ 9223372036854775807) : Calls Tryz.prog 8 #[moVal m vv vc vg, .slice a L.length cap] w (BhOut m L w) := by
  obtain ⟨W, hW⟩ : ∃ W, w.alloc (.cells #[vv, vc, .bool m.has, vg] 26) = W := ⟨_, rfl⟩
  have hb0 : Below w.heap.size w W := by rw [← hW]; exact (Below.refl _ _).alloc (Nat.le_refl _) _
  have g0 : W.heap[w.heap.size]? = some (.cells #[vv, vc, .bool m.has, vg] 26 (0, 0)) := by rw [← hW]; exact heap_alloc_new w _
  have HN : Hid (Calls Tryz.prog 13 #[.agg #[vv, vc, .bool m.has, vg]] W (NewOut m W)) := new_any m vv vc vg W (h.below hb0) (Nat.lt_of_lt_of_le hs hb0.size)
  have HC : Hid (∀ w', Below w.heap.size w w' → CtsAt w' a L) := fun w' hb => hL.below hb
  have HCu : Hid (∀ B p nv mv s (q : Ct) w', StAt B w' p nv mv s → Calls Tryz.prog 14 #[.pointer (some ⟨p, 0, none⟩), .agg #[.int .i64 q.k, .int .i64 q.x, .int .i64 q.v]] w' (CutOut B p nv mv s q.k q.x q.v w')) := fun B p nv mv s q w' h => cut_any B p nv mv s q.k q.x q.v w' h
  have HB0 : Hid (Below w.heap.size w W) := hb0
  have HO : Hid (∀ B p nv mv w', w.heap.size ≤ B → StAt B w' p nv mv (foldC (newS m) L) → Below w.heap.size w w' → BhOut m L w (.returned (.pointer (some ⟨p, 0, none⟩))) w') := fun B p nv mv w' h1 h2 h3 => ⟨B, p, nv, mv, h1, rfl, h2, h3⟩
  obtain ⟨⟨p0, p1, p2, p3⟩, _⟩ := box4 g0
  have hmv : moVal m vv vc vg = .agg #[vv, vc, .bool m.has, vg] := rfl
  rw [hmv]
  clear h hL hb0 g0 hs hmv
  go_enter Tryz.func8, Tryz.ntmps8
  go_wp2_with (go_at_call 13; (try rw [hW]); refine calls_at HN.out (by with_reducible rfl) (by with_reducible rfl) ?_; rintro e w1 ⟨p, nv, mv, rfl, hS1, hb1⟩)
  have HS1 : Hid (StAt W.heap.size w1 p nv mv (foldC (newS m) (L.take 0))) := hS1
  have HB1 : Hid (Below w.heap.size w w1) := HB0.out.trans (hb1.mono HB0.out.size)
  clear hS1 hb1 p0 p1 p2 p3 hW HN
  go_loopw [6] (fun iv wr => ∃ (k : Nat), iv = .int .i64 (k : Int) ∧ k ≤ L.length ∧ Hid (StAt W.heap.size wr p nv mv (foldC (newS m) (L.take k))) ∧ Hid (Below w.heap.size w wr)) (fun iv _ => L.length - (intOf iv).toNat)
  case atStart => exact ⟨0, rfl, Nat.zero_le _, HS1, HB1⟩
  case round =>
  obtain ⟨k, rfl, hk, HS, HBr⟩ := hrel
  by_cases hkn : k < L.length
  · have hkI : (k : Int) < (L.length : Int) := by omega
    obtain ⟨b, off, rfl, c0, c1, c2⟩ := HC.out wr HBr.out k hkn
    have HK : Hid (Calls Tryz.prog 14 #[.pointer (some ⟨p, 0, none⟩), .agg #[.int .i64 L[k].k, .int .i64 L[k].x, .int .i64 L[k].v]] wr (CutOut W.heap.size p nv mv (foldC (newS m) (L.take k)) L[k].k L[k].x L[k].v wr)) := HCu.out _ _ _ _ _ L[k] wr HS.out
    have HX : Hid (foldC (newS m) (L.take (k + 1)) = (foldC (newS m) (L.take k)).cut L[k].k L[k].x L[k].v) := foldC_next hkn
    go_wp2_with (go_at_call 14; refine calls_at HK.out (by with_reducible rfl) (by with_reducible rfl) ?_; rintro e w2 ⟨rfl, hS2, hT2⟩)
    go_roundw
    case rel => exact ⟨k + 1, by go_num, hkn, (by show StAt _ _ _ _ _ _; rw [HX.out]; exact hS2), HBr.out.trans (hT2.below.mono HB0.out.size)⟩
    case measure => simp [intOf]; omega
  · have hke : k = L.length := by omega
    subst hke
    have hkI : ¬ (L.length : Int) < (L.length : Int) := by omega
    have HS2 : Hid (StAt W.heap.size wr p nv mv (foldC (newS m) L)) := by have := HS.out; rw [List.take_length] at this; exact this
    go_wp2_with fail
    go_ret
    exact HO.out _ _ _ _ _ HB0.out.size HS2.out HBr.out

end Go.Proofs.YtlcegpnnanhloaaGreatDoor
