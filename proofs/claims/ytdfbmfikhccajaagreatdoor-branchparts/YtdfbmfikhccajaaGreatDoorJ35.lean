/-
  Put together: DmVals, DmPack.
-/
import Derived.Test.YtdfbmfikhccajaaGreatDoorJ33
import Derived.Test.YtdfbmfikhccajaaGreatDoorMdSrc
import Derived.Laws.MakeOwn
import Derived.Laws.OwnMore
namespace Go.Proofs.YtdfbmfikhccajaaGreatDoor
open Go.RowKit

theorem own_below {w w' : World} {B : Nat} {e : TypeId} {size : Nat} {v : Value} {n : Nat} {xs : List Value} (h : w.ownsRow B e size v n xs) (hb : Below w.heap.size w w') : w'.ownsRow B e size v n xs := by
  obtain ⟨h1, h2⟩ := h
  refine ⟨h1, ?_⟩
  rcases h2 with h2 | ⟨g, cap, cur, e1, e2, e3, e4⟩
  · exact .inl h2
  · exact .inr ⟨g, cap, cur, e1, e2, (hb.block g (Array.getElem?_eq_some_iff.1 e3).1).trans e3, e4⟩

theorem own_less {w : World} {B C : Nat} {e : TypeId} {size : Nat} {v : Value} {n : Nat} {xs : List Value} (h : w.ownsRow B e size v n xs) (hb : C ≤ B) : w.ownsRow C e size v n xs := by
  obtain ⟨h1, h2⟩ := h
  refine ⟨h1, ?_⟩
  rcases h2 with h2 | ⟨g, cap, cur, e1, e2, e3⟩
  · exact .inl h2
  · exact .inr ⟨g, cap, cur, e1, Nat.le_trans hb e2, e3⟩
/-- The values up to the k-th place from the least. -/
def dVals (f a b : Int) (k : Nat) : List Int := ((List.range k).map (fun j : Nat => f + bLow a b + (j : Int))).filter (dHas f a b)
theorem dVals_succ (f a b : Int) (k : Nat) : dVals f a b (k + 1) = dVals f a b k ++ (if dHas f a b (f + bLow a b + (k : Int)) then [f + bLow a b + (k : Int)] else []) := by
  unfold dVals
  rw [List.range_succ, List.map_append, List.filter_append]
  simp only [List.map_cons, List.map_nil, List.filter_cons, List.filter_nil]
theorem dVals_len (f a b : Int) (k : Nat) : (dVals f a b k).length ≤ k := by
  have := List.length_filter_le (dHas f a b) ((List.range k).map (fun j : Nat => f + bLow a b + (j : Int)))
  simpa [dVals] using this
/-- How many places there are from the least to the greatest. -/
def dN (a b : Int) : Nat := (bHigh a b - bLow a b + 1).toNat
theorem dN_le (a b : Int) : dN a b ≤ 96 := by
  have := bLow_lo a b
  have := bHigh_lo a b
  unfold dN; omega
def dAll (f a b : Int) : List Int := dVals f a b (dN a b)

theorem und53 : Tryz.prog.underlying 38 = some (.slice 3) := by kernel_rfl
theorem make0 (c : Int) (h0 : 0 ≤ c) (h1 : c ≤ 1000) (w : World) : (Instr.makeSlice 38 (.int .i64 0) (.int .i64 c)).run Tryz.prog w = .ok (.slice (some ⟨w.heap.size, 0, none⟩) 0 c.toNat) (w.alloc (.cells (madeCells #[.int .i64 0] c.toNat) 3)) := by
  obtain ⟨i, hi, hz, hs, hbb⟩ := info_of info3
  have hr := run_make (P := Tryz.prog) w 38 3 i (.int .i64 0) und53 hi hz .i64 .i64 0 c (Int.le_refl _) h0 (by rw [hbb]; omega) (by omega)
  rw [hs, Nat.mul_one] at hr
  exact hr

/-- What values leaves: a new row. -/
def VsOut (L : List Int) (w : World) (e : Ending) (w' : World) : Prop := ∃ v, e = .returned v ∧ w'.ownsRow w.heap.size 3 1 v L.length (L.map (.int .i64)) ∧ Below w.heap.size w w'

set_option maxRecDepth 10000 in
set_option maxHeartbeats 1000000 in
theorem values_any (f a b : Int) (w : World) (h1 : -1000000000 ≤ f) (h2 : f ≤ 1000000000) (ha : IsW a) (hb : IsW b) (hT : Tz w) (hs : 0 < w.heap.size) : Calls Tryz.prog 32 #[dmVal f a b] w (VsOut (dAll f a b) w) := by
  have hl := bLow_lo a b
  have hh := bHigh_lo a b
  have hz := ones_lo a ha.1 ha.2
  have hy := ones_lo b hb.1 hb.2
  have hm := make0 (bSize a b) (by unfold bSize; omega) (by unfold bSize; omega)
  obtain ⟨W, hW⟩ : ∃ W, w.alloc (.cells #[.int .i64 f, .int .u32 a, .int .u32 b] 73) = W := ⟨_, rfl⟩
  have hb0 : Below w.heap.size w W := by rw [← hW]; exact (Below.refl _ _).alloc (Nat.le_refl _) _
  have HB : Hid (Below w.heap.size w W) := hb0
  have g0 : W.heap[w.heap.size]? = some (.cells #[.int .i64 f, .int .u32 a, .int .u32 b] 73 (0, 0)) := by rw [← hW]; exact heap_alloc_new w _
  have hlt := (Array.getElem?_eq_some_iff.1 g0).1
  have hsW : 0 < W.heap.size := Nat.lt_of_lt_of_le hs hb0.size
  have HC : Hid (∀ w', Below W.heap.size W w' → w'.cell? ⟨w.heap.size, 0, none⟩ = some (.int .i64 f) ∧ w'.cell? ⟨w.heap.size, 1, none⟩ = some (.int .u32 a) ∧ w'.cell? ⟨w.heap.size, 2, none⟩ = some (.int .u32 b)) := fun w' hb =>
    ⟨(hb.cell (p := ⟨w.heap.size, 0, none⟩) hlt).trans (cell_of g0 0), (hb.cell (p := ⟨w.heap.size, 1, none⟩) hlt).trans (cell_of g0 1), (hb.cell (p := ⟨w.heap.size, 2, none⟩) hlt).trans (cell_of g0 2)⟩
  have HZ : Hid (∀ w', Calls Tryz.prog 31 #[btVal a b] w' fun e w2 => e = .returned (.int .i64 (bSize a b)) ∧ Below w'.heap.size w' w2) := fun w' => size_any a b w' ha hb
  have HL : Hid (∀ w', Below W.heap.size W w' → Calls Tryz.prog 35 #[dmVal f a b] w' fun e w2 => e = .returned (.int .i64 (f + bLow a b)) ∧ Below w'.heap.size w' w2) := fun w' hq => lo_any f a b w' h1 h2 ha hb ((hT.below hb0 hs).below hq hsW) (Nat.lt_of_lt_of_le hsW hq.size)
  have HH : Hid (∀ w', Calls Tryz.prog 34 #[dmVal f a b] w' fun e w2 => e = .returned (.int .i64 (f + bHigh a b)) ∧ Below w'.heap.size w' w2) := fun w' => hi_any f a b w' h1 h2 ha hb
  have HD : Hid (∀ v w', Calls Tryz.prog 33 #[dmVal f a b, .int .i64 v] w' fun e w2 => e = .returned (.bool (dHas f a b v)) ∧ Below w'.heap.size w' w2) := fun v w' => holds_any f a b v w' h1 h2
  obtain ⟨c0, c1, c2⟩ := HC.out W (Below.refl _ _)
  have HSZ : Hid (bSize a b ≤ 64 ∧ 0 ≤ bSize a b) := by constructor <;> (unfold bSize; omega)
  clear hb0 g0 hlt hz hy hT
  obtain ⟨lw, hlw⟩ : ∃ lw, bLow a b = lw := ⟨_, rfl⟩
  obtain ⟨hg, hhg⟩ : ∃ hg, bHigh a b = hg := ⟨_, rfl⟩
  have HN : Hid (dN a b = (hg - lw + 1).toNat) := by show _ = _; rw [← hlw, ← hhg]; rfl
  have HV : Hid (∀ k, dVals f a b (k + 1) = dVals f a b k ++ (if dHas f a b (f + lw + (k : Int)) then [f + lw + (k : Int)] else [])) := fun k => by rw [← hlw]; exact dVals_succ f a b k
  have HLen := dVals_len f a b
  rw [hlw] at hl HL
  rw [hhg] at hh HH
  clear hlw hhg
  unfold dmVal btVal at *
  go_enter Tryz.func32, Tryz.ntmps32
  go_wp2_with fail
  refine calls_at (HZ.out _) (by with_reducible rfl) (by with_reducible rfl) ?_
  rintro e w1 ⟨rfl, hb1⟩
  have HB1 : Hid (Below W.heap.size W w1) := hb1
  obtain ⟨W2, hW2⟩ : ∃ W2, w1.alloc (.cells (madeCells #[.int .i64 0] (bSize a b).toNat) 3) = W2 := ⟨_, rfl⟩
  have HO : Hid (W2.ownsRow W.heap.size 3 1 (.slice (some ⟨w1.heap.size, 0, none⟩) 0 (bSize a b).toNat) 0 []) := by
    show World.ownsRow _ _ _ _ _ _ _
    rw [← hW2]
    exact World.ownsRow_made w1 _ _ hb1.size (by have := HSZ.out; unfold maxLen; omega) (by simp [size_madeCells])
  have HB2 : Hid (Below W.heap.size W W2) := by rw [← hW2]; exact hb1.alloc hb1.size _
  obtain ⟨c0', c1', c2'⟩ := HC.out W2 HB2.out
  clear c0 c1 c2 hb1
  go_wp2_with fail
  refine calls_at (HL.out _ HB2.out) (by with_reducible rfl) (by with_reducible rfl) ?_
  rintro e w3 ⟨rfl, hb3⟩
  have HB3 : Hid (Below W.heap.size W w3) := bl_next HB2.out hb3
  have HO3 : Hid (w3.ownsRow W.heap.size 3 1 (.slice (some ⟨w1.heap.size, 0, none⟩) 0 (bSize a b).toNat) 0 []) := own_below HO.out hb3
  clear hb3 c0' c1' c2' hW2
  go_wp2_with fail
  go_loopw [3, 4] (fun oq vv wr => ∃ (k : Nat) (ov : Value), oq = ov ∧ vv = .int .i64 (f + lw + (k : Int)) ∧ k ≤ dN a b ∧ Hid (wr.ownsRow W.heap.size 3 1 ov (dVals f a b k).length ((dVals f a b k).map (.int .i64))) ∧ Hid (Below W.heap.size W wr)) (fun _ vv _ => dN a b - (intOf vv - (f + lw)).toNat)
  case atStart => exact ⟨0, _, rfl, by simp, Nat.zero_le _, HO3, HB3⟩
  case round =>
    obtain ⟨k, _, rfl, rfl, hk, HOr, HBr⟩ := hrel
    obtain ⟨c0, c1, c2⟩ := HC.out wr HBr.out
    go_wp2_with fail
    refine calls_at (HH.out _) (by with_reducible rfl) (by with_reducible rfl) ?_
    rintro e w4 ⟨rfl, hb4⟩
    have HB4 : Hid (Below W.heap.size W w4) := bl_next HBr.out hb4
    have HO4 : Hid (w4.ownsRow W.heap.size 3 1 u3 (dVals f a b k).length ((dVals f a b k).map (.int .i64))) := own_below HOr.out hb4
    clear hb4 c0 c1 c2
    obtain ⟨c0, c1, c2⟩ := HC.out w4 HB4.out
    by_cases hkn : k < dN a b
    · have hle : f + lw + (k : Int) ≤ f + hg := by have := HN.out; omega
      go_wp2_with fail
      refine calls_at (HD.out _ _) (by with_reducible rfl) (by with_reducible rfl) ?_
      rintro e w5 ⟨rfl, hb5⟩
      have HB5 : Hid (Below W.heap.size W w5) := bl_next HB4.out hb5
      have HO5 : Hid (w5.ownsRow W.heap.size 3 1 u3 (dVals f a b k).length ((dVals f a b k).map (.int .i64))) := own_below HO4.out hb5
      clear hb5 c0 c1 c2
      by_cases hd : dHas f a b (f + lw + (k : Int)) = true
      · have HV1 : Hid (dVals f a b (k + 1) = dVals f a b k ++ [f + lw + (k : Int)]) := by show _ = _; rw [HV.out k, if_pos hd]
        have hlk := HLen k
        have hn9 := dN_le a b
        go_wp2_with (first
          | (at_builtin; refine append_one w5 (.int .i64 (f + lw + (k : Int))) rfl _ _ 38 3 (.int .i64 0) 8 rfl und53 info3 rfl W.heap.size _ _ _ (by rfl) HO5.out rfl _ rfl (by rfl) (by unfold maxLen; omega) (by omega) HB5.out.size ?_; intro v6 w6 ho6 hg6 hn6))
        have HO6 : Hid (w6.ownsRow W.heap.size 3 1 v6 (dVals f a b (k + 1)).length ((dVals f a b (k + 1)).map (.int .i64))) := by
          show World.ownsRow _ _ _ _ _ _ _
          rw [HV1.out, List.map_append, List.length_append]
          exact ho6
        have HB6 : Hid (Below W.heap.size W w6) := (HB5.out.alloc HB5.out.size _).grown hg6 (Nat.le_trans HB5.out.size (by simp)) (fun g hg => (HO5.out.lt g hg).1)
        clear ho6 hg6 hn6
        go_wp2_with fail
        go_roundw
        case rel => exact ⟨k + 1, v6, rfl, by go_num, hkn, HO6, HB6⟩
        case measure => simp [intOf]; omega
      · have HV1 : Hid (dVals f a b (k + 1) = dVals f a b k) := by show _ = _; rw [HV.out k, if_neg hd, List.append_nil]
        have hd' : dHas f a b (f + lw + (k : Int)) = false := by simpa using hd
        clear hd
        go_wp2_with fail
        go_roundw
        case rel => exact ⟨k + 1, u3, rfl, by go_num, hkn, by rw [HV1.out]; exact HO5, HB5⟩
        case measure => simp [intOf]; omega
    · have hke : k = dN a b := by omega
      have hgt : f + hg < f + lw + (k : Int) := by have := HN.out; omega
      subst hke
      clear hkn hk
      go_wp2_with fail
      go_ret
      exact ⟨_, rfl, own_less HO4.out HB.out.size, HB.out.trans (HB4.out.mono HB.out.size)⟩
end Go.Proofs.YtdfbmfikhccajaaGreatDoor

namespace Go.Proofs.YtdfbmfikhccajaaGreatDoor
open Go.RowKit

/-- A row of ints, as it is read. -/
theorem row_form {w : World} {B : Nat} {v : Value} {L : List Int} (h : w.ownsRow B 3 1 v L.length (L.map (.int .i64))) : ∃ a cap, v = .slice a L.length cap ∧ ∀ j (hj : j < L.length), ∃ g, a = some ⟨g, 0, none⟩ ∧ B ≤ g ∧ g < w.heap.size ∧ w.cell? ⟨g, j, none⟩ = some (.int .i64 L[j]) := by
  obtain ⟨_, h2⟩ := h
  rcases h2 with ⟨rfl, h0⟩ | ⟨g, cap, cur, rfl, e2, e3, e4, e5, e6, e7⟩
  · exact ⟨none, 0, by rw [h0], fun j hj => absurd hj (by omega)⟩
  · refine ⟨_, cap, rfl, fun j hj => ⟨g, rfl, e2, (Array.getElem?_eq_some_iff.1 e3).1, ?_⟩⟩
    rw [cell_of e3]
    have : (cur.toList.take (L.length * 1))[j]? = (L.map (Value.int .i64))[j]? := by rw [e7]
    rw [List.getElem?_take, if_pos (by omega)] at this
    simpa [List.getElem?_eq_getElem hj] using this

/-- A loop that writes one set: but its block all is as it was. -/
structure Pk (w W1 : World) (R : Nat) (p q : Int) (w' : World) : Prop where
  below : Below w.heap.size w w'
  off : Off (fun k => k = R) W1 w'
  le : w.heap.size ≤ R
  lt : R < w'.heap.size
  blk : w'.heap[R]? = some (.cells #[.int .u32 p, .int .u32 q] 71 (0, 0))
theorem Pk.next {w W w1 w2 : World} {R : Nat} {p q : Int} (h : Pk w W R p q w1) (hb : Below w1.heap.size w1 w2) : Pk w W R p q w2 :=
  ⟨h.below.trans (hb.mono h.below.size), h.off.trans (Off.of_below hb), h.le, Nat.lt_of_lt_of_le h.lt hb.size, (hb.block _ h.lt).trans h.blk⟩
theorem Pk.set {w W w1 : World} {R : Nat} {p q : Int} (h : Pk w W R p q w1) (x y : Int) : Pk w W R x y ((w1.setCell ⟨R, 0, none⟩ (.int .u32 x)).setCell ⟨R, 1, none⟩ (.int .u32 y)) :=
  ⟨(h.below.setCell h.le _).setCell h.le _, (h.off.trans (Off.set _ rfl)).trans (Off.set _ rfl), h.le, by simpa using h.lt, set2 h.blk _ _⟩

def pkStep (l : Int) (p : Int × Int) (v : Int) : Int × Int := (bits .or .u32 p.1 (oWd (v - l) 0), bits .or .u32 p.2 (oWd (v - l) 1))
def pkL (l : Int) (L : List Int) : Int × Int := L.foldl (pkStep l) (0, 0)
theorem pkL_succ (l : Int) (L : List Int) (k : Nat) (hk : k < L.length) : pkL l (L.take (k + 1)) = pkStep l (pkL l (L.take k)) L[k] := by
  unfold pkL
  rw [List.take_succ_eq_append_getElem hk, List.foldl_append]
  rfl
def dPack (f a b : Int) : Int × Int := pkL (f + bLow a b) (dAll f a b)
theorem dAll_mem {f a b v : Int} (h : v ∈ dAll f a b) : 0 ≤ v - (f + bLow a b) ∧ v - (f + bLow a b) ≤ 96 ∧ v ≤ f + 200 ∧ f ≤ v := by
  have hn := dN_le a b
  have hl := bLow_lo a b
  unfold dAll dVals at h
  rw [List.mem_filter, List.mem_map] at h
  obtain ⟨⟨j, hj, rfl⟩, _⟩ := h
  rw [List.mem_range] at hj
  omega

end Go.Proofs.YtdfbmfikhccajaaGreatDoor
