/-
  Package dom: packed.
-/
import Derived.Test.YtakdboddbgihpaaDoorDmVals
namespace Go.Proofs.YtakdboddbgihpaaDoor
open Go.RowKit

/-- A row of ints, as it is read. -/
theorem row_form {w : World} {B : Nat} {v : Value} {L : List Int} (h : w.ownsRow B 3 1 v L.length (L.map (.int .i64))) : ∃ a cap, v = .slice a L.length cap ∧ ∀ j (hj : j < L.length), ∃ g, a = some ⟨g, 0, none⟩ ∧ B ≤ g ∧ g < w.heap.size ∧ w.cell? ⟨g, j, none⟩ = some (.int .i64 L[j]) := by
  obtain ⟨_, h2⟩ := h
  rcases h2 with ⟨rfl, h0⟩ | ⟨g, cap, cur, rfl, e2, e3, e4, e5, e6, e7⟩
  · exact ⟨none, 0, by rw [h0], fun j hj => absurd hj (by omega)⟩
  · refine ⟨_, cap, rfl, fun j hj => ⟨g, rfl, e2, (Array.getElem?_eq_some_iff.1 e3).1, ?_⟩⟩
    rw [cell_of e3]
    have : (cur.toList.take (L.length * 1))[j]? = (L.map (Value.int .i64))[j]? := by rw [e7]
    rw [List.getElem?_take, if_pos (by omega)] at this
    simpa [List.getElem?_eq_getElem hj] using this

/-- A loop that writes one set: but its block all is as it was. -/
structure Pk (w W1 : World) (R : Nat) (p q : Int) (w' : World) : Prop where
  below : Below w.heap.size w w'
  off : Off (fun k => k = R) W1 w'
  le : w.heap.size ≤ R
  lt : R < w'.heap.size
  blk : w'.heap[R]? = some (.cells #[.int .u32 p, .int .u32 q] 65 (0, 0))
theorem Pk.next {w W w1 w2 : World} {R : Nat} {p q : Int} (h : Pk w W R p q w1) (hb : Below w1.heap.size w1 w2) : Pk w W R p q w2 :=
  ⟨h.below.trans (hb.mono h.below.size), h.off.trans (Off.of_below hb), h.le, Nat.lt_of_lt_of_le h.lt hb.size, (hb.block _ h.lt).trans h.blk⟩
theorem Pk.set {w W w1 : World} {R : Nat} {p q : Int} (h : Pk w W R p q w1) (x y : Int) : Pk w W R x y ((w1.setCell ⟨R, 0, none⟩ (.int .u32 x)).setCell ⟨R, 1, none⟩ (.int .u32 y)) :=
  ⟨(h.below.setCell h.le _).setCell h.le _, (h.off.trans (Off.set _ rfl)).trans (Off.set _ rfl), h.le, by simpa using h.lt, set2 h.blk _ _⟩

def pkStep (l : Int) (p : Int × Int) (v : Int) : Int × Int := (bits .or .u32 p.1 (oWd (v - l) 0), bits .or .u32 p.2 (oWd (v - l) 1))
def pkL (l : Int) (L : List Int) : Int × Int := L.foldl (pkStep l) (0, 0)
theorem pkL_succ (l : Int) (L : List Int) (k : Nat) (hk : k < L.length) : pkL l (L.take (k + 1)) = pkStep l (pkL l (L.take k)) L[k] := by
  unfold pkL
  rw [List.take_succ_eq_append_getElem hk, List.foldl_append]
  rfl
def dPack (f a b : Int) : Int × Int := pkL (f + bLow a b) (dAll f a b)
theorem dAll_mem {f a b v : Int} (h : v ∈ dAll f a b) : 0 ≤ v - (f + bLow a b) ∧ v - (f + bLow a b) ≤ 96 ∧ v ≤ f + 200 ∧ f ≤ v := by
  have hn := dN_le a b
  have hl := bLow_lo a b
  unfold dAll dVals at h
  rw [List.mem_filter, List.mem_map] at h
  obtain ⟨⟨j, hj, rfl⟩, _⟩ := h
  rw [List.mem_range] at hj
  omega

set_option maxRecDepth 10000 in
set_option maxHeartbeats 1000000 in
theorem packed_any (f a b : Int) (w : World) (h1 : -1000000000 ≤ f) (h2 : f ≤ 1000000000) (ha : IsW a) (hb : IsW b) (hT : Tz w) (hs : 0 < w.heap.size) : Calls Tryd.prog 42 #[dmVal f a b] w fun e w' => e = .returned (btVal (dPack f a b).1 (dPack f a b).2) ∧ Below w.heap.size w w' := by
  have hl := bLow_lo a b
  have HM : Hid (∀ v ∈ dAll f a b, 0 ≤ v - (f + bLow a b) ∧ v - (f + bLow a b) ≤ 96 ∧ v ≤ f + 200 ∧ f ≤ v) := fun v hv => dAll_mem hv
  have hlen : (dAll f a b).length ≤ 96 := Nat.le_trans (dVals_len f a b _) (dN_le a b)
  obtain ⟨W, hW⟩ : ∃ W, ((w.alloc (.cells #[.int .i64 f, .int .u32 a, .int .u32 b] 67)).alloc (.cells #[.int .u32 0, .int .u32 0] 65)).alloc (.cells #[.int .u32 0, .int .u32 0] 65) = W := ⟨_, rfl⟩
  have hb0 : Below w.heap.size w W := by rw [← hW]; exact (((Below.refl _ _).alloc (Nat.le_refl _) _).alloc (by simp) _).alloc (by simp; omega) _
  have HB : Hid (Below w.heap.size w W) := hb0
  have g0 : W.heap[w.heap.size]? = some (.cells #[.int .i64 f, .int .u32 a, .int .u32 b] 67 (0, 0)) := by rw [← hW]; exact alloc3_0 w _ _ _
  have g1 : W.heap[w.heap.size + 1]? = some (.cells #[.int .u32 0, .int .u32 0] 65 (0, 0)) := by rw [← hW]; exact alloc3_1 w _ _ _
  have g2 : W.heap[w.heap.size + 1 + 1]? = some (.cells #[.int .u32 0, .int .u32 0] 65 (0, 0)) := by rw [← hW]; exact alloc3_2 w _ _ _
  have hlt := (Array.getElem?_eq_some_iff.1 g0).1
  have hlt1 := (Array.getElem?_eq_some_iff.1 g1).1
  have hlt2 := (Array.getElem?_eq_some_iff.1 g2).1
  have hsW : 0 < W.heap.size := Nat.lt_of_lt_of_le hs hb0.size
  have hTW := hT.below hb0 hs
  have HC : Hid (∀ w', Off (fun k => k = w.heap.size + 1 + 1) W w' → w'.cell? ⟨w.heap.size, 0, none⟩ = some (.int .i64 f) ∧ w'.cell? ⟨w.heap.size, 1, none⟩ = some (.int .u32 a) ∧ w'.cell? ⟨w.heap.size, 2, none⟩ = some (.int .u32 b)) := fun w' hb =>
    ⟨(hb.cell hlt (by omega)).trans (cell_of g0 0), (hb.cell hlt (by omega)).trans (cell_of g0 1), (hb.cell hlt (by omega)).trans (cell_of g0 2)⟩
  have HV : Hid (Calls Tryd.prog 34 #[dmVal f a b] W (VsOut (dAll f a b) W)) := values_any f a b W h1 h2 ha hb hTW hsW
  have HL : Hid (∀ w', Below w.heap.size w w' → Calls Tryd.prog 36 #[dmVal f a b] w' fun e w2 => e = .returned (.int .i64 (f + bLow a b)) ∧ Below w'.heap.size w' w2) := fun w' hq => lo_any f a b w' h1 h2 ha hb (hT.below hq hs) (Nat.lt_of_lt_of_le hs hq.size)
  have HR : Hid (∀ w', Off (fun k => k = w.heap.size + 1 + 1) W w' → w'.heap[w.heap.size + 1]? = some (.cells #[.int .u32 0, .int .u32 0] 65 (0, 0))) := fun w' hb => (hb.block _ hlt1 (by omega)).trans g1
  have HP : Hid (Pk w W (w.heap.size + 1 + 1) 0 0 W) := ⟨hb0, Off.refl _ _, by omega, hlt2, g2⟩
  have HX : Hid (W.heap.size = w.heap.size + 1 + 1 + 1) := by show _ = _; rw [← hW]; simp
  have c0 : W.cell? ⟨w.heap.size, 0, none⟩ = some (.int .i64 f) := cell_of g0 0
  have c1 : W.cell? ⟨w.heap.size, 1, none⟩ = some (.int .u32 a) := cell_of g0 1
  have c2 : W.cell? ⟨w.heap.size, 2, none⟩ = some (.int .u32 b) := cell_of g0 2
  clear hb0 g0 g1 g2 hlt hlt1 hlt2 hT hTW
  obtain ⟨lw, hlw⟩ : ∃ lw, f + bLow a b = lw := ⟨_, rfl⟩
  have hlw1 : -2000000000 ≤ lw ∧ lw ≤ 2000000000 := by omega
  obtain ⟨L, hL⟩ : ∃ L, dAll f a b = L := ⟨_, rfl⟩
  have HPK : Hid (dPack f a b = pkL lw L) := by show _ = _; rw [← hlw, ← hL]; rfl
  rw [hlw, hL] at HM
  rw [hlw] at HL
  rw [hL] at HV hlen
  clear hlw hL hl
  unfold dmVal btVal at *
  go_enter Tryd.func42, Tryd.ntmps42
  go_wp2_with fail
  refine calls_at HV.out (by with_reducible rfl) (by with_reducible rfl) ?_
  rintro e w1 ⟨vs, rfl, ho1, hb1⟩
  have HP1 : Hid (Pk w W (w.heap.size + 1 + 1) 0 0 w1) := HP.out.next hb1
  obtain ⟨sa, cap, rfl, hcs⟩ := row_form ho1
  have HCS : Hid (∀ w', Off (fun k => k = w.heap.size + 1 + 1) w1 w' → ∀ j (hj : j < L.length), ∃ g, sa = some ⟨g, 0, none⟩ ∧ w'.cell? ⟨g, j, none⟩ = some (.int .i64 L[j])) := fun w' ho j hj => by
    obtain ⟨g, e1, e2, e3, e4⟩ := hcs j hj
    exact ⟨g, e1, (ho.cell e3 (by have := HX.out; omega)).trans e4⟩
  clear ho1 hb1 hcs c0 c1 c2 hW
  go_wp2_with fail
  go_loopw [9] (fun iv wr => ∃ k : Nat, iv = .int .i64 (k : Int) ∧ k ≤ L.length ∧ Hid (Pk w W (w.heap.size + 1 + 1) (pkL lw (L.take k)).1 (pkL lw (L.take k)).2 wr) ∧ Hid (Off (fun k => k = w.heap.size + 1 + 1) w1 wr)) (fun iv _ => L.length - (intOf iv).toNat)
  case atStart => exact ⟨0, rfl, Nat.zero_le _, HP1, Off.refl _ _⟩
  case round =>
    obtain ⟨k, rfl, hk, HPr, HOr⟩ := hrel
    by_cases hkn : k < L.length
    · obtain ⟨g, rfl, hg⟩ := HCS.out wr HOr.out k hkn
      have hm := HM.out L[k] (List.getElem_mem hkn)
      have HPS : Hid (pkL lw (L.take (k + 1)) = pkStep lw (pkL lw (L.take k)) L[k]) := pkL_succ lw L k hkn
      obtain ⟨x, hx⟩ : ∃ x, L[k] = x := ⟨_, rfl⟩
      rw [hx] at hg hm HPS
      clear hx
      obtain ⟨p, hp⟩ : ∃ p, pkL lw (L.take k) = p := ⟨_, rfl⟩
      rw [hp] at HPr HPS
      clear hp
      have e1 : IntKind.i64.wrap (x - lw) = x - lw := wrap_id (by omega) (by omega)
      have hkn' : (k : Int) < (L.length : Int) := by omega
      go_wp2_with fail
      obtain ⟨c0, c1, c2⟩ := HC.out wr HPr.out.off
      have b0 : wr.cell? ⟨w.heap.size + 1 + 1, 0, none⟩ = some (.int .u32 p.1) := cell_of HPr.out.blk 0
      have b1 : wr.cell? ⟨w.heap.size + 1 + 1, 1, none⟩ = some (.int .u32 p.2) := cell_of HPr.out.blk 1
      have HON : Hid (∀ w', Calls Tryd.prog 47 #[.int .i64 (x - lw)] w' fun e w2 => e = .returned (.agg #[.int .u32 (oWd (x - lw) 0), .int .u32 (oWd (x - lw) 1)]) ∧ Below w'.heap.size w' w2) := fun w' => only_any (x - lw) w' (by omega) (by omega)
      have HOO : Hid (∀ w', Calls Tryd.prog 64 #[.agg #[.int .u32 p.1, .int .u32 p.2], .agg #[.int .u32 (oWd (x - lw) 0), .int .u32 (oWd (x - lw) 1)]] w' fun e w2 => e = .returned (.agg #[.int .u32 (bits .or .u32 p.1 (oWd (x - lw) 0)), .int .u32 (bits .or .u32 p.2 (oWd (x - lw) 1))]) ∧ Below w'.heap.size w' w2) := fun w' => or_any _ _ _ _ w'
      have HPd : Hid (Pk w W (w.heap.size + 1 + 1) p.1 p.2 wr.drew) := HPr.out.next (Below.refl _ _).drew
      go_region_with (first
        | (go_at_call 36; refine calls_at (HL.out _ (by first | exact HPd.out.below | exact HPr.out.below)) (by with_reducible rfl) (by with_reducible rfl) ?_; rintro e w2 ⟨rfl, hb2⟩; (have HP2 : Hid (Pk w W (w.heap.size + 1 + 1) p.1 p.2 w2) := HPd.out.next hb2); (have HO2 : Hid (Off (fun k => k = w.heap.size + 1 + 1) w1 w2) := (HOr.out.trans (Off.of_below (Below.refl _ _).drew)).trans (Off.of_below hb2)); (have q0 : w2.cell? ⟨w.heap.size + 1 + 1, 0, none⟩ = some (.int .u32 p.1) := cell_of HP2.out.blk 0); (have q1 : w2.cell? ⟨w.heap.size + 1 + 1, 1, none⟩ = some (.int .u32 p.2) := cell_of HP2.out.blk 1); clear hb2)
        | (go_at_call 47; refine calls_at (HON.out _) (by with_reducible rfl) (by with_reducible rfl) ?_; rintro e w3 ⟨rfl, hb3⟩; (have HP3 : Hid (Pk w W (w.heap.size + 1 + 1) p.1 p.2 w3) := HP2.out.next hb3); (have HO3 : Hid (Off (fun k => k = w.heap.size + 1 + 1) w1 w3) := HO2.out.trans (Off.of_below hb3)); (have q2 : w3.cell? ⟨w.heap.size + 1 + 1, 0, none⟩ = some (.int .u32 p.1) := cell_of HP3.out.blk 0); (have q3 : w3.cell? ⟨w.heap.size + 1 + 1, 1, none⟩ = some (.int .u32 p.2) := cell_of HP3.out.blk 1); clear hb3)
        | (go_at_call 64; refine calls_at (HOO.out _) (by with_reducible rfl) (by with_reducible rfl) ?_; rintro e w4 ⟨rfl, hb4⟩; (have HP4 : Hid (Pk w W (w.heap.size + 1 + 1) p.1 p.2 w4) := HP3.out.next hb4); (have q4 : w4.cell? ⟨w.heap.size + 1 + 1, 0, none⟩ = some (.int .u32 p.1) := cell_of HP4.out.blk 0); (have q5 : w4.cell? ⟨w.heap.size + 1 + 1, 1, none⟩ = some (.int .u32 p.2) := cell_of HP4.out.blk 1); (have q6 : ∀ i, w4.frozen? ⟨w.heap.size + 1 + 1, i, none⟩ = false := frozen_of HP4.out.blk); (have HO4 : Hid (Off (fun k => k = w.heap.size + 1 + 1) w1 w4) := HO3.out.trans (Off.of_below hb4)); clear hb4))
      all_goals
        go_wp2_with fail
        go_roundw
        case rel => exact ⟨k + 1, by go_num, hkn, by rw [HPS.out]; exact HP4.out.set _ _, (HO4.out.trans (Off.set _ rfl)).trans (Off.set _ rfl)⟩
        case measure => simp [intOf]; omega
    · have hke : k = L.length := by omega
      subst hke
      rw [List.take_length, ← HPK.out] at HPr
      have b0 : wr.cell? ⟨w.heap.size + 1 + 1, 0, none⟩ = some (.int .u32 (dPack f a b).1) := cell_of HPr.out.blk 0
      have b1 : wr.cell? ⟨w.heap.size + 1 + 1, 1, none⟩ = some (.int .u32 (dPack f a b).2) := cell_of HPr.out.blk 1
      have gr := HR.out wr HPr.out.off
      have r0 : wr.cell? ⟨w.heap.size + 1, 0, none⟩ = some (.int .u32 0) := cell_of gr 0
      have r1 : wr.cell? ⟨w.heap.size + 1, 1, none⟩ = some (.int .u32 0) := cell_of gr 1
      have rz : ∀ i, wr.frozen? ⟨w.heap.size + 1, i, none⟩ = false := frozen_of gr
      have HGR : Hid (wr.heap[w.heap.size + 1]? = some (.cells #[.int .u32 0, .int .u32 0] 65 (0, 0))) := gr
      clear gr
      go_wp2_with fail
      exact bodyPost_ret (v := btVal (dPack f a b).1 (dPack f a b).2) (results_cell_row Tryd.results42 _ _ (w.heap.size + 1) 65 #[.int .u32 (dPack f a b).1, .int .u32 (dPack f a b).2] (0, 0) _ rfl (set2 HGR.out _ _) und65 rfl info65) rfl ⟨rfl, (HPr.out.below.setCell (by simp) _).setCell (by simp) _⟩
end Go.Proofs.YtakdboddbgihpaaDoor
