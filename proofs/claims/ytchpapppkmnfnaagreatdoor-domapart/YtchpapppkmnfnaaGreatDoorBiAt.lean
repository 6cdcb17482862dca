/-
  The book of ints: what it has; sameInts, holdInts.
-/
import Derived.Test.YtchpapppkmnfnaaGreatDoorJ21
import Derived.Test.YtchpapppkmnfnaaGreatDoorBkFrame
import Derived.Deep.RegionHeld3
import Derived.Deep.CutRange
import Derived.BigQuiet
namespace Go.Proofs.YtchpapppkmnfnaaGreatDoor
open Go.RowKit

theorem bun42 : Tryz.prog.underlying 42 = some (.slice 3) := by kernel_rfl
theorem bun41 : Tryz.prog.underlying 41 = some (.slice 42) := by kernel_rfl
theorem binf3 : (Tryz.prog.info? 3).map (fun i => (i.zero, i.size, i.bytes)) = some (some (.int .i64 0), 1, 8) := by kernel_rfl
theorem binf42 : (Tryz.prog.info? 42).map (fun i => (i.zero, i.size, i.bytes)) = some (some (.slice none 0 0), 1, 24) := by kernel_rfl
def ic (c : List Int) : List Value := c.map (.int .i64)
/-- A list of ints, as it is read. -/
def Iv (w : World) (v : Value) (c : List Int) : Prop := ∃ a cap, v = .slice a c.length cap ∧ ∀ j (hj : j < c.length), ∃ g, a = some ⟨g, 0, none⟩ ∧ g < w.heap.size ∧ w.cell? ⟨g, j, none⟩ = some (.int .i64 c[j])
theorem Iv.below {w w' : World} {v : Value} {c : List Int} (h : Iv w v c) (hb : Below w.heap.size w w') : Iv w' v c := by
  obtain ⟨a, cap, e, h1⟩ := h
  refine ⟨a, cap, e, fun j hj => ?_⟩
  obtain ⟨g, e2, e3, e4⟩ := h1 j hj
  exact ⟨g, e2, Nat.lt_of_lt_of_le e3 hb.size, (hb.cell (p := ⟨g, j, none⟩) e3).trans e4⟩
theorem iv_row {w : World} {B : Nat} {v : Value} {c : List Int} (h : w.ownsRow B 3 1 v c.length (ic c)) : Iv w v c := by
  rcases own_cells h with ⟨hv, hn⟩ | ⟨g, cap, hv, _, hg, _, hc⟩
  · exact ⟨none, 0, by rw [hv, hn], fun j hj => absurd hj (by omega)⟩
  · exact ⟨_, cap, hv, fun j hj => ⟨g, rfl, hg, hc j _ (by simp [ic, hj])⟩⟩
/-- A row of lists, as it is read. -/
def Lv (w : World) (v : Value) (xs : List Value) : Prop := ∃ a cap, v = .slice a xs.length cap ∧ ∀ j (hj : j < xs.length), ∃ g, a = some ⟨g, 0, none⟩ ∧ g < w.heap.size ∧ w.cell? ⟨g, j, none⟩ = some xs[j]
theorem lv_row {w : World} {B : Nat} {t : TypeId} {v : Value} {xs : List Value} (h : w.ownsRow B t 1 v xs.length xs) : Lv w v xs := by
  rcases own_cells h with ⟨hv, hn⟩ | ⟨g, cap, hv, _, hg, _, hc⟩
  · exact ⟨none, 0, by rw [hv, hn], fun j hj => absurd hj (by omega)⟩
  · exact ⟨_, cap, hv, fun j hj => ⟨g, rfl, hg, hc j _ (List.getElem?_eq_getElem hj)⟩⟩

set_option maxRecDepth 10000 in
set_option maxHeartbeats 1000000 in
theorem bsame_any (v v' : Value) (c : List Int) (w : World) (h : Iv w v c) (h' : Iv w v' c) (hl : c.length ≤ 100000) : Calls Tryz.prog 83 #[v, v'] w fun e w' => e = .returned (.bool true) ∧ Below w.heap.size w w' := by
  obtain ⟨a, cap, rfl, hc⟩ := h
  obtain ⟨a', cap', rfl, hc'⟩ := h'
  have HC : Hid (∀ w', Below w.heap.size w w' → ∀ j (hj : j < c.length), ∃ g, a = some ⟨g, 0, none⟩ ∧ w'.cell? ⟨g, j, none⟩ = some (.int .i64 c[j])) := fun w' hb j hj => by
    obtain ⟨g, e1, e2, e3⟩ := hc j hj
    exact ⟨g, e1, (hb.cell (p := ⟨g, j, none⟩) e2).trans e3⟩
  have HC' : Hid (∀ w', Below w.heap.size w w' → ∀ j (hj : j < c.length), ∃ g, a' = some ⟨g, 0, none⟩ ∧ w'.cell? ⟨g, j, none⟩ = some (.int .i64 c[j])) := fun w' hb j hj => by
    obtain ⟨g, e1, e2, e3⟩ := hc' j hj
    exact ⟨g, e1, (hb.cell (p := ⟨g, j, none⟩) e2).trans e3⟩
  clear hc hc'
  go_enter Tryz.func83, Tryz.ntmps83
  go_wp2_with fail
  go_loopw [5] (fun iv wr => ∃ k : Nat, iv = .int .i64 (k : Int) ∧ k ≤ c.length ∧ Hid (Below w.heap.size w wr)) (fun iv _ => c.length - (intOf iv).toNat)
  case atStart => exact ⟨0, rfl, Nat.zero_le _, Below.refl _ _⟩
  case round =>
    obtain ⟨k, rfl, hk, HBr⟩ := hrel
    by_cases hkn : k < c.length
    · have hkI : (k : Int) < (c.length : Int) := by omega
      obtain ⟨g, rfl, x0⟩ := HC.out wr HBr.out k hkn
      obtain ⟨g', rfl, y0⟩ := HC'.out wr HBr.out k hkn
      obtain ⟨y, hy⟩ : ∃ y, c[k] = y := ⟨_, rfl⟩
      rw [hy] at x0 y0
      have hyy : (y == y) = true := by simp
      clear hy
      go_wp2_with fail
      go_roundw
      case rel => exact ⟨k + 1, by go_num, hkn, HBr⟩
      case measure => simp [intOf]; omega
    · have hke : k = c.length := by omega
      subst hke
      have hkI : ¬ (c.length : Int) < (c.length : Int) := by omega
      go_wp2_with fail
      go_ret
      exact ⟨rfl, HBr.out⟩

/-- What a look asks. -/
structure Lk (w : World) (P : Nat) (turn deep : Int) (t : Tx) (os : List (Value × List Int)) (ts : List Value) (ws : List (Value × List Int)) (ns : List Value) : Prop where
  box : BkAt w P false turn deep t
  ro : Lv w t.out (os.map (·.1))
  rt : Lv w t.told ts
  rw : Lv w t.waits (ws.map (·.1))
  rn : Lv w t.note ns
  lt : ts.length = os.length
  ln : ns.length = ws.length
  co : ∀ p ∈ os, Iv w p.1 p.2
  ct : ∀ i (h : i < os.length) (h' : i < ts.length), Iv w ts[i] os[i].2
  cw : ∀ p ∈ ws, Iv w p.1 p.2
  cn : ∀ i (h : i < ws.length) (h' : i < ns.length), Iv w ns[i] ws[i].2
  bo : ∀ p ∈ os, p.2.length ≤ 100000
  bw : ∀ p ∈ ws, p.2.length ≤ 100000
  lo : os.length ≤ 1000000
  lw : ws.length ≤ 1000000

set_option maxRecDepth 10000 in
set_option maxHeartbeats 1000000 in
theorem holdInts_any (P : Nat) (turn deep : Int) (t : Tx) (os : List (Value × List Int)) (ts : List Value) (ws : List (Value × List Int)) (ns : List Value) (w : World) (h : Lk w P turn deep t os ts ws ns) : Calls Tryz.prog 44 #[.pointer (some ⟨P, 0, none⟩)] w fun e w' => e = .returned (.bool true) ∧ RowKit.Below w.heap.size w w' := by
  obtain ⟨oa, oc, eo, ho⟩ := h.ro
  obtain ⟨ta, tc, et, ht⟩ := h.rt
  obtain ⟨wa, wc, ew, hw⟩ := h.rw
  obtain ⟨na, nc, en, hn⟩ := h.rn
  rw [List.length_map] at eo ew
  rw [h.lt] at et
  rw [h.ln] at en
  have hbx := h.box
  have hPl : P < w.heap.size := (Array.getElem?_eq_some_iff.1 hbx).1
  have HC : Hid (∀ w', Below w.heap.size w w' → w'.cell? ⟨P, 4, none⟩ = some (.slice oa os.length oc) ∧ w'.cell? ⟨P, 5, none⟩ = some (.slice ta os.length tc) ∧ w'.cell? ⟨P, 6, none⟩ = some (.slice wa ws.length wc) ∧ w'.cell? ⟨P, 7, none⟩ = some (.slice na ws.length nc)) := fun w' hb => by
    have f : BkAt w' P false turn deep t := (hb.block P hPl).trans hbx
    exact ⟨f.cell 4 _ (by rw [← eo]; rfl), f.cell 5 _ (by rw [← et]; rfl), f.cell 6 _ (by rw [← ew]; rfl), f.cell 7 _ (by rw [← en]; rfl)⟩
  have HO : Hid (∀ w', Below w.heap.size w w' → ∀ j (hj : j < os.length), ∃ g g' u u', oa = some ⟨g, 0, none⟩ ∧ ta = some ⟨g', 0, none⟩ ∧ w'.cell? ⟨g, j, none⟩ = some u ∧ w'.cell? ⟨g', j, none⟩ = some u' ∧ (∃ a c m, u = .slice a m c) ∧ (∃ a c m, u' = .slice a m c) ∧ ∀ w'', Below w.heap.size w w'' → Calls Tryz.prog 83 #[u, u'] w'' fun e w2 => e = .returned (.bool true) ∧ Below w''.heap.size w'' w2) := fun w' hb j hj => by
    obtain ⟨g, e1, e2, e3⟩ := ho j (by rw [List.length_map]; exact hj)
    obtain ⟨g', f1, f2, f3⟩ := ht j (by rw [h.lt]; exact hj)
    have i1 := h.co os[j] (List.getElem_mem hj)
    have i2 := h.ct j hj (by rw [h.lt]; exact hj)
    rw [List.getElem_map] at e3
    refine ⟨g, g', os[j].1, ts[j]'(by rw [h.lt]; exact hj), e1, f1, (hb.cell (p := ⟨g, j, none⟩) e2).trans e3, (hb.cell (p := ⟨g', j, none⟩) f2).trans f3, ?_, ?_, fun w'' hb2 => bsame_any _ _ os[j].2 w'' (i1.below hb2) (i2.below hb2) (h.bo _ (List.getElem_mem hj))⟩
    · obtain ⟨a, c, e, _⟩ := i1; exact ⟨a, c, _, e⟩
    · obtain ⟨a, c, e, _⟩ := i2; exact ⟨a, c, _, e⟩
  have HW : Hid (∀ w', Below w.heap.size w w' → ∀ j (hj : j < ws.length), ∃ g g' u u', wa = some ⟨g, 0, none⟩ ∧ na = some ⟨g', 0, none⟩ ∧ w'.cell? ⟨g, j, none⟩ = some u ∧ w'.cell? ⟨g', j, none⟩ = some u' ∧ (∃ a c m, u = .slice a m c) ∧ (∃ a c m, u' = .slice a m c) ∧ ∀ w'', Below w.heap.size w w'' → Calls Tryz.prog 83 #[u, u'] w'' fun e w2 => e = .returned (.bool true) ∧ Below w''.heap.size w'' w2) := fun w' hb j hj => by
    obtain ⟨g, e1, e2, e3⟩ := hw j (by rw [List.length_map]; exact hj)
    obtain ⟨g', f1, f2, f3⟩ := hn j (by rw [h.ln]; exact hj)
    have i1 := h.cw ws[j] (List.getElem_mem hj)
    have i2 := h.cn j hj (by rw [h.ln]; exact hj)
    rw [List.getElem_map] at e3
    refine ⟨g, g', ws[j].1, ns[j]'(by rw [h.ln]; exact hj), e1, f1, (hb.cell (p := ⟨g, j, none⟩) e2).trans e3, (hb.cell (p := ⟨g', j, none⟩) f2).trans f3, ?_, ?_, fun w'' hb2 => bsame_any _ _ ws[j].2 w'' (i1.below hb2) (i2.below hb2) (h.bw _ (List.getElem_mem hj))⟩
    · obtain ⟨a, c, e, _⟩ := i1; exact ⟨a, c, _, e⟩
    · obtain ⟨a, c, e, _⟩ := i2; exact ⟨a, c, _, e⟩
  have hlo := h.lo
  have hlw := h.lw
  clear h ho ht hw hn hbx hPl eo et ew en
  go_enter Tryz.func44, Tryz.ntmps44
  go_wp2_with fail
  go_loopw [3] (fun iv wr => ∃ k : Nat, iv = .int .i64 (k : Int) ∧ k ≤ os.length ∧ Hid (Below w.heap.size w wr)) (fun iv _ => os.length - (intOf iv).toNat)
  case atStart => exact ⟨0, rfl, Nat.zero_le _, Below.refl _ _⟩
  case round =>
  obtain ⟨k, rfl, hk, HBr⟩ := hrel
  obtain ⟨c4, c5, c6, c7⟩ := HC.out wr HBr.out
  by_cases hkn : k < os.length
  · have hkI : (k : Int) < (os.length : Int) := by omega
    obtain ⟨g, g', u, u', rfl, rfl, x0, x1, ⟨ua, uc, un, rfl⟩, ⟨va, vc, vn, rfl⟩, hS⟩ := HO.out wr HBr.out k hkn
    have HS : Hid (∀ w'', Below w.heap.size w w'' → Calls Tryz.prog 83 #[.slice ua un uc, .slice va vn vc] w'' fun e w2 => e = .returned (.bool true) ∧ Below w''.heap.size w'' w2) := hS
    have HQ : Hid (∀ w', Below wr.heap.size wr w' → w'.cell? ⟨P, 4, none⟩ = some (.slice (some ⟨g, 0, none⟩) os.length oc) ∧ w'.cell? ⟨P, 5, none⟩ = some (.slice (some ⟨g', 0, none⟩) os.length tc) ∧ w'.cell? ⟨g, k, none⟩ = some (.slice ua un uc) ∧ w'.cell? ⟨g', k, none⟩ = some (.slice va vn vc) ∧ Below wr.heap.size wr w') := fun w' hb => by
      obtain ⟨d4, d5, _, _⟩ := HC.out w' (HBr.out.trans (hb.mono HBr.out.size))
      exact ⟨d4, d5, (hb.cell (p := ⟨g, k, none⟩) (World.block_lt_of_cell? wr _ x0)).trans x0, (hb.cell (p := ⟨g', k, none⟩) (World.block_lt_of_cell? wr _ x1)).trans x1, hb⟩
    clear hS
    go_wp2_with fail
    go_region_held3 (fun w' => w'.cell? ⟨P, 4, none⟩ = some (.slice (some ⟨g, 0, none⟩) os.length oc) ∧ w'.cell? ⟨P, 5, none⟩ = some (.slice (some ⟨g', 0, none⟩) os.length tc) ∧ w'.cell? ⟨g, k, none⟩ = some (.slice ua un uc) ∧ w'.cell? ⟨g', k, none⟩ = some (.slice va vn vc) ∧ Below wr.heap.size wr w')
      (first | exact HQ.out _ (Below.refl _ _).drew | exact HQ.out _ HB2.out | assumption)
      (first | (go_at_call 83; refine calls_at (HS.out _ HBr.out.drew) (by with_reducible rfl) (by with_reducible rfl) ?_; rintro e w2 ⟨rfl, hb2⟩; (have HB2 : Hid (Below wr.heap.size wr w2) := (Below.refl _ _).drew.trans hb2); clear hb2))
    go_wp2_with fail
    go_roundw
    case rel => exact ⟨k + 1, by go_num, hkn, HBr.out.trans (HB2.out.mono HBr.out.size)⟩
    case measure => simp [intOf]; omega
  · have hke : k = os.length := by omega
    subst hke
    have hkI : ¬ (os.length : Int) < (os.length : Int) := by omega
    go_wp2_with fail
    go_loopw [4] (fun iv wz => ∃ k : Nat, iv = .int .i64 (k : Int) ∧ k ≤ ws.length ∧ Hid (Below w.heap.size w wz)) (fun iv _ => ws.length - (intOf iv).toNat)
    case atStart => exact ⟨0, rfl, Nat.zero_le _, HBr⟩
    case round =>
    clear HBr c4 c5 c6 c7
    obtain ⟨k, rfl, hk, HBr⟩ := hrel
    rename World => wz
    obtain ⟨c4, c5, c6, c7⟩ := HC.out wz HBr.out
    by_cases hkn : k < ws.length
    · have hkI : (k : Int) < (ws.length : Int) := by omega
      obtain ⟨g, g', u, u', rfl, rfl, x0, x1, ⟨ua, uc, un, rfl⟩, ⟨va, vc, vn, rfl⟩, hS⟩ := HW.out wz HBr.out k hkn
      have HS : Hid (∀ w'', Below w.heap.size w w'' → Calls Tryz.prog 83 #[.slice ua un uc, .slice va vn vc] w'' fun e w2 => e = .returned (.bool true) ∧ Below w''.heap.size w'' w2) := hS
      have HQ : Hid (∀ w', Below wz.heap.size wz w' → w'.cell? ⟨P, 6, none⟩ = some (.slice (some ⟨g, 0, none⟩) ws.length wc) ∧ w'.cell? ⟨P, 7, none⟩ = some (.slice (some ⟨g', 0, none⟩) ws.length nc) ∧ w'.cell? ⟨g, k, none⟩ = some (.slice ua un uc) ∧ w'.cell? ⟨g', k, none⟩ = some (.slice va vn vc) ∧ Below wz.heap.size wz w') := fun w' hb => by
        obtain ⟨_, _, d4, d5⟩ := HC.out w' (HBr.out.trans (hb.mono HBr.out.size))
        exact ⟨d4, d5, (hb.cell (p := ⟨g, k, none⟩) (World.block_lt_of_cell? wz _ x0)).trans x0, (hb.cell (p := ⟨g', k, none⟩) (World.block_lt_of_cell? wz _ x1)).trans x1, hb⟩
      clear hS
      go_wp2_with fail
      go_region_held3 (fun w' => w'.cell? ⟨P, 6, none⟩ = some (.slice (some ⟨g, 0, none⟩) ws.length wc) ∧ w'.cell? ⟨P, 7, none⟩ = some (.slice (some ⟨g', 0, none⟩) ws.length nc) ∧ w'.cell? ⟨g, k, none⟩ = some (.slice ua un uc) ∧ w'.cell? ⟨g', k, none⟩ = some (.slice va vn vc) ∧ Below wz.heap.size wz w')
        (first | exact HQ.out _ (Below.refl _ _).drew | exact HQ.out _ HB2.out | assumption)
        (first | (go_at_call 83; refine calls_at (HS.out _ HBr.out.drew) (by with_reducible rfl) (by with_reducible rfl) ?_; rintro e w2 ⟨rfl, hb2⟩; (have HB2 : Hid (Below wz.heap.size wz w2) := (Below.refl _ _).drew.trans hb2); clear hb2))
      go_wp2_with fail
      go_roundw
      case rel => exact ⟨k + 1, by go_num, hkn, HBr.out.trans (HB2.out.mono HBr.out.size)⟩
      case measure => simp [intOf]; omega
    · have hke : k = ws.length := by omega
      subst hke
      have hkI : ¬ (ws.length : Int) < (ws.length : Int) := by omega
      go_wp2_with fail
      go_ret
      exact ⟨rfl, HBr.out⟩
end Go.Proofs.YtchpapppkmnfnaaGreatDoor
