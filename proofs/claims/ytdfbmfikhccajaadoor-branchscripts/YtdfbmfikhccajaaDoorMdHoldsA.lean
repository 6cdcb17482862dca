/-
  Package model: what each kind asks of values.
-/
import Derived.Test.YtdfbmfikhccajaaDoorMdSum
import Derived.Test.YtdfbmfikhccajaaDoorMdMany
import Derived.Deep.RegionHeld3
namespace Go.Proofs.YtdfbmfikhccajaaDoor
open Go.RowKit

theorem IntsAt.open2 {w : World} {v : Value} {l : List Int} (h : IntsAt w v l) (h0 : 0 < l.length) :
    ∃ b off cap, v = .slice (some ⟨b, off, none⟩) l.length cap ∧ b < w.heap.size ∧ l.length ≤ maxLen ∧ ∀ m (hm : m < l.length), w.cell? ⟨b, off + m, none⟩ = some (.int .i64 l[m]) := by
  obtain ⟨a, cap, rfl, hm, hc⟩ := h
  obtain ⟨b, off, rfl, hb, hcell⟩ := hc h0
  exact ⟨b, off, cap, rfl, hb, hm, hcell⟩
theorem nat_of {x : Int} {n : Nat} (h : 0 ≤ x ∧ x < n) : ∃ m : Nat, x = (m : Int) ∧ m < n := ⟨x.toNat, by omega, by omega⟩

set_option maxRecDepth 10000 in
set_option maxHeartbeats 2000000 in
theorem neHolds_any (c : Md.Cn) (vt vx vb vr vv : Value) (vs : List Int) (w : World) (h : CnAt w c vt vx vb vr) (hv : IntsAt w vv vs) (hf : Md.Fit c vs.length) (hn : vs.all Md.numB = true) : Calls Tryd.prog 66 #[cnVal c vt vx vb vr, vv] w fun e w' => e = .returned (.bool (Md.neB c vs)) ∧ Below w.heap.size w w' := by
  have HF : Hid (Md.Fit c vs.length) := hf
  have HN : Hid (vs.all Md.numB = true) := hn
  obtain ⟨ta, tc, rfl, _⟩ := id h.t
  obtain ⟨xa, xc, rfl, _⟩ := id h.x
  obtain ⟨ba, bc, rfl, _⟩ := id h.b
  obtain ⟨ra, rc, rfl, _⟩ := id h.r
  have hnp : 0 < vs.length := by have := hf.x; omega
  obtain ⟨bv, ov, vc, rfl, hbv, hmv, hvc⟩ := hv.open hnp
  unfold maxLen at hmv
  obtain ⟨W, hW⟩ : ∃ W, w.alloc (.cells #[.int .i64 c.kind, .int .i64 c.op, .slice ta c.terms.length tc, .int .i64 c.k, .int .i64 c.v, .int .i64 c.x, .int .i64 c.y, .slice xa c.xs.length xc, .slice ba c.table.length bc, .slice ra c.rows.length rc] 71) = W := ⟨_, rfl⟩
  have hbW : Below w.heap.size w W := by rw [← hW]; exact (Below.refl _ _).alloc (Nat.le_refl _) _
  have HB : Hid (Below w.heap.size w W) := hbW
  have HC : Hid (CnAt W c (.slice ta c.terms.length tc) (.slice xa c.xs.length xc) (.slice ba c.table.length bc) (.slice ra c.rows.length rc)) := h.below hbW
  have HV : Hid (IntsAt W (.slice (some ⟨bv, ov, none⟩) vs.length vc) vs) := hv.below hbW
  have HVC : Hid (∀ w', Below W.heap.size W w' → ∀ m : Nat, m < vs.length → w'.cell? ⟨bv, ov + m, none⟩ = some (.int .i64 (Md.val vs (m : Int)))) := fun w' hb m hm => ((hb.cell (p := ⟨bv, ov + m, none⟩) (Nat.lt_of_lt_of_le hbv hbW.size)).trans (hbW.cell (p := ⟨bv, ov + m, none⟩) hbv)).trans (hvc m hm)
  have c0 : W.cell? ⟨w.heap.size, 0, none⟩ = some (.int .i64 c.kind) := by rw [← hW]; simp
  have c1 : W.cell? ⟨w.heap.size, 1, none⟩ = some (.int .i64 c.op) := by rw [← hW]; simp
  have c2 : W.cell? ⟨w.heap.size, 2, none⟩ = some (.slice ta c.terms.length tc) := by rw [← hW]; simp
  have c3 : W.cell? ⟨w.heap.size, 3, none⟩ = some (.int .i64 c.k) := by rw [← hW]; simp
  have c4 : W.cell? ⟨w.heap.size, 4, none⟩ = some (.int .i64 c.v) := by rw [← hW]; simp
  have c5 : W.cell? ⟨w.heap.size, 5, none⟩ = some (.int .i64 c.x) := by rw [← hW]; simp
  have c6 : W.cell? ⟨w.heap.size, 6, none⟩ = some (.int .i64 c.y) := by rw [← hW]; simp
  have c7 : W.cell? ⟨w.heap.size, 7, none⟩ = some (.slice xa c.xs.length xc) := by rw [← hW]; simp
  have c8 : W.cell? ⟨w.heap.size, 8, none⟩ = some (.slice ba c.table.length bc) := by rw [← hW]; simp
  have c9 : W.cell? ⟨w.heap.size, 9, none⟩ = some (.slice ra c.rows.length rc) := by rw [← hW]; simp
  have hsz : W.heap.size = w.heap.size + 1 := by rw [← hW]; simp
  have hsN : w.heap.size < W.heap.size := by omega
  have HCC : Hid (∀ w', Below W.heap.size W w' → w'.cell? ⟨w.heap.size, 0, none⟩ = some (.int .i64 c.kind) ∧ w'.cell? ⟨w.heap.size, 1, none⟩ = some (.int .i64 c.op) ∧ w'.cell? ⟨w.heap.size, 2, none⟩ = some (.slice ta c.terms.length tc) ∧ w'.cell? ⟨w.heap.size, 3, none⟩ = some (.int .i64 c.k) ∧ w'.cell? ⟨w.heap.size, 4, none⟩ = some (.int .i64 c.v) ∧ w'.cell? ⟨w.heap.size, 5, none⟩ = some (.int .i64 c.x) ∧ w'.cell? ⟨w.heap.size, 6, none⟩ = some (.int .i64 c.y) ∧ w'.cell? ⟨w.heap.size, 7, none⟩ = some (.slice xa c.xs.length xc) ∧ w'.cell? ⟨w.heap.size, 8, none⟩ = some (.slice ba c.table.length bc) ∧ w'.cell? ⟨w.heap.size, 9, none⟩ = some (.slice ra c.rows.length rc)) := fun w' hb => ⟨(hb.cell (p := ⟨w.heap.size, 0, none⟩) hsN).trans c0, (hb.cell (p := ⟨w.heap.size, 1, none⟩) hsN).trans c1, (hb.cell (p := ⟨w.heap.size, 2, none⟩) hsN).trans c2, (hb.cell (p := ⟨w.heap.size, 3, none⟩) hsN).trans c3, (hb.cell (p := ⟨w.heap.size, 4, none⟩) hsN).trans c4, (hb.cell (p := ⟨w.heap.size, 5, none⟩) hsN).trans c5, (hb.cell (p := ⟨w.heap.size, 6, none⟩) hsN).trans c6, (hb.cell (p := ⟨w.heap.size, 7, none⟩) hsN).trans c7, (hb.cell (p := ⟨w.heap.size, 8, none⟩) hsN).trans c8, (hb.cell (p := ⟨w.heap.size, 9, none⟩) hsN).trans c9⟩
  unfold cnVal
  clear h hv hf hn hvc hbW hsz
  obtain ⟨mx, hmx, hlx⟩ := nat_of HF.out.x
  obtain ⟨my, hmy, hly⟩ := nat_of HF.out.y
  have hlxI : (mx : Int) < (vs.length : Int) := by omega
  have hlyI : (my : Int) < (vs.length : Int) := by omega
  have dx := HVC.out W (Below.refl _ _) mx hlx
  have dy := HVC.out W (Below.refl _ _) my hly
  have by1 := Md.val_mem HN.out (my : Int)
  have hkb := HF.out.k
  have hw : IntKind.i64.wrap (Md.val vs (my : Int) + c.k) = Md.val vs (my : Int) + c.k := wrap_ok (by omega) (by omega)
  have hres : Hid (Md.neB c vs = !decide (Md.val vs (mx : Int) = Md.val vs (my : Int) + c.k)) := by show _ = _; unfold Md.neB; rw [hmx, hmy]; simp
  rw [hmx] at c5
  rw [hmy] at c6
  clear hmx hmy
  generalize Md.val vs (mx : Int) = x at *
  generalize Md.val vs (my : Int) = y at *
  go_enter Tryd.func66, Tryd.ntmps66
  go_wp2
  go_quiet (fail)
  go_wp2
  go_ret
  exact ⟨ret_bool (by rw [hres.out]; rw [Bool.eq_iff_iff]; simp), below_drewN HB.out _⟩

set_option maxRecDepth 10000 in
set_option maxHeartbeats 2000000 in
theorem maxHolds_any (c : Md.Cn) (vt vx vb vr vv : Value) (vs : List Int) (w : World) (h : CnAt w c vt vx vb vr) (hv : IntsAt w vv vs) (hf : Md.Fit c vs.length) (hn : vs.all Md.numB = true) (hxs : Md.fXs c.kind = true) : Calls Tryd.prog 71 #[cnVal c vt vx vb vr, vv] w fun e w' => e = .returned (.bool (Md.mxB c vs)) ∧ Below w.heap.size w w' := by
  have HF : Hid (Md.Fit c vs.length) := hf
  have HN : Hid (vs.all Md.numB = true) := hn
  obtain ⟨ta, tc, rfl, _⟩ := id h.t
  obtain ⟨bx, ox, xc, rfl, hbx, hmx, hxc⟩ := h.x.open2 (hf.xp hxs)
  obtain ⟨ba, bc, rfl, _⟩ := id h.b
  obtain ⟨ra, rc, rfl, _⟩ := id h.r
  have hnp : 0 < vs.length := by have := hf.x; omega
  obtain ⟨bv, ov, vc, rfl, hbv, hmv, hvc⟩ := hv.open hnp
  unfold maxLen at hmv
  obtain ⟨W, hW⟩ : ∃ W, w.alloc (.cells #[.int .i64 c.kind, .int .i64 c.op, .slice ta c.terms.length tc, .int .i64 c.k, .int .i64 c.v, .int .i64 c.x, .int .i64 c.y, .slice (some ⟨bx, ox, none⟩) c.xs.length xc, .slice ba c.table.length bc, .slice ra c.rows.length rc] 71) = W := ⟨_, rfl⟩
  have hbW : Below w.heap.size w W := by rw [← hW]; exact (Below.refl _ _).alloc (Nat.le_refl _) _
  have HB : Hid (Below w.heap.size w W) := hbW
  have HC : Hid (CnAt W c (.slice ta c.terms.length tc) (.slice (some ⟨bx, ox, none⟩) c.xs.length xc) (.slice ba c.table.length bc) (.slice ra c.rows.length rc)) := h.below hbW
  have HV : Hid (IntsAt W (.slice (some ⟨bv, ov, none⟩) vs.length vc) vs) := hv.below hbW
  have HVC : Hid (∀ w', Below W.heap.size W w' → ∀ m : Nat, m < vs.length → w'.cell? ⟨bv, ov + m, none⟩ = some (.int .i64 (Md.val vs (m : Int)))) := fun w' hb m hm => ((hb.cell (p := ⟨bv, ov + m, none⟩) (Nat.lt_of_lt_of_le hbv hbW.size)).trans (hbW.cell (p := ⟨bv, ov + m, none⟩) hbv)).trans (hvc m hm)
  unfold maxLen at hmx
  have HXC : Hid (∀ w', Below W.heap.size W w' → ∀ m (hm : m < c.xs.length), w'.cell? ⟨bx, ox + m, none⟩ = some (.int .i64 c.xs[m])) := fun w' hb m hm => ((hb.cell (p := ⟨bx, ox + m, none⟩) (Nat.lt_of_lt_of_le hbx hbW.size)).trans (hbW.cell (p := ⟨bx, ox + m, none⟩) hbx)).trans (hxc m hm)
  have c0 : W.cell? ⟨w.heap.size, 0, none⟩ = some (.int .i64 c.kind) := by rw [← hW]; simp
  have c1 : W.cell? ⟨w.heap.size, 1, none⟩ = some (.int .i64 c.op) := by rw [← hW]; simp
  have c2 : W.cell? ⟨w.heap.size, 2, none⟩ = some (.slice ta c.terms.length tc) := by rw [← hW]; simp
  have c3 : W.cell? ⟨w.heap.size, 3, none⟩ = some (.int .i64 c.k) := by rw [← hW]; simp
  have c4 : W.cell? ⟨w.heap.size, 4, none⟩ = some (.int .i64 c.v) := by rw [← hW]; simp
  have c5 : W.cell? ⟨w.heap.size, 5, none⟩ = some (.int .i64 c.x) := by rw [← hW]; simp
  have c6 : W.cell? ⟨w.heap.size, 6, none⟩ = some (.int .i64 c.y) := by rw [← hW]; simp
  have c7 : W.cell? ⟨w.heap.size, 7, none⟩ = some (.slice (some ⟨bx, ox, none⟩) c.xs.length xc) := by rw [← hW]; simp
  have c8 : W.cell? ⟨w.heap.size, 8, none⟩ = some (.slice ba c.table.length bc) := by rw [← hW]; simp
  have c9 : W.cell? ⟨w.heap.size, 9, none⟩ = some (.slice ra c.rows.length rc) := by rw [← hW]; simp
  have hsz : W.heap.size = w.heap.size + 1 := by rw [← hW]; simp
  have hsN : w.heap.size < W.heap.size := by omega
  have HCC : Hid (∀ w', Below W.heap.size W w' → w'.cell? ⟨w.heap.size, 0, none⟩ = some (.int .i64 c.kind) ∧ w'.cell? ⟨w.heap.size, 1, none⟩ = some (.int .i64 c.op) ∧ w'.cell? ⟨w.heap.size, 2, none⟩ = some (.slice ta c.terms.length tc) ∧ w'.cell? ⟨w.heap.size, 3, none⟩ = some (.int .i64 c.k) ∧ w'.cell? ⟨w.heap.size, 4, none⟩ = some (.int .i64 c.v) ∧ w'.cell? ⟨w.heap.size, 5, none⟩ = some (.int .i64 c.x) ∧ w'.cell? ⟨w.heap.size, 6, none⟩ = some (.int .i64 c.y) ∧ w'.cell? ⟨w.heap.size, 7, none⟩ = some (.slice (some ⟨bx, ox, none⟩) c.xs.length xc) ∧ w'.cell? ⟨w.heap.size, 8, none⟩ = some (.slice ba c.table.length bc) ∧ w'.cell? ⟨w.heap.size, 9, none⟩ = some (.slice ra c.rows.length rc)) := fun w' hb => ⟨(hb.cell (p := ⟨w.heap.size, 0, none⟩) hsN).trans c0, (hb.cell (p := ⟨w.heap.size, 1, none⟩) hsN).trans c1, (hb.cell (p := ⟨w.heap.size, 2, none⟩) hsN).trans c2, (hb.cell (p := ⟨w.heap.size, 3, none⟩) hsN).trans c3, (hb.cell (p := ⟨w.heap.size, 4, none⟩) hsN).trans c4, (hb.cell (p := ⟨w.heap.size, 5, none⟩) hsN).trans c5, (hb.cell (p := ⟨w.heap.size, 6, none⟩) hsN).trans c6, (hb.cell (p := ⟨w.heap.size, 7, none⟩) hsN).trans c7, (hb.cell (p := ⟨w.heap.size, 8, none⟩) hsN).trans c8, (hb.cell (p := ⟨w.heap.size, 9, none⟩) hsN).trans c9⟩
  unfold cnVal
  clear h hv hf hn hvc hbW hsz hxc
  obtain ⟨my, hmy, hly⟩ := nat_of HF.out.y
  have hx0 : 0 < c.xs.length := HF.out.xp hxs
  obtain ⟨m0, hm0, hl0⟩ := nat_of (HF.out.xs _ (List.getElem_mem hx0))
  have hlyI : (my : Int) < (vs.length : Int) := by omega
  have hl0I : (m0 : Int) < (vs.length : Int) := by omega
  have hx0I : (0 : Int) < (c.xs.length : Int) := by omega
  have dy := HVC.out W (Below.refl _ _) my hly
  have d0 := HVC.out W (Below.refl _ _) m0 hl0
  have x0 := HXC.out W (Below.refl _ _) 0 hx0
  rw [hm0] at x0
  rw [hmy] at c6
  have H0 : Hid ((∀ x ∈ c.xs.take 0, Md.val vs x ≤ Md.val vs (m0 : Int)) ∧ ∃ x ∈ c.xs, Md.val vs x = Md.val vs (m0 : Int)) := ⟨fun x hx => by simp at hx, _, List.getElem_mem hx0, by rw [hm0]⟩
  have HY : Hid (c.y = (my : Int)) := hmy
  have hxlen : (c.xs.length : Int) ≤ 64 := by have := HF.out.xl; omega
  clear hm0 hmy
  simp only [Nat.add_zero] at x0
  go_enter Tryd.func71, Tryd.ntmps71
  go_wp2
  go_loop [5, 18] (fun gv iv => ∃ (k : Nat) (g : Int), iv = .int .i64 (k : Int) ∧ gv = .int .i64 g ∧ k ≤ c.xs.length ∧ Hid ((∀ x ∈ c.xs.take k, Md.val vs x ≤ g) ∧ ∃ x ∈ c.xs, Md.val vs x = g)) (fun _ iv => c.xs.length - (intOf iv).toNat)
  case atStart => exact ⟨0, _, rfl, rfl, Nat.zero_le _, H0⟩
  case round =>
    obtain ⟨k, g, rfl, rfl, hk, hH⟩ := hrel
    clear H0 d0 x0
    by_cases hlt : k < c.xs.length
    · have hkI : (k : Int) < (c.xs.length : Int) := by omega
      obtain ⟨m, hm, hl⟩ := nat_of (HF.out.xs _ (List.getElem_mem hlt))
      have hlI : (m : Int) < (vs.length : Int) := by omega
      have dm := HVC.out W (Below.refl _ _) m hl
      have xk := HXC.out W (Below.refl _ _) k hlt
      rw [hm] at xk
      have hnx : Hid ((∀ x ∈ c.xs.take (k + 1), Md.val vs x ≤ max g (Md.val vs (m : Int))) ∧ ∃ x ∈ c.xs, Md.val vs x = max g (Md.val vs (m : Int))) := by
        refine ⟨fun x hx => ?_, ?_⟩
        · rw [List.take_succ_eq_append_getElem hlt, List.mem_append, List.mem_singleton] at hx
          rcases hx with hx | rfl
          · have := hH.out.1 x hx; omega
          · rw [hm]; omega
        · rcases Int.le_total g (Md.val vs (m : Int)) with hle | hle
          · first
              | (rw [Int.max_eq_right hle]; exact ⟨_, List.getElem_mem hlt, by rw [hm]⟩)
              | (rw [Int.min_eq_left hle]; exact hH.out.2)
          · first
              | (rw [Int.max_eq_left hle]; exact hH.out.2)
              | (rw [Int.min_eq_right hle]; exact ⟨_, List.getElem_mem hlt, by rw [hm]⟩)
      clear hm
      generalize Md.val vs (m : Int) = y at *
      go_wp2
      go_round
      case rel => exact ⟨k + 1, max g y, by go_num, by congr 1; split <;> omega, by omega, hnx⟩
      case measure => simp [intOf]; omega
    · have hkI : ¬ (k : Int) < (c.xs.length : Int) := by omega
      have hH2 := hH.out
      rw [List.take_of_length_le (by omega)] at hH2
      have hres : Hid (Md.mxB c vs = decide (Md.val vs c.y = g)) := Md.mx_is hH2.1 hH2.2
      clear hH2
      rw [HY.out] at hres
      go_wp2
      go_ret
      exact ⟨ret_bool (by rw [hres.out]; rw [Bool.eq_iff_iff]; simp), HB.out⟩

set_option maxRecDepth 10000 in
set_option maxHeartbeats 2000000 in
theorem minHolds_any (c : Md.Cn) (vt vx vb vr vv : Value) (vs : List Int) (w : World) (h : CnAt w c vt vx vb vr) (hv : IntsAt w vv vs) (hf : Md.Fit c vs.length) (hn : vs.all Md.numB = true) (hxs : Md.fXs c.kind = true) : Calls Tryd.prog 72 #[cnVal c vt vx vb vr, vv] w fun e w' => e = .returned (.bool (Md.mnB c vs)) ∧ Below w.heap.size w w' := by
  have HF : Hid (Md.Fit c vs.length) := hf
  have HN : Hid (vs.all Md.numB = true) := hn
  obtain ⟨ta, tc, rfl, _⟩ := id h.t
  obtain ⟨bx, ox, xc, rfl, hbx, hmx, hxc⟩ := h.x.open2 (hf.xp hxs)
  obtain ⟨ba, bc, rfl, _⟩ := id h.b
  obtain ⟨ra, rc, rfl, _⟩ := id h.r
  have hnp : 0 < vs.length := by have := hf.x; omega
  obtain ⟨bv, ov, vc, rfl, hbv, hmv, hvc⟩ := hv.open hnp
  unfold maxLen at hmv
  obtain ⟨W, hW⟩ : ∃ W, w.alloc (.cells #[.int .i64 c.kind, .int .i64 c.op, .slice ta c.terms.length tc, .int .i64 c.k, .int .i64 c.v, .int .i64 c.x, .int .i64 c.y, .slice (some ⟨bx, ox, none⟩) c.xs.length xc, .slice ba c.table.length bc, .slice ra c.rows.length rc] 71) = W := ⟨_, rfl⟩
  have hbW : Below w.heap.size w W := by rw [← hW]; exact (Below.refl _ _).alloc (Nat.le_refl _) _
  have HB : Hid (Below w.heap.size w W) := hbW
  have HC : Hid (CnAt W c (.slice ta c.terms.length tc) (.slice (some ⟨bx, ox, none⟩) c.xs.length xc) (.slice ba c.table.length bc) (.slice ra c.rows.length rc)) := h.below hbW
  have HV : Hid (IntsAt W (.slice (some ⟨bv, ov, none⟩) vs.length vc) vs) := hv.below hbW
  have HVC : Hid (∀ w', Below W.heap.size W w' → ∀ m : Nat, m < vs.length → w'.cell? ⟨bv, ov + m, none⟩ = some (.int .i64 (Md.val vs (m : Int)))) := fun w' hb m hm => ((hb.cell (p := ⟨bv, ov + m, none⟩) (Nat.lt_of_lt_of_le hbv hbW.size)).trans (hbW.cell (p := ⟨bv, ov + m, none⟩) hbv)).trans (hvc m hm)
  unfold maxLen at hmx
  have HXC : Hid (∀ w', Below W.heap.size W w' → ∀ m (hm : m < c.xs.length), w'.cell? ⟨bx, ox + m, none⟩ = some (.int .i64 c.xs[m])) := fun w' hb m hm => ((hb.cell (p := ⟨bx, ox + m, none⟩) (Nat.lt_of_lt_of_le hbx hbW.size)).trans (hbW.cell (p := ⟨bx, ox + m, none⟩) hbx)).trans (hxc m hm)
  have c0 : W.cell? ⟨w.heap.size, 0, none⟩ = some (.int .i64 c.kind) := by rw [← hW]; simp
  have c1 : W.cell? ⟨w.heap.size, 1, none⟩ = some (.int .i64 c.op) := by rw [← hW]; simp
  have c2 : W.cell? ⟨w.heap.size, 2, none⟩ = some (.slice ta c.terms.length tc) := by rw [← hW]; simp
  have c3 : W.cell? ⟨w.heap.size, 3, none⟩ = some (.int .i64 c.k) := by rw [← hW]; simp
  have c4 : W.cell? ⟨w.heap.size, 4, none⟩ = some (.int .i64 c.v) := by rw [← hW]; simp
  have c5 : W.cell? ⟨w.heap.size, 5, none⟩ = some (.int .i64 c.x) := by rw [← hW]; simp
  have c6 : W.cell? ⟨w.heap.size, 6, none⟩ = some (.int .i64 c.y) := by rw [← hW]; simp
  have c7 : W.cell? ⟨w.heap.size, 7, none⟩ = some (.slice (some ⟨bx, ox, none⟩) c.xs.length xc) := by rw [← hW]; simp
  have c8 : W.cell? ⟨w.heap.size, 8, none⟩ = some (.slice ba c.table.length bc) := by rw [← hW]; simp
  have c9 : W.cell? ⟨w.heap.size, 9, none⟩ = some (.slice ra c.rows.length rc) := by rw [← hW]; simp
  have hsz : W.heap.size = w.heap.size + 1 := by rw [← hW]; simp
  have hsN : w.heap.size < W.heap.size := by omega
  have HCC : Hid (∀ w', Below W.heap.size W w' → w'.cell? ⟨w.heap.size, 0, none⟩ = some (.int .i64 c.kind) ∧ w'.cell? ⟨w.heap.size, 1, none⟩ = some (.int .i64 c.op) ∧ w'.cell? ⟨w.heap.size, 2, none⟩ = some (.slice ta c.terms.length tc) ∧ w'.cell? ⟨w.heap.size, 3, none⟩ = some (.int .i64 c.k) ∧ w'.cell? ⟨w.heap.size, 4, none⟩ = some (.int .i64 c.v) ∧ w'.cell? ⟨w.heap.size, 5, none⟩ = some (.int .i64 c.x) ∧ w'.cell? ⟨w.heap.size, 6, none⟩ = some (.int .i64 c.y) ∧ w'.cell? ⟨w.heap.size, 7, none⟩ = some (.slice (some ⟨bx, ox, none⟩) c.xs.length xc) ∧ w'.cell? ⟨w.heap.size, 8, none⟩ = some (.slice ba c.table.length bc) ∧ w'.cell? ⟨w.heap.size, 9, none⟩ = some (.slice ra c.rows.length rc)) := fun w' hb => ⟨(hb.cell (p := ⟨w.heap.size, 0, none⟩) hsN).trans c0, (hb.cell (p := ⟨w.heap.size, 1, none⟩) hsN).trans c1, (hb.cell (p := ⟨w.heap.size, 2, none⟩) hsN).trans c2, (hb.cell (p := ⟨w.heap.size, 3, none⟩) hsN).trans c3, (hb.cell (p := ⟨w.heap.size, 4, none⟩) hsN).trans c4, (hb.cell (p := ⟨w.heap.size, 5, none⟩) hsN).trans c5, (hb.cell (p := ⟨w.heap.size, 6, none⟩) hsN).trans c6, (hb.cell (p := ⟨w.heap.size, 7, none⟩) hsN).trans c7, (hb.cell (p := ⟨w.heap.size, 8, none⟩) hsN).trans c8, (hb.cell (p := ⟨w.heap.size, 9, none⟩) hsN).trans c9⟩
  unfold cnVal
  clear h hv hf hn hvc hbW hsz hxc
  obtain ⟨my, hmy, hly⟩ := nat_of HF.out.y
  have hx0 : 0 < c.xs.length := HF.out.xp hxs
  obtain ⟨m0, hm0, hl0⟩ := nat_of (HF.out.xs _ (List.getElem_mem hx0))
  have hlyI : (my : Int) < (vs.length : Int) := by omega
  have hl0I : (m0 : Int) < (vs.length : Int) := by omega
  have hx0I : (0 : Int) < (c.xs.length : Int) := by omega
  have dy := HVC.out W (Below.refl _ _) my hly
  have d0 := HVC.out W (Below.refl _ _) m0 hl0
  have x0 := HXC.out W (Below.refl _ _) 0 hx0
  rw [hm0] at x0
  rw [hmy] at c6
  have H0 : Hid ((∀ x ∈ c.xs.take 0, Md.val vs (m0 : Int) ≤ Md.val vs x) ∧ ∃ x ∈ c.xs, Md.val vs x = Md.val vs (m0 : Int)) := ⟨fun x hx => by simp at hx, _, List.getElem_mem hx0, by rw [hm0]⟩
  have HY : Hid (c.y = (my : Int)) := hmy
  have hxlen : (c.xs.length : Int) ≤ 64 := by have := HF.out.xl; omega
  clear hm0 hmy
  simp only [Nat.add_zero] at x0
  go_enter Tryd.func72, Tryd.ntmps72
  go_wp2
  go_loop [5, 18] (fun gv iv => ∃ (k : Nat) (g : Int), iv = .int .i64 (k : Int) ∧ gv = .int .i64 g ∧ k ≤ c.xs.length ∧ Hid ((∀ x ∈ c.xs.take k, g ≤ Md.val vs x) ∧ ∃ x ∈ c.xs, Md.val vs x = g)) (fun _ iv => c.xs.length - (intOf iv).toNat)
  case atStart => exact ⟨0, _, rfl, rfl, Nat.zero_le _, H0⟩
  case round =>
    obtain ⟨k, g, rfl, rfl, hk, hH⟩ := hrel
    clear H0 d0 x0
    by_cases hlt : k < c.xs.length
    · have hkI : (k : Int) < (c.xs.length : Int) := by omega
      obtain ⟨m, hm, hl⟩ := nat_of (HF.out.xs _ (List.getElem_mem hlt))
      have hlI : (m : Int) < (vs.length : Int) := by omega
      have dm := HVC.out W (Below.refl _ _) m hl
      have xk := HXC.out W (Below.refl _ _) k hlt
      rw [hm] at xk
      have hnx : Hid ((∀ x ∈ c.xs.take (k + 1), min g (Md.val vs (m : Int)) ≤ Md.val vs x) ∧ ∃ x ∈ c.xs, Md.val vs x = min g (Md.val vs (m : Int))) := by
        refine ⟨fun x hx => ?_, ?_⟩
        · rw [List.take_succ_eq_append_getElem hlt, List.mem_append, List.mem_singleton] at hx
          rcases hx with hx | rfl
          · have := hH.out.1 x hx; omega
          · rw [hm]; omega
        · rcases Int.le_total g (Md.val vs (m : Int)) with hle | hle
          · first
              | (rw [Int.max_eq_right hle]; exact ⟨_, List.getElem_mem hlt, by rw [hm]⟩)
              | (rw [Int.min_eq_left hle]; exact hH.out.2)
          · first
              | (rw [Int.max_eq_left hle]; exact hH.out.2)
              | (rw [Int.min_eq_right hle]; exact ⟨_, List.getElem_mem hlt, by rw [hm]⟩)
      clear hm
      generalize Md.val vs (m : Int) = y at *
      go_wp2
      go_round
      case rel => exact ⟨k + 1, min g y, by go_num, by congr 1; split <;> omega, by omega, hnx⟩
      case measure => simp [intOf]; omega
    · have hkI : ¬ (k : Int) < (c.xs.length : Int) := by omega
      have hH2 := hH.out
      rw [List.take_of_length_le (by omega)] at hH2
      have hres : Hid (Md.mnB c vs = decide (Md.val vs c.y = g)) := Md.mn_is hH2.1 hH2.2
      clear hH2
      rw [HY.out] at hres
      go_wp2
      go_ret
      exact ⟨ret_bool (by rw [hres.out]; rw [Bool.eq_iff_iff]; simp), HB.out⟩
end Go.Proofs.YtdfbmfikhccajaaDoor
