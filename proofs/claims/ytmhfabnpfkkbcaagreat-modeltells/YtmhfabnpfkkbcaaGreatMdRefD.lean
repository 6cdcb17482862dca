/-
  The document's side of package model: tables, counts.
-/
import Derived.Test.YtmhfabnpfkkbcaaGreatMdRefC
namespace Go.Proofs.YtmhfabnpfkkbcaaGreat
open Go.RowKit

set_option maxRecDepth 10000 in
set_option maxHeartbeats 1000000 in
/-- One row of a table. -/
theorem refRow_any (vr vx vv : Value) (row xs vs : List Int) (w : World) (hr : IntsAt w vr row) (hx : IntsAt w vx xs) (hv : IntsAt w vv vs)
    (hl : row.length = xs.length) (hx0 : 0 < xs.length) (hx64 : xs.length ≤ 64) (hin : ∀ x ∈ xs, 0 ≤ x ∧ x < vs.length) :
    Calls Tryz.prog 109 #[vx, vr, vv] w fun e w' => e = .returned (.bool (decide (xs.map (Md.val vs) = row))) ∧ Below w.heap.size w w' := by
  have hn0 : 0 < vs.length := by have := hin _ (List.getElem_mem hx0); omega
  obtain ⟨br, or, rc, rfl, hbr, hmr, hrc⟩ := hr.open2 (by omega)
  obtain ⟨bx, ox, xc, rfl, hbx, hmx, hxc⟩ := hx.open2 hx0
  obtain ⟨bv, ov, vc, rfl, hbv, hmv, hvc⟩ := hv.open hn0
  unfold maxLen at hmr hmx hmv
  have HRC : Hid (∀ w', Below w.heap.size w w' → ∀ m (hm : m < row.length), w'.cell? ⟨br, or + m, none⟩ = some (.int .i64 row[m])) := fun w' hb m hm => (hb.cell (p := ⟨br, or + m, none⟩) hbr).trans (hrc m hm)
  have HXC : Hid (∀ w', Below w.heap.size w w' → ∀ m (hm : m < xs.length), w'.cell? ⟨bx, ox + m, none⟩ = some (.int .i64 xs[m])) := fun w' hb m hm => (hb.cell (p := ⟨bx, ox + m, none⟩) hbx).trans (hxc m hm)
  have HVC : Hid (∀ w', Below w.heap.size w w' → ∀ m : Nat, m < vs.length → w'.cell? ⟨bv, ov + m, none⟩ = some (.int .i64 (Md.val vs (m : Int)))) := fun w' hb m hm => (hb.cell (p := ⟨bv, ov + m, none⟩) hbv).trans (hvc m hm)
  have HIN : Hid (∀ x ∈ xs, 0 ≤ x ∧ x < vs.length) := hin
  have HL : Hid (row.length = xs.length) := hl
  rw [hl]
  clear hr hx hv hrc hxc hvc hin hl
  go_enter Tryz.func109, Tryz.ntmps109
  go_wp2
  go_loopw [7] (fun iv wr => ∃ k : Nat, iv = .int .i64 (k : Int) ∧ k ≤ xs.length ∧ Hid (∀ j (h1 : j < xs.length) (h2 : j < row.length), j < k → Md.val vs xs[j] = row[j]) ∧ Hid (Below w.heap.size w wr)) (fun iv _ => xs.length - (intOf iv).toNat)
  case atStart => exact ⟨0, rfl, Nat.zero_le _, fun j _ _ h => absurd h (Nat.not_lt_zero _), Below.refl _ _⟩
  case round =>
    obtain ⟨k, rfl, hk, hA, hB⟩ := hrel
    by_cases hlt : k < xs.length
    · have hkI : (k : Int) < (xs.length : Int) := by omega
      have hkr : k < row.length := by have := HL.out; omega
      obtain ⟨m, hm, hlm⟩ := nat_of (HIN.out _ (List.getElem_mem hlt))
      have hlI : (m : Int) < (vs.length : Int) := by omega
      have dm := HVC.out _ hB.out m hlm
      have xk := HXC.out _ hB.out k hlt
      have rk := HRC.out _ hB.out k hkr
      rw [hm] at xk
      by_cases he : Md.val vs (m : Int) = row[k]
      · have hnx : Hid (∀ j (h1 : j < xs.length) (h2 : j < row.length), j < k + 1 → Md.val vs xs[j] = row[j]) := fun j h1 h2 h => by
          by_cases hjk : j < k
          · exact hA.out j h1 h2 hjk
          · obtain rfl : j = k := by omega
            rw [hm]; exact he
        have heB : (Md.val vs (m : Int) != row[k]) = false := by simp [he]
        clear hm he
        generalize row[k] = z at *
        generalize Md.val vs (m : Int) = y at *
        go_wp2
        go_quiet (fail)
        go_wp2
        go_roundw
        case rel => exact ⟨k + 1, by go_num, by omega, hnx, below_drewN hB.out _⟩
        case measure => simp [intOf]; omega
      · have hres : Hid (decide (xs.map (Md.val vs) = row) = false) := map_stop hlt hkr (by rw [hm]; exact he)
        have heB : (Md.val vs (m : Int) != row[k]) = true := by simp [he]
        clear hm he
        generalize row[k] = z at *
        generalize Md.val vs (m : Int) = y at *
        go_wp2
        go_quiet (fail)
        go_wp2
        go_ret
        exact ⟨ret_bool hres.out.symm, below_drewN hB.out _⟩
    · have hkI : ¬ (k : Int) < (xs.length : Int) := by omega
      have hres : Hid (decide (xs.map (Md.val vs) = row) = true) := map_done HL.out (fun j h1 h2 => hA.out j h1 h2 (by omega))
      go_wp2
      go_ret
      exact ⟨ret_bool hres.out.symm, hB.out⟩


/-- What stays while a row is asked. -/
def Tb (V : World) (N b o : Nat) (s7 s9 u : Value) (w' : World) : Prop := w'.cell? ⟨N, 7, none⟩ = some s7 ∧ w'.cell? ⟨N, 9, none⟩ = some s9 ∧ w'.cell? ⟨b, o, none⟩ = some u ∧ N < w'.heap.size ∧ b < w'.heap.size ∧ Below V.heap.size V w'
theorem Tb.next {V : World} {N b o : Nat} {s7 s9 u : Value} {w1 w2 : World} (h : Tb V N b o s7 s9 u w1) (hb : Below w1.heap.size w1 w2) : Tb V N b o s7 s9 u w2 := by
  obtain ⟨h1, h2, h3, h4, h5, h6⟩ := h
  exact ⟨(hb.cell (p := ⟨N, 7, none⟩) h4).trans h1, (hb.cell (p := ⟨N, 9, none⟩) h4).trans h2, (hb.cell (p := ⟨b, o, none⟩) h5).trans h3, Nat.lt_of_lt_of_le h4 hb.size, Nat.lt_of_lt_of_le h5 hb.size, h6.trans (hb.mono h6.size)⟩
theorem Tb.rest {V : World} {N b o : Nat} {s7 s9 u : Value} {w1 : World} (h : Tb V N b o s7 s9 u w1) : Below V.heap.size V w1 := h.2.2.2.2.2

set_option maxRecDepth 10000 in
set_option maxHeartbeats 2000000 in
theorem tabled_any (c : Md.Cn) (vt vx vb vr vv : Value) (vs : List Int) (w : World) (h : CnAt w c vt vx vb vr) (hv : IntsAt w vv vs) (hf : Md.Fit c vs.length) (hn : vs.all Md.numB = true) (hxs : Md.fXs c.kind = true) : Calls Tryz.prog 75 #[cnVal c vt vx vb vr, vv] w fun e w' => e = .returned (.bool (Md.tbB c vs)) ∧ Below w.heap.size w w' := by
  have HF : Hid (Md.Fit c vs.length) := hf
  have HN : Hid (vs.all Md.numB = true) := hn
  obtain ⟨ta, tc, rfl, _⟩ := id h.t
  obtain ⟨bx, ox, xc, rfl, hbx, hmx, hxc⟩ := h.x.open2 (hf.xp hxs)
  obtain ⟨ba, bc, rfl, _⟩ := id h.b
  obtain ⟨ra, rc, rfl, _⟩ := id h.r
  have hnp : 0 < vs.length := by have := hf.x; omega
  obtain ⟨bv, ov, vc, rfl, hbv, hmv, hvc⟩ := hv.open hnp
  unfold maxLen at hmv
  obtain ⟨W, hW⟩ : ∃ W, w.alloc (.cells #[.int .i64 c.kind, .int .i64 c.op, .slice ta c.terms.length tc, .int .i64 c.k, .int .i64 c.v, .int .i64 c.x, .int .i64 c.y, .slice (some ⟨bx, ox, none⟩) c.xs.length xc, .slice ba c.table.length bc, .slice ra c.rows.length rc] 62) = W := ⟨_, rfl⟩
  have hbW : Below w.heap.size w W := by rw [← hW]; exact (Below.refl _ _).alloc (Nat.le_refl _) _
  have HB : Hid (Below w.heap.size w W) := hbW
  have HC : Hid (CnAt W c (.slice ta c.terms.length tc) (.slice (some ⟨bx, ox, none⟩) c.xs.length xc) (.slice ba c.table.length bc) (.slice ra c.rows.length rc)) := h.below hbW
  have HV : Hid (IntsAt W (.slice (some ⟨bv, ov, none⟩) vs.length vc) vs) := hv.below hbW
  have HVC : Hid (∀ w', Below W.heap.size W w' → ∀ m : Nat, m < vs.length → w'.cell? ⟨bv, ov + m, none⟩ = some (.int .i64 (Md.val vs (m : Int)))) := fun w' hb m hm => ((hb.cell (p := ⟨bv, ov + m, none⟩) (Nat.lt_of_lt_of_le hbv hbW.size)).trans (hbW.cell (p := ⟨bv, ov + m, none⟩) hbv)).trans (hvc m hm)
  unfold maxLen at hmx
  have HXC : Hid (∀ w', Below W.heap.size W w' → ∀ m (hm : m < c.xs.length), w'.cell? ⟨bx, ox + m, none⟩ = some (.int .i64 c.xs[m])) := fun w' hb m hm => ((hb.cell (p := ⟨bx, ox + m, none⟩) (Nat.lt_of_lt_of_le hbx hbW.size)).trans (hbW.cell (p := ⟨bx, ox + m, none⟩) hbx)).trans (hxc m hm)
  have c0 : W.cell? ⟨w.heap.size, 0, none⟩ = some (.int .i64 c.kind) := by rw [← hW]; simp
  have c1 : W.cell? ⟨w.heap.size, 1, none⟩ = some (.int .i64 c.op) := by rw [← hW]; simp
  have c2 : W.cell? ⟨w.heap.size, 2, none⟩ = some (.slice ta c.terms.length tc) := by rw [← hW]; simp
  have c3 : W.cell? ⟨w.heap.size, 3, none⟩ = some (.int .i64 c.k) := by rw [← hW]; simp
  have c4 : W.cell? ⟨w.heap.size, 4, none⟩ = some (.int .i64 c.v) := by rw [← hW]; simp
  have c5 : W.cell? ⟨w.heap.size, 5, none⟩ = some (.int .i64 c.x) := by rw [← hW]; simp
  have c6 : W.cell? ⟨w.heap.size, 6, none⟩ = some (.int .i64 c.y) := by rw [← hW]; simp
  have c7 : W.cell? ⟨w.heap.size, 7, none⟩ = some (.slice (some ⟨bx, ox, none⟩) c.xs.length xc) := by rw [← hW]; simp
  have c8 : W.cell? ⟨w.heap.size, 8, none⟩ = some (.slice ba c.table.length bc) := by rw [← hW]; simp
  have c9 : W.cell? ⟨w.heap.size, 9, none⟩ = some (.slice ra c.rows.length rc) := by rw [← hW]; simp
  have hsz : W.heap.size = w.heap.size + 1 := by rw [← hW]; simp
  have hsN : w.heap.size < W.heap.size := by omega
  have HCC : Hid (∀ w', Below W.heap.size W w' → w'.cell? ⟨w.heap.size, 0, none⟩ = some (.int .i64 c.kind) ∧ w'.cell? ⟨w.heap.size, 1, none⟩ = some (.int .i64 c.op) ∧ w'.cell? ⟨w.heap.size, 2, none⟩ = some (.slice ta c.terms.length tc) ∧ w'.cell? ⟨w.heap.size, 3, none⟩ = some (.int .i64 c.k) ∧ w'.cell? ⟨w.heap.size, 4, none⟩ = some (.int .i64 c.v) ∧ w'.cell? ⟨w.heap.size, 5, none⟩ = some (.int .i64 c.x) ∧ w'.cell? ⟨w.heap.size, 6, none⟩ = some (.int .i64 c.y) ∧ w'.cell? ⟨w.heap.size, 7, none⟩ = some (.slice (some ⟨bx, ox, none⟩) c.xs.length xc) ∧ w'.cell? ⟨w.heap.size, 8, none⟩ = some (.slice ba c.table.length bc) ∧ w'.cell? ⟨w.heap.size, 9, none⟩ = some (.slice ra c.rows.length rc)) := fun w' hb => ⟨(hb.cell (p := ⟨w.heap.size, 0, none⟩) hsN).trans c0, (hb.cell (p := ⟨w.heap.size, 1, none⟩) hsN).trans c1, (hb.cell (p := ⟨w.heap.size, 2, none⟩) hsN).trans c2, (hb.cell (p := ⟨w.heap.size, 3, none⟩) hsN).trans c3, (hb.cell (p := ⟨w.heap.size, 4, none⟩) hsN).trans c4, (hb.cell (p := ⟨w.heap.size, 5, none⟩) hsN).trans c5, (hb.cell (p := ⟨w.heap.size, 6, none⟩) hsN).trans c6, (hb.cell (p := ⟨w.heap.size, 7, none⟩) hsN).trans c7, (hb.cell (p := ⟨w.heap.size, 8, none⟩) hsN).trans c8, (hb.cell (p := ⟨w.heap.size, 9, none⟩) hsN).trans c9⟩
  unfold cnVal
  clear h hv hf hn hvc hbW hsz hxc
  have HRO : Hid (0 < c.rows.length → ∃ b off, ra = some ⟨b, off, none⟩ ∧ b < W.heap.size ∧ ∀ j (h : j < c.rows.length), ∃ u, W.cell? ⟨b, off + j, none⟩ = some u ∧ IntsAt W u c.rows[j]) := by
    obtain ⟨ra', rc', hre, _, hro⟩ := HC.out.r
    injection hre with e1 _ _
    rw [e1]; exact hro
  have hrl : (c.rows.length : Int) ≤ 64 := by have := HF.out.rl; omega
  obtain ⟨f, hf⟩ : ∃ f : List Int → Bool, (fun r => decide (c.xs.map (Md.val vs) = r)) = f := ⟨_, rfl⟩
  have HFF : Hid ((fun r => decide (c.xs.map (Md.val vs) = r)) = f) := hf
  have hres : Hid (Md.tbB c vs = c.rows.any f) := by show _ = _; rw [← hf]; rfl
  clear hf
  go_enter Tryz.func75, Tryz.ntmps75
  go_wp2
  go_loopw [5] (fun iv wr => ∃ k : Nat, iv = .int .i64 (k : Int) ∧ k ≤ c.rows.length ∧ Hid ((c.rows.take k).any f = false) ∧ Hid (Below W.heap.size W wr)) (fun iv _ => c.rows.length - (intOf iv).toNat)
  case atStart => exact ⟨0, rfl, Nat.zero_le _, (show _ = _ by simp), Below.refl _ _⟩
  case round =>
    obtain ⟨k, rfl, hk, hA, hB⟩ := hrel
    obtain ⟨_, _, _, _, _, _, _, a7, _, a9⟩ := HCC.out _ hB.out
    by_cases hlt : k < c.rows.length
    · have hkI : (k : Int) < (c.rows.length : Int) := by omega
      obtain ⟨b, off, rfl, hb, hc⟩ := HRO.out (by omega)
      obtain ⟨u, hcell, hu⟩ := hc k hlt
      have hcw := (hB.out.cell (p := ⟨b, off + k, none⟩) hb).trans hcell
      have HU : Hid (∀ w', Below wr.heap.size wr w' → Calls Tryz.prog 109 #[.slice (some ⟨bx, ox, none⟩) c.xs.length xc, u, .slice (some ⟨bv, ov, none⟩) vs.length vc] w' fun e w'' => e = .returned (.bool (f c.rows[k])) ∧ Below w'.heap.size w' w'') := fun w' hb' => by
        rw [← HFF.out]
        have hbb := hB.out.trans (hb'.mono hB.out.size)
        exact refRow_any _ _ _ c.rows[k] c.xs vs w' (hu.below hbb) (HC.out.x.below hbb) (HV.out.below hbb) (HF.out.rr _ (List.getElem_mem hlt)) (HF.out.xp hxs) HF.out.xl HF.out.xs
      obtain ⟨ua, uc, rfl, _⟩ := hu.form
      have HTB : Hid (Tb wr w.heap.size b (off + k) (.slice (some ⟨bx, ox, none⟩) c.xs.length xc) (.slice (some ⟨b, off, none⟩) c.rows.length rc) (.slice ua (c.rows[k]).length uc) wr) := ⟨a7, a9, hcw, by have := hB.out.size; omega, Nat.lt_of_lt_of_le hb hB.out.size, Below.refl _ _⟩
      clear hc hcell hu
      cases hp : f c.rows[k]
      · have hnx : Hid ((c.rows.take (k + 1)).any f = false) := by show _ = _; rw [Md.any_next hlt, hA.out, hp]; rfl
        rw [hp] at HU
        go_wp2
        go_region_held3 (fun w' => w'.cell? ⟨w.heap.size, 7, none⟩ = some (.slice (some ⟨bx, ox, none⟩) c.xs.length xc) ∧ w'.cell? ⟨w.heap.size, 9, none⟩ = some (.slice (some ⟨b, off, none⟩) c.rows.length rc) ∧ w'.cell? ⟨b, off + k, none⟩ = some (.slice ua (c.rows[k]).length uc) ∧ w.heap.size < w'.heap.size ∧ b < w'.heap.size ∧ Below wr.heap.size wr w')
          (first | exact HTB.out.next (Below.refl _ _).drew | exact Tb.next (by assumption) (by assumption))
          (first | (go_at_call 109; refine calls_at (HU.out _ (Tb.rest (by assumption))) (by with_reducible rfl) (by with_reducible rfl) ?_; rintro e w2 ⟨rfl, hb2⟩))
        rename_i hHeld
        have hb4 := Tb.rest hHeld
        go_wp2
        go_roundw
        case rel => exact ⟨k + 1, by go_num, by omega, hnx, hB.out.trans (hb4.mono hB.out.size)⟩
        case measure => simp [intOf]; omega
      · have hres2 : Hid (c.rows.any f = true) := Md.any_stop hlt hp
        rw [hp] at HU
        go_wp2
        go_region_held3 (fun w' => w'.cell? ⟨w.heap.size, 7, none⟩ = some (.slice (some ⟨bx, ox, none⟩) c.xs.length xc) ∧ w'.cell? ⟨w.heap.size, 9, none⟩ = some (.slice (some ⟨b, off, none⟩) c.rows.length rc) ∧ w'.cell? ⟨b, off + k, none⟩ = some (.slice ua (c.rows[k]).length uc) ∧ w.heap.size < w'.heap.size ∧ b < w'.heap.size ∧ Below wr.heap.size wr w')
          (first | exact HTB.out.next (Below.refl _ _).drew | exact Tb.next (by assumption) (by assumption))
          (first | (go_at_call 109; refine calls_at (HU.out _ (Tb.rest (by assumption))) (by with_reducible rfl) (by with_reducible rfl) ?_; rintro e w2 ⟨rfl, hb2⟩))
        rename_i hHeld
        have hb4 := Tb.rest hHeld
        go_wp2
        go_ret
        exact ⟨ret_bool (by rw [hres.out, hres2.out]), HB.out.trans ((hB.out.trans (hb4.mono hB.out.size)).mono HB.out.size)⟩
    · have hkI : ¬ (k : Int) < (c.rows.length : Int) := by omega
      have hres2 : Hid (c.rows.any f = false) := Md.any_done hA.out (by omega)
      go_wp2
      go_ret
      exact ⟨ret_bool (by rw [hres.out, hres2.out]), HB.out.trans (hB.out.mono HB.out.size)⟩

set_option maxRecDepth 10000 in
set_option maxHeartbeats 2000000 in
theorem counted_any (c : Md.Cn) (vt vx vb vr vv : Value) (vs : List Int) (w : World) (h : CnAt w c vt vx vb vr) (hv : IntsAt w vv vs) (hf : Md.Fit c vs.length) (hn : vs.all Md.numB = true) (hxs : Md.fXs c.kind = true) (hop : 1 ≤ c.op ∧ c.op ≤ 3) : Calls Tryz.prog 76 #[cnVal c vt vx vb vr, vv] w fun e w' => e = .returned (.bool (Md.ctB c vs)) ∧ Below w.heap.size w w' := by
  have HF : Hid (Md.Fit c vs.length) := hf
  have HN : Hid (vs.all Md.numB = true) := hn
  obtain ⟨ta, tc, rfl, _⟩ := id h.t
  obtain ⟨bx, ox, xc, rfl, hbx, hmx, hxc⟩ := h.x.open2 (hf.xp hxs)
  obtain ⟨ba, bc, rfl, _⟩ := id h.b
  obtain ⟨ra, rc, rfl, _⟩ := id h.r
  have hnp : 0 < vs.length := by have := hf.x; omega
  obtain ⟨bv, ov, vc, rfl, hbv, hmv, hvc⟩ := hv.open hnp
  unfold maxLen at hmv
  obtain ⟨W, hW⟩ : ∃ W, w.alloc (.cells #[.int .i64 c.kind, .int .i64 c.op, .slice ta c.terms.length tc, .int .i64 c.k, .int .i64 c.v, .int .i64 c.x, .int .i64 c.y, .slice (some ⟨bx, ox, none⟩) c.xs.length xc, .slice ba c.table.length bc, .slice ra c.rows.length rc] 62) = W := ⟨_, rfl⟩
  have hbW : Below w.heap.size w W := by rw [← hW]; exact (Below.refl _ _).alloc (Nat.le_refl _) _
  have HB : Hid (Below w.heap.size w W) := hbW
  have HC : Hid (CnAt W c (.slice ta c.terms.length tc) (.slice (some ⟨bx, ox, none⟩) c.xs.length xc) (.slice ba c.table.length bc) (.slice ra c.rows.length rc)) := h.below hbW
  have HV : Hid (IntsAt W (.slice (some ⟨bv, ov, none⟩) vs.length vc) vs) := hv.below hbW
  have HVC : Hid (∀ w', Below W.heap.size W w' → ∀ m : Nat, m < vs.length → w'.cell? ⟨bv, ov + m, none⟩ = some (.int .i64 (Md.val vs (m : Int)))) := fun w' hb m hm => ((hb.cell (p := ⟨bv, ov + m, none⟩) (Nat.lt_of_lt_of_le hbv hbW.size)).trans (hbW.cell (p := ⟨bv, ov + m, none⟩) hbv)).trans (hvc m hm)
  unfold maxLen at hmx
  have HXC : Hid (∀ w', Below W.heap.size W w' → ∀ m (hm : m < c.xs.length), w'.cell? ⟨bx, ox + m, none⟩ = some (.int .i64 c.xs[m])) := fun w' hb m hm => ((hb.cell (p := ⟨bx, ox + m, none⟩) (Nat.lt_of_lt_of_le hbx hbW.size)).trans (hbW.cell (p := ⟨bx, ox + m, none⟩) hbx)).trans (hxc m hm)
  have c0 : W.cell? ⟨w.heap.size, 0, none⟩ = some (.int .i64 c.kind) := by rw [← hW]; simp
  have c1 : W.cell? ⟨w.heap.size, 1, none⟩ = some (.int .i64 c.op) := by rw [← hW]; simp
  have c2 : W.cell? ⟨w.heap.size, 2, none⟩ = some (.slice ta c.terms.length tc) := by rw [← hW]; simp
  have c3 : W.cell? ⟨w.heap.size, 3, none⟩ = some (.int .i64 c.k) := by rw [← hW]; simp
  have c4 : W.cell? ⟨w.heap.size, 4, none⟩ = some (.int .i64 c.v) := by rw [← hW]; simp
  have c5 : W.cell? ⟨w.heap.size, 5, none⟩ = some (.int .i64 c.x) := by rw [← hW]; simp
  have c6 : W.cell? ⟨w.heap.size, 6, none⟩ = some (.int .i64 c.y) := by rw [← hW]; simp
  have c7 : W.cell? ⟨w.heap.size, 7, none⟩ = some (.slice (some ⟨bx, ox, none⟩) c.xs.length xc) := by rw [← hW]; simp
  have c8 : W.cell? ⟨w.heap.size, 8, none⟩ = some (.slice ba c.table.length bc) := by rw [← hW]; simp
  have c9 : W.cell? ⟨w.heap.size, 9, none⟩ = some (.slice ra c.rows.length rc) := by rw [← hW]; simp
  have hsz : W.heap.size = w.heap.size + 1 := by rw [← hW]; simp
  have hsN : w.heap.size < W.heap.size := by omega
  have HCC : Hid (∀ w', Below W.heap.size W w' → w'.cell? ⟨w.heap.size, 0, none⟩ = some (.int .i64 c.kind) ∧ w'.cell? ⟨w.heap.size, 1, none⟩ = some (.int .i64 c.op) ∧ w'.cell? ⟨w.heap.size, 2, none⟩ = some (.slice ta c.terms.length tc) ∧ w'.cell? ⟨w.heap.size, 3, none⟩ = some (.int .i64 c.k) ∧ w'.cell? ⟨w.heap.size, 4, none⟩ = some (.int .i64 c.v) ∧ w'.cell? ⟨w.heap.size, 5, none⟩ = some (.int .i64 c.x) ∧ w'.cell? ⟨w.heap.size, 6, none⟩ = some (.int .i64 c.y) ∧ w'.cell? ⟨w.heap.size, 7, none⟩ = some (.slice (some ⟨bx, ox, none⟩) c.xs.length xc) ∧ w'.cell? ⟨w.heap.size, 8, none⟩ = some (.slice ba c.table.length bc) ∧ w'.cell? ⟨w.heap.size, 9, none⟩ = some (.slice ra c.rows.length rc)) := fun w' hb => ⟨(hb.cell (p := ⟨w.heap.size, 0, none⟩) hsN).trans c0, (hb.cell (p := ⟨w.heap.size, 1, none⟩) hsN).trans c1, (hb.cell (p := ⟨w.heap.size, 2, none⟩) hsN).trans c2, (hb.cell (p := ⟨w.heap.size, 3, none⟩) hsN).trans c3, (hb.cell (p := ⟨w.heap.size, 4, none⟩) hsN).trans c4, (hb.cell (p := ⟨w.heap.size, 5, none⟩) hsN).trans c5, (hb.cell (p := ⟨w.heap.size, 6, none⟩) hsN).trans c6, (hb.cell (p := ⟨w.heap.size, 7, none⟩) hsN).trans c7, (hb.cell (p := ⟨w.heap.size, 8, none⟩) hsN).trans c8, (hb.cell (p := ⟨w.heap.size, 9, none⟩) hsN).trans c9⟩
  unfold cnVal
  clear h hv hf hn hvc hbW hsz hxc
  have hxlen : (c.xs.length : Int) ≤ 64 := by have := HF.out.xl; omega
  obtain ⟨p, hp⟩ : ∃ p : Int → Bool, (fun x => decide (Md.val vs x = c.v)) = p := ⟨_, rfl⟩
  have HP : Hid ((fun x => decide (Md.val vs x = c.v)) = p) := hp
  have hres : Hid (Md.ctB c vs = Md.cmpB c.op ((c.xs.countP p : Nat) : Int) c.k) := by show _ = _; rw [← hp]; rfl
  clear hp
  go_enter Tryz.func76, Tryz.ntmps76
  go_wp2
  go_loopw [5, 6] (fun nv iv wr => ∃ k : Nat, iv = .int .i64 (k : Int) ∧ nv = .int .i64 (((c.xs.take k).countP p : Nat) : Int) ∧ k ≤ c.xs.length ∧ Hid (Below W.heap.size W wr)) (fun _ iv _ => c.xs.length - (intOf iv).toNat)
  case atStart => exact ⟨0, rfl, by simp, Nat.zero_le _, Below.refl _ _⟩
  case round =>
    obtain ⟨k, rfl, rfl, hk, hB⟩ := hrel
    by_cases hlt : k < c.xs.length
    · have hkI : (k : Int) < (c.xs.length : Int) := by omega
      obtain ⟨m, hm, hl⟩ := nat_of (HF.out.xs _ (List.getElem_mem hlt))
      have hlI : (m : Int) < (vs.length : Int) := by omega
      have dm := HVC.out _ hB.out m hl
      have xk := HXC.out _ hB.out k hlt
      obtain ⟨_, _, _, _, a4, _, _, a7, _⟩ := HCC.out _ hB.out
      rw [hm] at xk
      have hnx := Md.countP_next (p := p) hlt
      have hle := Md.countP_le_take p c.xs k
      have hpm : p c.xs[k] = decide (Md.val vs (m : Int) = c.v) := by rw [← HP.out, hm]
      rw [hpm] at hnx
      clear hm hpm
      by_cases he : Md.val vs (m : Int) = c.v
      · rw [he] at dm
        have hnx2 : Hid ((c.xs.take (k + 1)).countP p = (c.xs.take k).countP p + 1) := by show _ = _; rw [hnx]; simp [he]
        clear hnx he
        generalize (c.xs.take k).countP p = q at *
        go_wp2
        go_quiet (fail)
        go_wp2
        go_roundw
        case rel => exact ⟨k + 1, by go_num, by rw [hnx2.out]; go_num, by omega, below_drewN hB.out _⟩
        case measure => simp [intOf]; omega
      · have hnx2 : Hid ((c.xs.take (k + 1)).countP p = (c.xs.take k).countP p) := by show _ = _; rw [hnx]; simp [he]
        have heB : (Md.val vs (m : Int) == c.v) = false := by simpa using he
        clear hnx he
        generalize (c.xs.take k).countP p = q at *
        generalize Md.val vs (m : Int) = y at *
        go_wp2
        go_quiet (fail)
        go_wp2
        go_roundw
        case rel => exact ⟨k + 1, by go_num, by rw [hnx2.out], by omega, below_drewN hB.out _⟩
        case measure => simp [intOf]; omega
    · have hkI : ¬ (k : Int) < (c.xs.length : Int) := by omega
      obtain ⟨_, a1, _, a3, _, _, _, a7, _⟩ := HCC.out _ hB.out
      rw [List.take_of_length_le (by omega)]
      go_wp2_with (go_at_call 72; refine (linear_any _ _ _ _ hop).mono ?_; rintro e w' ⟨rfl, rfl⟩)
      go_ret
      exact ⟨ret_bool hres.out.symm, HB.out.trans (hB.out.mono HB.out.size)⟩
end Go.Proofs.YtmhfabnpfkkbcaaGreat
