/-
  Put together: DcForeign2, DcForeign3, DcForeign4, DcForeign5, DcForeign7.
-/
import Derived.Test.YtdfbmfikhccajaaGreatDoorJ10
import Derived.BigGuardPart
namespace Go.Proofs.YtdfbmfikhccajaaGreatDoor.Doc
open Go.RowKit

set_option maxRecDepth 10000 in
set_option maxHeartbeats 40000000 in
theorem foreign_2 (c : Md.Cn) (vt vx vb vr : Value) (w : World) (h : CnAt w c vt vx vb vr) (hk : c.kind = 2) : Calls Tryz.prog 77 #[cnVal c vt vx vb vr] w fun e w' => e = .returned (.bool (Md.plainBad c || Md.listBad c)) ∧ Below w.heap.size w w' := by
  obtain ⟨ta, tc, rfl, _⟩ := id h.t
  obtain ⟨xa, xc, rfl, hxm, hxo⟩ := id h.x
  obtain ⟨ba, bc, rfl, hbm, hbo⟩ := id h.b
  obtain ⟨ra, rc, rfl, hrm, hro⟩ := id h.r
  unfold maxLen at hxm hbm hrm
  obtain ⟨W, hW⟩ : ∃ W, w.alloc (.cells #[.int .i64 2, .int .i64 c.op, .slice ta c.terms.length tc, .int .i64 c.k, .int .i64 c.v, .int .i64 c.x, .int .i64 c.y, .slice xa c.xs.length xc, .slice ba c.table.length bc, .slice ra c.rows.length rc] 61) = W := ⟨_, rfl⟩
  have hbW : Below w.heap.size w W := by rw [← hW]; exact (Below.refl _ _).alloc (Nat.le_refl _) _
  have HB : Hid (Below w.heap.size w W) := hbW
  have HC : Hid (CnAt W c (.slice ta c.terms.length tc) (.slice xa c.xs.length xc) (.slice ba c.table.length bc) (.slice ra c.rows.length rc)) := h.below hbW
  have HXO : Hid (0 < c.xs.length → ∃ b off, xa = some ⟨b, off, none⟩ ∧ b < w.heap.size ∧ ∀ j (h : j < c.xs.length), w.cell? ⟨b, off + j, none⟩ = some (.int .i64 c.xs[j])) := hxo
  have HBO : Hid (0 < c.table.length → ∃ b off, ba = some ⟨b, off, none⟩ ∧ b < w.heap.size ∧ ∀ j (h : j < c.table.length), w.cell? ⟨b, off + j, none⟩ = some (.int .i64 c.table[j])) := hbo
  have HRO : Hid (0 < c.rows.length → ∃ b off, ra = some ⟨b, off, none⟩ ∧ b < w.heap.size ∧ ∀ j (h : j < c.rows.length), ∃ u, w.cell? ⟨b, off + j, none⟩ = some u ∧ IntsAt w u c.rows[j]) := hro
  have c0 : W.cell? ⟨w.heap.size, 0, none⟩ = some (.int .i64 2) := by rw [← hW]; simp
  have c1 : W.cell? ⟨w.heap.size, 1, none⟩ = some (.int .i64 c.op) := by rw [← hW]; simp
  have c2 : W.cell? ⟨w.heap.size, 2, none⟩ = some (.slice ta c.terms.length tc) := by rw [← hW]; simp
  have c3 : W.cell? ⟨w.heap.size, 3, none⟩ = some (.int .i64 c.k) := by rw [← hW]; simp
  have c4 : W.cell? ⟨w.heap.size, 4, none⟩ = some (.int .i64 c.v) := by rw [← hW]; simp
  have c5 : W.cell? ⟨w.heap.size, 5, none⟩ = some (.int .i64 c.x) := by rw [← hW]; simp
  have c6 : W.cell? ⟨w.heap.size, 6, none⟩ = some (.int .i64 c.y) := by rw [← hW]; simp
  have c7 : W.cell? ⟨w.heap.size, 7, none⟩ = some (.slice xa c.xs.length xc) := by rw [← hW]; simp
  have c8 : W.cell? ⟨w.heap.size, 8, none⟩ = some (.slice ba c.table.length bc) := by rw [← hW]; simp
  have c9 : W.cell? ⟨w.heap.size, 9, none⟩ = some (.slice ra c.rows.length rc) := by rw [← hW]; simp
  have hsz : W.heap.size = w.heap.size + 1 := by rw [← hW]; simp
  have hsN : w.heap.size < W.heap.size := by omega
  have HCC : Hid (∀ w', Below W.heap.size W w' → w'.cell? ⟨w.heap.size, 0, none⟩ = some (.int .i64 2) ∧ w'.cell? ⟨w.heap.size, 1, none⟩ = some (.int .i64 c.op) ∧ w'.cell? ⟨w.heap.size, 2, none⟩ = some (.slice ta c.terms.length tc) ∧ w'.cell? ⟨w.heap.size, 3, none⟩ = some (.int .i64 c.k) ∧ w'.cell? ⟨w.heap.size, 4, none⟩ = some (.int .i64 c.v) ∧ w'.cell? ⟨w.heap.size, 5, none⟩ = some (.int .i64 c.x) ∧ w'.cell? ⟨w.heap.size, 6, none⟩ = some (.int .i64 c.y) ∧ w'.cell? ⟨w.heap.size, 7, none⟩ = some (.slice xa c.xs.length xc) ∧ w'.cell? ⟨w.heap.size, 8, none⟩ = some (.slice ba c.table.length bc) ∧ w'.cell? ⟨w.heap.size, 9, none⟩ = some (.slice ra c.rows.length rc)) := fun w' hb => ⟨(hb.cell (p := ⟨w.heap.size, 0, none⟩) hsN).trans c0, (hb.cell (p := ⟨w.heap.size, 1, none⟩) hsN).trans c1, (hb.cell (p := ⟨w.heap.size, 2, none⟩) hsN).trans c2, (hb.cell (p := ⟨w.heap.size, 3, none⟩) hsN).trans c3, (hb.cell (p := ⟨w.heap.size, 4, none⟩) hsN).trans c4, (hb.cell (p := ⟨w.heap.size, 5, none⟩) hsN).trans c5, (hb.cell (p := ⟨w.heap.size, 6, none⟩) hsN).trans c6, (hb.cell (p := ⟨w.heap.size, 7, none⟩) hsN).trans c7, (hb.cell (p := ⟨w.heap.size, 8, none⟩) hsN).trans c8, (hb.cell (p := ⟨w.heap.size, 9, none⟩) hsN).trans c9⟩
  unfold cnVal
  clear h hxo hbo hro hbW hsz
  have hres : Hid ((Md.plainBad c || Md.listBad c) = ((!Md.fOp 2 && c.op != 0) || (!Md.fK 2 && c.k != 0) || (!Md.fV 2 && c.v != 0) || (!Md.fX 2 && c.x != 0) || (!Md.fY 2 && c.y != 0) || ((!Md.fTerms 2 && decide (0 < c.terms.length)) || (!Md.fXs 2 && decide (0 < c.xs.length)) || (!Md.fTable 2 && decide (0 < c.table.length)) || (!Md.fRows 2 && decide (0 < c.rows.length))))) := by
    show _ = _
    unfold Md.plainBad Md.listBad
    rw [hk]
  clear HC HXO HBO HRO HCC
  go_enter Tryz.func77, Tryz.ntmps77
  dsimp only [List.append]
  go_wp2_with (go_at_call 78; refine (lists_any _ _).mono ?_; rintro e w' ⟨rfl, hww⟩; rw [hww, show Md.fXs 2 = false from rfl]; clear hww)
  all_goals
    go_ret
    refine ⟨ret_bool ?_, HB.out⟩
    rw [hres.out]
    clear c0 c1 c2 c3 c4 c5 c6 c7 c8 c9 hW HB hres hsN
    simp [Md.fOp, Md.fK, Md.fV, Md.fX, Md.fY, Md.fTerms, Md.fXs, Md.fTable, Md.fRows, *]
end Go.Proofs.YtdfbmfikhccajaaGreatDoor.Doc

namespace Go.Proofs.YtdfbmfikhccajaaGreatDoor.Doc
open Go.RowKit

set_option maxRecDepth 10000 in
set_option maxHeartbeats 40000000 in
theorem foreign_3 (c : Md.Cn) (vt vx vb vr : Value) (w : World) (h : CnAt w c vt vx vb vr) (hk : c.kind = 3) : Calls Tryz.prog 77 #[cnVal c vt vx vb vr] w fun e w' => e = .returned (.bool (Md.plainBad c || Md.listBad c)) ∧ Below w.heap.size w w' := by
  obtain ⟨ta, tc, rfl, _⟩ := id h.t
  obtain ⟨xa, xc, rfl, hxm, hxo⟩ := id h.x
  obtain ⟨ba, bc, rfl, hbm, hbo⟩ := id h.b
  obtain ⟨ra, rc, rfl, hrm, hro⟩ := id h.r
  unfold maxLen at hxm hbm hrm
  obtain ⟨W, hW⟩ : ∃ W, w.alloc (.cells #[.int .i64 3, .int .i64 c.op, .slice ta c.terms.length tc, .int .i64 c.k, .int .i64 c.v, .int .i64 c.x, .int .i64 c.y, .slice xa c.xs.length xc, .slice ba c.table.length bc, .slice ra c.rows.length rc] 61) = W := ⟨_, rfl⟩
  have hbW : Below w.heap.size w W := by rw [← hW]; exact (Below.refl _ _).alloc (Nat.le_refl _) _
  have HB : Hid (Below w.heap.size w W) := hbW
  have HC : Hid (CnAt W c (.slice ta c.terms.length tc) (.slice xa c.xs.length xc) (.slice ba c.table.length bc) (.slice ra c.rows.length rc)) := h.below hbW
  have HXO : Hid (0 < c.xs.length → ∃ b off, xa = some ⟨b, off, none⟩ ∧ b < w.heap.size ∧ ∀ j (h : j < c.xs.length), w.cell? ⟨b, off + j, none⟩ = some (.int .i64 c.xs[j])) := hxo
  have HBO : Hid (0 < c.table.length → ∃ b off, ba = some ⟨b, off, none⟩ ∧ b < w.heap.size ∧ ∀ j (h : j < c.table.length), w.cell? ⟨b, off + j, none⟩ = some (.int .i64 c.table[j])) := hbo
  have HRO : Hid (0 < c.rows.length → ∃ b off, ra = some ⟨b, off, none⟩ ∧ b < w.heap.size ∧ ∀ j (h : j < c.rows.length), ∃ u, w.cell? ⟨b, off + j, none⟩ = some u ∧ IntsAt w u c.rows[j]) := hro
  have c0 : W.cell? ⟨w.heap.size, 0, none⟩ = some (.int .i64 3) := by rw [← hW]; simp
  have c1 : W.cell? ⟨w.heap.size, 1, none⟩ = some (.int .i64 c.op) := by rw [← hW]; simp
  have c2 : W.cell? ⟨w.heap.size, 2, none⟩ = some (.slice ta c.terms.length tc) := by rw [← hW]; simp
  have c3 : W.cell? ⟨w.heap.size, 3, none⟩ = some (.int .i64 c.k) := by rw [← hW]; simp
  have c4 : W.cell? ⟨w.heap.size, 4, none⟩ = some (.int .i64 c.v) := by rw [← hW]; simp
  have c5 : W.cell? ⟨w.heap.size, 5, none⟩ = some (.int .i64 c.x) := by rw [← hW]; simp
  have c6 : W.cell? ⟨w.heap.size, 6, none⟩ = some (.int .i64 c.y) := by rw [← hW]; simp
  have c7 : W.cell? ⟨w.heap.size, 7, none⟩ = some (.slice xa c.xs.length xc) := by rw [← hW]; simp
  have c8 : W.cell? ⟨w.heap.size, 8, none⟩ = some (.slice ba c.table.length bc) := by rw [← hW]; simp
  have c9 : W.cell? ⟨w.heap.size, 9, none⟩ = some (.slice ra c.rows.length rc) := by rw [← hW]; simp
  have hsz : W.heap.size = w.heap.size + 1 := by rw [← hW]; simp
  have hsN : w.heap.size < W.heap.size := by omega
  have HCC : Hid (∀ w', Below W.heap.size W w' → w'.cell? ⟨w.heap.size, 0, none⟩ = some (.int .i64 3) ∧ w'.cell? ⟨w.heap.size, 1, none⟩ = some (.int .i64 c.op) ∧ w'.cell? ⟨w.heap.size, 2, none⟩ = some (.slice ta c.terms.length tc) ∧ w'.cell? ⟨w.heap.size, 3, none⟩ = some (.int .i64 c.k) ∧ w'.cell? ⟨w.heap.size, 4, none⟩ = some (.int .i64 c.v) ∧ w'.cell? ⟨w.heap.size, 5, none⟩ = some (.int .i64 c.x) ∧ w'.cell? ⟨w.heap.size, 6, none⟩ = some (.int .i64 c.y) ∧ w'.cell? ⟨w.heap.size, 7, none⟩ = some (.slice xa c.xs.length xc) ∧ w'.cell? ⟨w.heap.size, 8, none⟩ = some (.slice ba c.table.length bc) ∧ w'.cell? ⟨w.heap.size, 9, none⟩ = some (.slice ra c.rows.length rc)) := fun w' hb => ⟨(hb.cell (p := ⟨w.heap.size, 0, none⟩) hsN).trans c0, (hb.cell (p := ⟨w.heap.size, 1, none⟩) hsN).trans c1, (hb.cell (p := ⟨w.heap.size, 2, none⟩) hsN).trans c2, (hb.cell (p := ⟨w.heap.size, 3, none⟩) hsN).trans c3, (hb.cell (p := ⟨w.heap.size, 4, none⟩) hsN).trans c4, (hb.cell (p := ⟨w.heap.size, 5, none⟩) hsN).trans c5, (hb.cell (p := ⟨w.heap.size, 6, none⟩) hsN).trans c6, (hb.cell (p := ⟨w.heap.size, 7, none⟩) hsN).trans c7, (hb.cell (p := ⟨w.heap.size, 8, none⟩) hsN).trans c8, (hb.cell (p := ⟨w.heap.size, 9, none⟩) hsN).trans c9⟩
  unfold cnVal
  clear h hxo hbo hro hbW hsz
  have hres : Hid ((Md.plainBad c || Md.listBad c) = ((!Md.fOp 3 && c.op != 0) || (!Md.fK 3 && c.k != 0) || (!Md.fV 3 && c.v != 0) || (!Md.fX 3 && c.x != 0) || (!Md.fY 3 && c.y != 0) || ((!Md.fTerms 3 && decide (0 < c.terms.length)) || (!Md.fXs 3 && decide (0 < c.xs.length)) || (!Md.fTable 3 && decide (0 < c.table.length)) || (!Md.fRows 3 && decide (0 < c.rows.length))))) := by
    show _ = _
    unfold Md.plainBad Md.listBad
    rw [hk]
  clear HC HXO HBO HRO HCC
  go_enter Tryz.func77, Tryz.ntmps77
  dsimp only [List.append]
  go_wp2_with (go_at_call 78; refine (lists_any _ _).mono ?_; rintro e w' ⟨rfl, hww⟩; rw [hww, show Md.fXs 3 = true from rfl]; clear hww)
  all_goals
    go_ret
    refine ⟨ret_bool ?_, HB.out⟩
    rw [hres.out]
    clear c0 c1 c2 c3 c4 c5 c6 c7 c8 c9 hW HB hres hsN
    simp [Md.fOp, Md.fK, Md.fV, Md.fX, Md.fY, Md.fTerms, Md.fXs, Md.fTable, Md.fRows, *]
end Go.Proofs.YtdfbmfikhccajaaGreatDoor.Doc

namespace Go.Proofs.YtdfbmfikhccajaaGreatDoor.Doc
open Go.RowKit

set_option maxRecDepth 10000 in
set_option maxHeartbeats 40000000 in
theorem foreign_4 (c : Md.Cn) (vt vx vb vr : Value) (w : World) (h : CnAt w c vt vx vb vr) (hk : c.kind = 4) : Calls Tryz.prog 77 #[cnVal c vt vx vb vr] w fun e w' => e = .returned (.bool (Md.plainBad c || Md.listBad c)) ∧ Below w.heap.size w w' := by
  obtain ⟨ta, tc, rfl, _⟩ := id h.t
  obtain ⟨xa, xc, rfl, hxm, hxo⟩ := id h.x
  obtain ⟨ba, bc, rfl, hbm, hbo⟩ := id h.b
  obtain ⟨ra, rc, rfl, hrm, hro⟩ := id h.r
  unfold maxLen at hxm hbm hrm
  obtain ⟨W, hW⟩ : ∃ W, w.alloc (.cells #[.int .i64 4, .int .i64 c.op, .slice ta c.terms.length tc, .int .i64 c.k, .int .i64 c.v, .int .i64 c.x, .int .i64 c.y, .slice xa c.xs.length xc, .slice ba c.table.length bc, .slice ra c.rows.length rc] 61) = W := ⟨_, rfl⟩
  have hbW : Below w.heap.size w W := by rw [← hW]; exact (Below.refl _ _).alloc (Nat.le_refl _) _
  have HB : Hid (Below w.heap.size w W) := hbW
  have HC : Hid (CnAt W c (.slice ta c.terms.length tc) (.slice xa c.xs.length xc) (.slice ba c.table.length bc) (.slice ra c.rows.length rc)) := h.below hbW
  have HXO : Hid (0 < c.xs.length → ∃ b off, xa = some ⟨b, off, none⟩ ∧ b < w.heap.size ∧ ∀ j (h : j < c.xs.length), w.cell? ⟨b, off + j, none⟩ = some (.int .i64 c.xs[j])) := hxo
  have HBO : Hid (0 < c.table.length → ∃ b off, ba = some ⟨b, off, none⟩ ∧ b < w.heap.size ∧ ∀ j (h : j < c.table.length), w.cell? ⟨b, off + j, none⟩ = some (.int .i64 c.table[j])) := hbo
  have HRO : Hid (0 < c.rows.length → ∃ b off, ra = some ⟨b, off, none⟩ ∧ b < w.heap.size ∧ ∀ j (h : j < c.rows.length), ∃ u, w.cell? ⟨b, off + j, none⟩ = some u ∧ IntsAt w u c.rows[j]) := hro
  have c0 : W.cell? ⟨w.heap.size, 0, none⟩ = some (.int .i64 4) := by rw [← hW]; simp
  have c1 : W.cell? ⟨w.heap.size, 1, none⟩ = some (.int .i64 c.op) := by rw [← hW]; simp
  have c2 : W.cell? ⟨w.heap.size, 2, none⟩ = some (.slice ta c.terms.length tc) := by rw [← hW]; simp
  have c3 : W.cell? ⟨w.heap.size, 3, none⟩ = some (.int .i64 c.k) := by rw [← hW]; simp
  have c4 : W.cell? ⟨w.heap.size, 4, none⟩ = some (.int .i64 c.v) := by rw [← hW]; simp
  have c5 : W.cell? ⟨w.heap.size, 5, none⟩ = some (.int .i64 c.x) := by rw [← hW]; simp
  have c6 : W.cell? ⟨w.heap.size, 6, none⟩ = some (.int .i64 c.y) := by rw [← hW]; simp
  have c7 : W.cell? ⟨w.heap.size, 7, none⟩ = some (.slice xa c.xs.length xc) := by rw [← hW]; simp
  have c8 : W.cell? ⟨w.heap.size, 8, none⟩ = some (.slice ba c.table.length bc) := by rw [← hW]; simp
  have c9 : W.cell? ⟨w.heap.size, 9, none⟩ = some (.slice ra c.rows.length rc) := by rw [← hW]; simp
  have hsz : W.heap.size = w.heap.size + 1 := by rw [← hW]; simp
  have hsN : w.heap.size < W.heap.size := by omega
  have HCC : Hid (∀ w', Below W.heap.size W w' → w'.cell? ⟨w.heap.size, 0, none⟩ = some (.int .i64 4) ∧ w'.cell? ⟨w.heap.size, 1, none⟩ = some (.int .i64 c.op) ∧ w'.cell? ⟨w.heap.size, 2, none⟩ = some (.slice ta c.terms.length tc) ∧ w'.cell? ⟨w.heap.size, 3, none⟩ = some (.int .i64 c.k) ∧ w'.cell? ⟨w.heap.size, 4, none⟩ = some (.int .i64 c.v) ∧ w'.cell? ⟨w.heap.size, 5, none⟩ = some (.int .i64 c.x) ∧ w'.cell? ⟨w.heap.size, 6, none⟩ = some (.int .i64 c.y) ∧ w'.cell? ⟨w.heap.size, 7, none⟩ = some (.slice xa c.xs.length xc) ∧ w'.cell? ⟨w.heap.size, 8, none⟩ = some (.slice ba c.table.length bc) ∧ w'.cell? ⟨w.heap.size, 9, none⟩ = some (.slice ra c.rows.length rc)) := fun w' hb => ⟨(hb.cell (p := ⟨w.heap.size, 0, none⟩) hsN).trans c0, (hb.cell (p := ⟨w.heap.size, 1, none⟩) hsN).trans c1, (hb.cell (p := ⟨w.heap.size, 2, none⟩) hsN).trans c2, (hb.cell (p := ⟨w.heap.size, 3, none⟩) hsN).trans c3, (hb.cell (p := ⟨w.heap.size, 4, none⟩) hsN).trans c4, (hb.cell (p := ⟨w.heap.size, 5, none⟩) hsN).trans c5, (hb.cell (p := ⟨w.heap.size, 6, none⟩) hsN).trans c6, (hb.cell (p := ⟨w.heap.size, 7, none⟩) hsN).trans c7, (hb.cell (p := ⟨w.heap.size, 8, none⟩) hsN).trans c8, (hb.cell (p := ⟨w.heap.size, 9, none⟩) hsN).trans c9⟩
  unfold cnVal
  clear h hxo hbo hro hbW hsz
  have hres : Hid ((Md.plainBad c || Md.listBad c) = ((!Md.fOp 4 && c.op != 0) || (!Md.fK 4 && c.k != 0) || (!Md.fV 4 && c.v != 0) || (!Md.fX 4 && c.x != 0) || (!Md.fY 4 && c.y != 0) || ((!Md.fTerms 4 && decide (0 < c.terms.length)) || (!Md.fXs 4 && decide (0 < c.xs.length)) || (!Md.fTable 4 && decide (0 < c.table.length)) || (!Md.fRows 4 && decide (0 < c.rows.length))))) := by
    show _ = _
    unfold Md.plainBad Md.listBad
    rw [hk]
  clear HC HXO HBO HRO HCC
  go_enter Tryz.func77, Tryz.ntmps77
  dsimp only [List.append]
  go_wp2_with (go_at_call 78; refine (lists_any _ _).mono ?_; rintro e w' ⟨rfl, hww⟩; rw [hww, show Md.fXs 4 = false from rfl]; clear hww)
  all_goals
    go_ret
    refine ⟨ret_bool ?_, HB.out⟩
    rw [hres.out]
    clear c0 c1 c2 c3 c4 c5 c6 c7 c8 c9 hW HB hres hsN
    simp [Md.fOp, Md.fK, Md.fV, Md.fX, Md.fY, Md.fTerms, Md.fXs, Md.fTable, Md.fRows, *]
end Go.Proofs.YtdfbmfikhccajaaGreatDoor.Doc

namespace Go.Proofs.YtdfbmfikhccajaaGreatDoor.Doc
open Go.RowKit

set_option maxRecDepth 10000 in
set_option maxHeartbeats 40000000 in
theorem foreign_5 (c : Md.Cn) (vt vx vb vr : Value) (w : World) (h : CnAt w c vt vx vb vr) (hk : c.kind = 5) : Calls Tryz.prog 77 #[cnVal c vt vx vb vr] w fun e w' => e = .returned (.bool (Md.plainBad c || Md.listBad c)) ∧ Below w.heap.size w w' := by
  obtain ⟨ta, tc, rfl, _⟩ := id h.t
  obtain ⟨xa, xc, rfl, hxm, hxo⟩ := id h.x
  obtain ⟨ba, bc, rfl, hbm, hbo⟩ := id h.b
  obtain ⟨ra, rc, rfl, hrm, hro⟩ := id h.r
  unfold maxLen at hxm hbm hrm
  obtain ⟨W, hW⟩ : ∃ W, w.alloc (.cells #[.int .i64 5, .int .i64 c.op, .slice ta c.terms.length tc, .int .i64 c.k, .int .i64 c.v, .int .i64 c.x, .int .i64 c.y, .slice xa c.xs.length xc, .slice ba c.table.length bc, .slice ra c.rows.length rc] 61) = W := ⟨_, rfl⟩
  have hbW : Below w.heap.size w W := by rw [← hW]; exact (Below.refl _ _).alloc (Nat.le_refl _) _
  have HB : Hid (Below w.heap.size w W) := hbW
  have HC : Hid (CnAt W c (.slice ta c.terms.length tc) (.slice xa c.xs.length xc) (.slice ba c.table.length bc) (.slice ra c.rows.length rc)) := h.below hbW
  have HXO : Hid (0 < c.xs.length → ∃ b off, xa = some ⟨b, off, none⟩ ∧ b < w.heap.size ∧ ∀ j (h : j < c.xs.length), w.cell? ⟨b, off + j, none⟩ = some (.int .i64 c.xs[j])) := hxo
  have HBO : Hid (0 < c.table.length → ∃ b off, ba = some ⟨b, off, none⟩ ∧ b < w.heap.size ∧ ∀ j (h : j < c.table.length), w.cell? ⟨b, off + j, none⟩ = some (.int .i64 c.table[j])) := hbo
  have HRO : Hid (0 < c.rows.length → ∃ b off, ra = some ⟨b, off, none⟩ ∧ b < w.heap.size ∧ ∀ j (h : j < c.rows.length), ∃ u, w.cell? ⟨b, off + j, none⟩ = some u ∧ IntsAt w u c.rows[j]) := hro
  have c0 : W.cell? ⟨w.heap.size, 0, none⟩ = some (.int .i64 5) := by rw [← hW]; simp
  have c1 : W.cell? ⟨w.heap.size, 1, none⟩ = some (.int .i64 c.op) := by rw [← hW]; simp
  have c2 : W.cell? ⟨w.heap.size, 2, none⟩ = some (.slice ta c.terms.length tc) := by rw [← hW]; simp
  have c3 : W.cell? ⟨w.heap.size, 3, none⟩ = some (.int .i64 c.k) := by rw [← hW]; simp
  have c4 : W.cell? ⟨w.heap.size, 4, none⟩ = some (.int .i64 c.v) := by rw [← hW]; simp
  have c5 : W.cell? ⟨w.heap.size, 5, none⟩ = some (.int .i64 c.x) := by rw [← hW]; simp
  have c6 : W.cell? ⟨w.heap.size, 6, none⟩ = some (.int .i64 c.y) := by rw [← hW]; simp
  have c7 : W.cell? ⟨w.heap.size, 7, none⟩ = some (.slice xa c.xs.length xc) := by rw [← hW]; simp
  have c8 : W.cell? ⟨w.heap.size, 8, none⟩ = some (.slice ba c.table.length bc) := by rw [← hW]; simp
  have c9 : W.cell? ⟨w.heap.size, 9, none⟩ = some (.slice ra c.rows.length rc) := by rw [← hW]; simp
  have hsz : W.heap.size = w.heap.size + 1 := by rw [← hW]; simp
  have hsN : w.heap.size < W.heap.size := by omega
  have HCC : Hid (∀ w', Below W.heap.size W w' → w'.cell? ⟨w.heap.size, 0, none⟩ = some (.int .i64 5) ∧ w'.cell? ⟨w.heap.size, 1, none⟩ = some (.int .i64 c.op) ∧ w'.cell? ⟨w.heap.size, 2, none⟩ = some (.slice ta c.terms.length tc) ∧ w'.cell? ⟨w.heap.size, 3, none⟩ = some (.int .i64 c.k) ∧ w'.cell? ⟨w.heap.size, 4, none⟩ = some (.int .i64 c.v) ∧ w'.cell? ⟨w.heap.size, 5, none⟩ = some (.int .i64 c.x) ∧ w'.cell? ⟨w.heap.size, 6, none⟩ = some (.int .i64 c.y) ∧ w'.cell? ⟨w.heap.size, 7, none⟩ = some (.slice xa c.xs.length xc) ∧ w'.cell? ⟨w.heap.size, 8, none⟩ = some (.slice ba c.table.length bc) ∧ w'.cell? ⟨w.heap.size, 9, none⟩ = some (.slice ra c.rows.length rc)) := fun w' hb => ⟨(hb.cell (p := ⟨w.heap.size, 0, none⟩) hsN).trans c0, (hb.cell (p := ⟨w.heap.size, 1, none⟩) hsN).trans c1, (hb.cell (p := ⟨w.heap.size, 2, none⟩) hsN).trans c2, (hb.cell (p := ⟨w.heap.size, 3, none⟩) hsN).trans c3, (hb.cell (p := ⟨w.heap.size, 4, none⟩) hsN).trans c4, (hb.cell (p := ⟨w.heap.size, 5, none⟩) hsN).trans c5, (hb.cell (p := ⟨w.heap.size, 6, none⟩) hsN).trans c6, (hb.cell (p := ⟨w.heap.size, 7, none⟩) hsN).trans c7, (hb.cell (p := ⟨w.heap.size, 8, none⟩) hsN).trans c8, (hb.cell (p := ⟨w.heap.size, 9, none⟩) hsN).trans c9⟩
  unfold cnVal
  clear h hxo hbo hro hbW hsz
  have hres : Hid ((Md.plainBad c || Md.listBad c) = ((!Md.fOp 5 && c.op != 0) || (!Md.fK 5 && c.k != 0) || (!Md.fV 5 && c.v != 0) || (!Md.fX 5 && c.x != 0) || (!Md.fY 5 && c.y != 0) || ((!Md.fTerms 5 && decide (0 < c.terms.length)) || (!Md.fXs 5 && decide (0 < c.xs.length)) || (!Md.fTable 5 && decide (0 < c.table.length)) || (!Md.fRows 5 && decide (0 < c.rows.length))))) := by
    show _ = _
    unfold Md.plainBad Md.listBad
    rw [hk]
  clear HC HXO HBO HRO HCC
  go_enter Tryz.func77, Tryz.ntmps77
  dsimp only [List.append]
  go_wp2_with (go_at_call 78; refine (lists_any _ _).mono ?_; rintro e w' ⟨rfl, hww⟩; rw [hww, show Md.fXs 5 = true from rfl]; clear hww)
  all_goals
    go_ret
    refine ⟨ret_bool ?_, HB.out⟩
    rw [hres.out]
    clear c0 c1 c2 c3 c4 c5 c6 c7 c8 c9 hW HB hres hsN
    simp [Md.fOp, Md.fK, Md.fV, Md.fX, Md.fY, Md.fTerms, Md.fXs, Md.fTable, Md.fRows, *]
end Go.Proofs.YtdfbmfikhccajaaGreatDoor.Doc

namespace Go.Proofs.YtdfbmfikhccajaaGreatDoor.Doc
open Go.RowKit

set_option maxRecDepth 10000 in
set_option maxHeartbeats 40000000 in
theorem foreign_7 (c : Md.Cn) (vt vx vb vr : Value) (w : World) (h : CnAt w c vt vx vb vr) (hk : c.kind = 7) : Calls Tryz.prog 77 #[cnVal c vt vx vb vr] w fun e w' => e = .returned (.bool (Md.plainBad c || Md.listBad c)) ∧ Below w.heap.size w w' := by
  obtain ⟨ta, tc, rfl, _⟩ := id h.t
  obtain ⟨xa, xc, rfl, hxm, hxo⟩ := id h.x
  obtain ⟨ba, bc, rfl, hbm, hbo⟩ := id h.b
  obtain ⟨ra, rc, rfl, hrm, hro⟩ := id h.r
  unfold maxLen at hxm hbm hrm
  obtain ⟨W, hW⟩ : ∃ W, w.alloc (.cells #[.int .i64 7, .int .i64 c.op, .slice ta c.terms.length tc, .int .i64 c.k, .int .i64 c.v, .int .i64 c.x, .int .i64 c.y, .slice xa c.xs.length xc, .slice ba c.table.length bc, .slice ra c.rows.length rc] 61) = W := ⟨_, rfl⟩
  have hbW : Below w.heap.size w W := by rw [← hW]; exact (Below.refl _ _).alloc (Nat.le_refl _) _
  have HB : Hid (Below w.heap.size w W) := hbW
  have HC : Hid (CnAt W c (.slice ta c.terms.length tc) (.slice xa c.xs.length xc) (.slice ba c.table.length bc) (.slice ra c.rows.length rc)) := h.below hbW
  have HXO : Hid (0 < c.xs.length → ∃ b off, xa = some ⟨b, off, none⟩ ∧ b < w.heap.size ∧ ∀ j (h : j < c.xs.length), w.cell? ⟨b, off + j, none⟩ = some (.int .i64 c.xs[j])) := hxo
  have HBO : Hid (0 < c.table.length → ∃ b off, ba = some ⟨b, off, none⟩ ∧ b < w.heap.size ∧ ∀ j (h : j < c.table.length), w.cell? ⟨b, off + j, none⟩ = some (.int .i64 c.table[j])) := hbo
  have HRO : Hid (0 < c.rows.length → ∃ b off, ra = some ⟨b, off, none⟩ ∧ b < w.heap.size ∧ ∀ j (h : j < c.rows.length), ∃ u, w.cell? ⟨b, off + j, none⟩ = some u ∧ IntsAt w u c.rows[j]) := hro
  have c0 : W.cell? ⟨w.heap.size, 0, none⟩ = some (.int .i64 7) := by rw [← hW]; simp
  have c1 : W.cell? ⟨w.heap.size, 1, none⟩ = some (.int .i64 c.op) := by rw [← hW]; simp
  have c2 : W.cell? ⟨w.heap.size, 2, none⟩ = some (.slice ta c.terms.length tc) := by rw [← hW]; simp
  have c3 : W.cell? ⟨w.heap.size, 3, none⟩ = some (.int .i64 c.k) := by rw [← hW]; simp
  have c4 : W.cell? ⟨w.heap.size, 4, none⟩ = some (.int .i64 c.v) := by rw [← hW]; simp
  have c5 : W.cell? ⟨w.heap.size, 5, none⟩ = some (.int .i64 c.x) := by rw [← hW]; simp
  have c6 : W.cell? ⟨w.heap.size, 6, none⟩ = some (.int .i64 c.y) := by rw [← hW]; simp
  have c7 : W.cell? ⟨w.heap.size, 7, none⟩ = some (.slice xa c.xs.length xc) := by rw [← hW]; simp
  have c8 : W.cell? ⟨w.heap.size, 8, none⟩ = some (.slice ba c.table.length bc) := by rw [← hW]; simp
  have c9 : W.cell? ⟨w.heap.size, 9, none⟩ = some (.slice ra c.rows.length rc) := by rw [← hW]; simp
  have hsz : W.heap.size = w.heap.size + 1 := by rw [← hW]; simp
  have hsN : w.heap.size < W.heap.size := by omega
  have HCC : Hid (∀ w', Below W.heap.size W w' → w'.cell? ⟨w.heap.size, 0, none⟩ = some (.int .i64 7) ∧ w'.cell? ⟨w.heap.size, 1, none⟩ = some (.int .i64 c.op) ∧ w'.cell? ⟨w.heap.size, 2, none⟩ = some (.slice ta c.terms.length tc) ∧ w'.cell? ⟨w.heap.size, 3, none⟩ = some (.int .i64 c.k) ∧ w'.cell? ⟨w.heap.size, 4, none⟩ = some (.int .i64 c.v) ∧ w'.cell? ⟨w.heap.size, 5, none⟩ = some (.int .i64 c.x) ∧ w'.cell? ⟨w.heap.size, 6, none⟩ = some (.int .i64 c.y) ∧ w'.cell? ⟨w.heap.size, 7, none⟩ = some (.slice xa c.xs.length xc) ∧ w'.cell? ⟨w.heap.size, 8, none⟩ = some (.slice ba c.table.length bc) ∧ w'.cell? ⟨w.heap.size, 9, none⟩ = some (.slice ra c.rows.length rc)) := fun w' hb => ⟨(hb.cell (p := ⟨w.heap.size, 0, none⟩) hsN).trans c0, (hb.cell (p := ⟨w.heap.size, 1, none⟩) hsN).trans c1, (hb.cell (p := ⟨w.heap.size, 2, none⟩) hsN).trans c2, (hb.cell (p := ⟨w.heap.size, 3, none⟩) hsN).trans c3, (hb.cell (p := ⟨w.heap.size, 4, none⟩) hsN).trans c4, (hb.cell (p := ⟨w.heap.size, 5, none⟩) hsN).trans c5, (hb.cell (p := ⟨w.heap.size, 6, none⟩) hsN).trans c6, (hb.cell (p := ⟨w.heap.size, 7, none⟩) hsN).trans c7, (hb.cell (p := ⟨w.heap.size, 8, none⟩) hsN).trans c8, (hb.cell (p := ⟨w.heap.size, 9, none⟩) hsN).trans c9⟩
  unfold cnVal
  clear h hxo hbo hro hbW hsz
  have hres : Hid ((Md.plainBad c || Md.listBad c) = ((!Md.fOp 7 && c.op != 0) || (!Md.fK 7 && c.k != 0) || (!Md.fV 7 && c.v != 0) || (!Md.fX 7 && c.x != 0) || (!Md.fY 7 && c.y != 0) || ((!Md.fTerms 7 && decide (0 < c.terms.length)) || (!Md.fXs 7 && decide (0 < c.xs.length)) || (!Md.fTable 7 && decide (0 < c.table.length)) || (!Md.fRows 7 && decide (0 < c.rows.length))))) := by
    show _ = _
    unfold Md.plainBad Md.listBad
    rw [hk]
  clear HC HXO HBO HRO HCC
  go_enter Tryz.func77, Tryz.ntmps77
  dsimp only [List.append]
  go_wp2_with (go_at_call 78; refine (lists_any _ _).mono ?_; rintro e w' ⟨rfl, hww⟩; rw [hww, show Md.fXs 7 = false from rfl]; clear hww)
  all_goals
    go_ret
    refine ⟨ret_bool ?_, HB.out⟩
    rw [hres.out]
    clear c0 c1 c2 c3 c4 c5 c6 c7 c8 c9 hW HB hres hsN
    simp [Md.fOp, Md.fK, Md.fV, Md.fX, Md.fY, Md.fTerms, Md.fXs, Md.fTable, Md.fRows, *]
end Go.Proofs.YtdfbmfikhccajaaGreatDoor.Doc
