/-
  Put together: DcForeign6, DcForeign8, DcForeign9.
-/
import Derived.Test.YtdfbmfikhccajaaGreatDoorJ10
import Derived.BigGuardPart
namespace Go.Proofs.YtdfbmfikhccajaaGreatDoor.Doc
open Go.RowKit

set_option maxRecDepth 10000 in
set_option maxHeartbeats 40000000 in
theorem foreign_6 (c : Md.Cn) (vt vx vb vr : Value) (w : World) (h : CnAt w c vt vx vb vr) (hk : c.kind = 6) : Calls Tryz.prog 77 #[cnVal c vt vx vb vr] w fun e w' => e = .returned (.bool (Md.plainBad c || Md.listBad c)) ∧ Below w.heap.size w w' := by
  obtain ⟨ta, tc, rfl, _⟩ := id h.t
  obtain ⟨xa, xc, rfl, hxm, hxo⟩ := id h.x
  obtain ⟨ba, bc, rfl, hbm, hbo⟩ := id h.b
  obtain ⟨ra, rc, rfl, hrm, hro⟩ := id h.r
  unfold maxLen at hxm hbm hrm
  obtain ⟨W, hW⟩ : ∃ W, w.alloc (.cells #[.int .i64 6, .int .i64 c.op, .slice ta c.terms.length tc, .int .i64 c.k, .int .i64 c.v, .int .i64 c.x, .int .i64 c.y, .slice xa c.xs.length xc, .slice ba c.table.length bc, .slice ra c.rows.length rc] 61) = W := ⟨_, rfl⟩
  have hbW : Below w.heap.size w W := by rw [← hW]; exact (Below.refl _ _).alloc (Nat.le_refl _) _
  have HB : Hid (Below w.heap.size w W) := hbW
  have HC : Hid (CnAt W c (.slice ta c.terms.length tc) (.slice xa c.xs.length xc) (.slice ba c.table.length bc) (.slice ra c.rows.length rc)) := h.below hbW
  have HXO : Hid (0 < c.xs.length → ∃ b off, xa = some ⟨b, off, none⟩ ∧ b < w.heap.size ∧ ∀ j (h : j < c.xs.length), w.cell? ⟨b, off + j, none⟩ = some (.int .i64 c.xs[j])) := hxo
  have HBO : Hid (0 < c.table.length → ∃ b off, ba = some ⟨b, off, none⟩ ∧ b < w.heap.size ∧ ∀ j (h : j < c.table.length), w.cell? ⟨b, off + j, none⟩ = some (.int .i64 c.table[j])) := hbo
  have HRO : Hid (0 < c.rows.length → ∃ b off, ra = some ⟨b, off, none⟩ ∧ b < w.heap.size ∧ ∀ j (h : j < c.rows.length), ∃ u, w.cell? ⟨b, off + j, none⟩ = some u ∧ IntsAt w u c.rows[j]) := hro
  have c0 : W.cell? ⟨w.heap.size, 0, none⟩ = some (.int .i64 6) := by rw [← hW]; simp
  have c1 : W.cell? ⟨w.heap.size, 1, none⟩ = some (.int .i64 c.op) := by rw [← hW]; simp
  have c2 : W.cell? ⟨w.heap.size, 2, none⟩ = some (.slice ta c.terms.length tc) := by rw [← hW]; simp
  have c3 : W.cell? ⟨w.heap.size, 3, none⟩ = some (.int .i64 c.k) := by rw [← hW]; simp
  have c4 : W.cell? ⟨w.heap.size, 4, none⟩ = some (.int .i64 c.v) := by rw [← hW]; simp
  have c5 : W.cell? ⟨w.heap.size, 5, none⟩ = some (.int .i64 c.x) := by rw [← hW]; simp
  have c6 : W.cell? ⟨w.heap.size, 6, none⟩ = some (.int .i64 c.y) := by rw [← hW]; simp
  have c7 : W.cell? ⟨w.heap.size, 7, none⟩ = some (.slice xa c.xs.length xc) := by rw [← hW]; simp
  have c8 : W.cell? ⟨w.heap.size, 8, none⟩ = some (.slice ba c.table.length bc) := by rw [← hW]; simp
  have c9 : W.cell? ⟨w.heap.size, 9, none⟩ = some (.slice ra c.rows.length rc) := by rw [← hW]; simp
  have hsz : W.heap.size = w.heap.size + 1 := by rw [← hW]; simp
  have hsN : w.heap.size < W.heap.size := by omega
  have HCC : Hid (∀ w', Below W.heap.size W w' → w'.cell? ⟨w.heap.size, 0, none⟩ = some (.int .i64 6) ∧ w'.cell? ⟨w.heap.size, 1, none⟩ = some (.int .i64 c.op) ∧ w'.cell? ⟨w.heap.size, 2, none⟩ = some (.slice ta c.terms.length tc) ∧ w'.cell? ⟨w.heap.size, 3, none⟩ = some (.int .i64 c.k) ∧ w'.cell? ⟨w.heap.size, 4, none⟩ = some (.int .i64 c.v) ∧ w'.cell? ⟨w.heap.size, 5, none⟩ = some (.int .i64 c.x) ∧ w'.cell? ⟨w.heap.size, 6, none⟩ = some (.int .i64 c.y) ∧ w'.cell? ⟨w.heap.size, 7, none⟩ = some (.slice xa c.xs.length xc) ∧ w'.cell? ⟨w.heap.size, 8, none⟩ = some (.slice ba c.table.length bc) ∧ w'.cell? ⟨w.heap.size, 9, none⟩ = some (.slice ra c.rows.length rc)) := fun w' hb => ⟨(hb.cell (p := ⟨w.heap.size, 0, none⟩) hsN).trans c0, (hb.cell (p := ⟨w.heap.size, 1, none⟩) hsN).trans c1, (hb.cell (p := ⟨w.heap.size, 2, none⟩) hsN).trans c2, (hb.cell (p := ⟨w.heap.size, 3, none⟩) hsN).trans c3, (hb.cell (p := ⟨w.heap.size, 4, none⟩) hsN).trans c4, (hb.cell (p := ⟨w.heap.size, 5, none⟩) hsN).trans c5, (hb.cell (p := ⟨w.heap.size, 6, none⟩) hsN).trans c6, (hb.cell (p := ⟨w.heap.size, 7, none⟩) hsN).trans c7, (hb.cell (p := ⟨w.heap.size, 8, none⟩) hsN).trans c8, (hb.cell (p := ⟨w.heap.size, 9, none⟩) hsN).trans c9⟩
  unfold cnVal
  clear h hxo hbo hro hbW hsz
  have hres : Hid ((Md.plainBad c || Md.listBad c) = ((!Md.fOp 6 && c.op != 0) || (!Md.fK 6 && c.k != 0) || (!Md.fV 6 && c.v != 0) || (!Md.fX 6 && c.x != 0) || (!Md.fY 6 && c.y != 0) || ((!Md.fTerms 6 && decide (0 < c.terms.length)) || (!Md.fXs 6 && decide (0 < c.xs.length)) || (!Md.fTable 6 && decide (0 < c.table.length)) || (!Md.fRows 6 && decide (0 < c.rows.length))))) := by
    show _ = _
    unfold Md.plainBad Md.listBad
    rw [hk]
  clear HC HXO HBO HRO HCC
  go_enter Tryz.func77, Tryz.ntmps77
  dsimp only [List.append]
  go_wp2_with (go_at_call 78; refine (lists_any _ _).mono ?_; rintro e w' ⟨rfl, hww⟩; rw [hww, show Md.fXs 6 = true from rfl]; clear hww)
  all_goals
    go_ret
    refine ⟨ret_bool ?_, HB.out⟩
    rw [hres.out]
    clear c0 c1 c2 c3 c4 c5 c6 c7 c8 c9 hW HB hres hsN
    simp [Md.fOp, Md.fK, Md.fV, Md.fX, Md.fY, Md.fTerms, Md.fXs, Md.fTable, Md.fRows, *]
end Go.Proofs.YtdfbmfikhccajaaGreatDoor.Doc

namespace Go.Proofs.YtdfbmfikhccajaaGreatDoor.Doc
open Go.RowKit

set_option maxRecDepth 10000 in
set_option maxHeartbeats 40000000 in
theorem foreign_8 (c : Md.Cn) (vt vx vb vr : Value) (w : World) (h : CnAt w c vt vx vb vr) (hk : c.kind = 8) : Calls Tryz.prog 77 #[cnVal c vt vx vb vr] w fun e w' => e = .returned (.bool (Md.plainBad c || Md.listBad c)) ∧ Below w.heap.size w w' := by
  obtain ⟨ta, tc, rfl, _⟩ := id h.t
  obtain ⟨xa, xc, rfl, hxm, hxo⟩ := id h.x
  obtain ⟨ba, bc, rfl, hbm, hbo⟩ := id h.b
  obtain ⟨ra, rc, rfl, hrm, hro⟩ := id h.r
  unfold maxLen at hxm hbm hrm
  obtain ⟨W, hW⟩ : ∃ W, w.alloc (.cells #[.int .i64 8, .int .i64 c.op, .slice ta c.terms.length tc, .int .i64 c.k, .int .i64 c.v, .int .i64 c.x, .int .i64 c.y, .slice xa c.xs.length xc, .slice ba c.table.length bc, .slice ra c.rows.length rc] 61) = W := ⟨_, rfl⟩
  have hbW : Below w.heap.size w W := by rw [← hW]; exact (Below.refl _ _).alloc (Nat.le_refl _) _
  have HB : Hid (Below w.heap.size w W) := hbW
  have HC : Hid (CnAt W c (.slice ta c.terms.length tc) (.slice xa c.xs.length xc) (.slice ba c.table.length bc) (.slice ra c.rows.length rc)) := h.below hbW
  have HXO : Hid (0 < c.xs.length → ∃ b off, xa = some ⟨b, off, none⟩ ∧ b < w.heap.size ∧ ∀ j (h : j < c.xs.length), w.cell? ⟨b, off + j, none⟩ = some (.int .i64 c.xs[j])) := hxo
  have HBO : Hid (0 < c.table.length → ∃ b off, ba = some ⟨b, off, none⟩ ∧ b < w.heap.size ∧ ∀ j (h : j < c.table.length), w.cell? ⟨b, off + j, none⟩ = some (.int .i64 c.table[j])) := hbo
  have HRO : Hid (0 < c.rows.length → ∃ b off, ra = some ⟨b, off, none⟩ ∧ b < w.heap.size ∧ ∀ j (h : j < c.rows.length), ∃ u, w.cell? ⟨b, off + j, none⟩ = some u ∧ IntsAt w u c.rows[j]) := hro
  have c0 : W.cell? ⟨w.heap.size, 0, none⟩ = some (.int .i64 8) := by rw [← hW]; simp
  have c1 : W.cell? ⟨w.heap.size, 1, none⟩ = some (.int .i64 c.op) := by rw [← hW]; simp
  have c2 : W.cell? ⟨w.heap.size, 2, none⟩ = some (.slice ta c.terms.length tc) := by rw [← hW]; simp
  have c3 : W.cell? ⟨w.heap.size, 3, none⟩ = some (.int .i64 c.k) := by rw [← hW]; simp
  have c4 : W.cell? ⟨w.heap.size, 4, none⟩ = some (.int .i64 c.v) := by rw [← hW]; simp
  have c5 : W.cell? ⟨w.heap.size, 5, none⟩ = some (.int .i64 c.x) := by rw [← hW]; simp
  have c6 : W.cell? ⟨w.heap.size, 6, none⟩ = some (.int .i64 c.y) := by rw [← hW]; simp
  have c7 : W.cell? ⟨w.heap.size, 7, none⟩ = some (.slice xa c.xs.length xc) := by rw [← hW]; simp
  have c8 : W.cell? ⟨w.heap.size, 8, none⟩ = some (.slice ba c.table.length bc) := by rw [← hW]; simp
  have c9 : W.cell? ⟨w.heap.size, 9, none⟩ = some (.slice ra c.rows.length rc) := by rw [← hW]; simp
  have hsz : W.heap.size = w.heap.size + 1 := by rw [← hW]; simp
  have hsN : w.heap.size < W.heap.size := by omega
  have HCC : Hid (∀ w', Below W.heap.size W w' → w'.cell? ⟨w.heap.size, 0, none⟩ = some (.int .i64 8) ∧ w'.cell? ⟨w.heap.size, 1, none⟩ = some (.int .i64 c.op) ∧ w'.cell? ⟨w.heap.size, 2, none⟩ = some (.slice ta c.terms.length tc) ∧ w'.cell? ⟨w.heap.size, 3, none⟩ = some (.int .i64 c.k) ∧ w'.cell? ⟨w.heap.size, 4, none⟩ = some (.int .i64 c.v) ∧ w'.cell? ⟨w.heap.size, 5, none⟩ = some (.int .i64 c.x) ∧ w'.cell? ⟨w.heap.size, 6, none⟩ = some (.int .i64 c.y) ∧ w'.cell? ⟨w.heap.size, 7, none⟩ = some (.slice xa c.xs.length xc) ∧ w'.cell? ⟨w.heap.size, 8, none⟩ = some (.slice ba c.table.length bc) ∧ w'.cell? ⟨w.heap.size, 9, none⟩ = some (.slice ra c.rows.length rc)) := fun w' hb => ⟨(hb.cell (p := ⟨w.heap.size, 0, none⟩) hsN).trans c0, (hb.cell (p := ⟨w.heap.size, 1, none⟩) hsN).trans c1, (hb.cell (p := ⟨w.heap.size, 2, none⟩) hsN).trans c2, (hb.cell (p := ⟨w.heap.size, 3, none⟩) hsN).trans c3, (hb.cell (p := ⟨w.heap.size, 4, none⟩) hsN).trans c4, (hb.cell (p := ⟨w.heap.size, 5, none⟩) hsN).trans c5, (hb.cell (p := ⟨w.heap.size, 6, none⟩) hsN).trans c6, (hb.cell (p := ⟨w.heap.size, 7, none⟩) hsN).trans c7, (hb.cell (p := ⟨w.heap.size, 8, none⟩) hsN).trans c8, (hb.cell (p := ⟨w.heap.size, 9, none⟩) hsN).trans c9⟩
  unfold cnVal
  clear h hxo hbo hro hbW hsz
  have hres : Hid ((Md.plainBad c || Md.listBad c) = ((!Md.fOp 8 && c.op != 0) || (!Md.fK 8 && c.k != 0) || (!Md.fV 8 && c.v != 0) || (!Md.fX 8 && c.x != 0) || (!Md.fY 8 && c.y != 0) || ((!Md.fTerms 8 && decide (0 < c.terms.length)) || (!Md.fXs 8 && decide (0 < c.xs.length)) || (!Md.fTable 8 && decide (0 < c.table.length)) || (!Md.fRows 8 && decide (0 < c.rows.length))))) := by
    show _ = _
    unfold Md.plainBad Md.listBad
    rw [hk]
  clear HC HXO HBO HRO HCC
  go_enter Tryz.func77, Tryz.ntmps77
  dsimp only [List.append]
  go_wp2_with (go_at_call 78; refine (lists_any _ _).mono ?_; rintro e w' ⟨rfl, hww⟩; rw [hww, show Md.fXs 8 = true from rfl]; clear hww)
  all_goals
    go_ret
    refine ⟨ret_bool ?_, HB.out⟩
    rw [hres.out]
    clear c0 c1 c2 c3 c4 c5 c6 c7 c8 c9 hW HB hres hsN
    simp [Md.fOp, Md.fK, Md.fV, Md.fX, Md.fY, Md.fTerms, Md.fXs, Md.fTable, Md.fRows, *]
end Go.Proofs.YtdfbmfikhccajaaGreatDoor.Doc

namespace Go.Proofs.YtdfbmfikhccajaaGreatDoor.Doc
open Go.RowKit

set_option maxRecDepth 10000 in
set_option maxHeartbeats 40000000 in
theorem foreign_9 (c : Md.Cn) (vt vx vb vr : Value) (w : World) (h : CnAt w c vt vx vb vr) (hk : c.kind = 9) : Calls Tryz.prog 77 #[cnVal c vt vx vb vr] w fun e w' => e = .returned (.bool (Md.plainBad c || Md.listBad c)) ∧ Below w.heap.size w w' := by
  obtain ⟨ta, tc, rfl, _⟩ := id h.t
  obtain ⟨xa, xc, rfl, hxm, hxo⟩ := id h.x
  obtain ⟨ba, bc, rfl, hbm, hbo⟩ := id h.b
  obtain ⟨ra, rc, rfl, hrm, hro⟩ := id h.r
  unfold maxLen at hxm hbm hrm
  obtain ⟨W, hW⟩ : ∃ W, w.alloc (.cells #[.int .i64 9, .int .i64 c.op, .slice ta c.terms.length tc, .int .i64 c.k, .int .i64 c.v, .int .i64 c.x, .int .i64 c.y, .slice xa c.xs.length xc, .slice ba c.table.length bc, .slice ra c.rows.length rc] 61) = W := ⟨_, rfl⟩
  have hbW : Below w.heap.size w W := by rw [← hW]; exact (Below.refl _ _).alloc (Nat.le_refl _) _
  have HB : Hid (Below w.heap.size w W) := hbW
  have HC : Hid (CnAt W c (.slice ta c.terms.length tc) (.slice xa c.xs.length xc) (.slice ba c.table.length bc) (.slice ra c.rows.length rc)) := h.below hbW
  have HXO : Hid (0 < c.xs.length → ∃ b off, xa = some ⟨b, off, none⟩ ∧ b < w.heap.size ∧ ∀ j (h : j < c.xs.length), w.cell? ⟨b, off + j, none⟩ = some (.int .i64 c.xs[j])) := hxo
  have HBO : Hid (0 < c.table.length → ∃ b off, ba = some ⟨b, off, none⟩ ∧ b < w.heap.size ∧ ∀ j (h : j < c.table.length), w.cell? ⟨b, off + j, none⟩ = some (.int .i64 c.table[j])) := hbo
  have HRO : Hid (0 < c.rows.length → ∃ b off, ra = some ⟨b, off, none⟩ ∧ b < w.heap.size ∧ ∀ j (h : j < c.rows.length), ∃ u, w.cell? ⟨b, off + j, none⟩ = some u ∧ IntsAt w u c.rows[j]) := hro
  have c0 : W.cell? ⟨w.heap.size, 0, none⟩ = some (.int .i64 9) := by rw [← hW]; simp
  have c1 : W.cell? ⟨w.heap.size, 1, none⟩ = some (.int .i64 c.op) := by rw [← hW]; simp
  have c2 : W.cell? ⟨w.heap.size, 2, none⟩ = some (.slice ta c.terms.length tc) := by rw [← hW]; simp
  have c3 : W.cell? ⟨w.heap.size, 3, none⟩ = some (.int .i64 c.k) := by rw [← hW]; simp
  have c4 : W.cell? ⟨w.heap.size, 4, none⟩ = some (.int .i64 c.v) := by rw [← hW]; simp
  have c5 : W.cell? ⟨w.heap.size, 5, none⟩ = some (.int .i64 c.x) := by rw [← hW]; simp
  have c6 : W.cell? ⟨w.heap.size, 6, none⟩ = some (.int .i64 c.y) := by rw [← hW]; simp
  have c7 : W.cell? ⟨w.heap.size, 7, none⟩ = some (.slice xa c.xs.length xc) := by rw [← hW]; simp
  have c8 : W.cell? ⟨w.heap.size, 8, none⟩ = some (.slice ba c.table.length bc) := by rw [← hW]; simp
  have c9 : W.cell? ⟨w.heap.size, 9, none⟩ = some (.slice ra c.rows.length rc) := by rw [← hW]; simp
  have hsz : W.heap.size = w.heap.size + 1 := by rw [← hW]; simp
  have hsN : w.heap.size < W.heap.size := by omega
  have HCC : Hid (∀ w', Below W.heap.size W w' → w'.cell? ⟨w.heap.size, 0, none⟩ = some (.int .i64 9) ∧ w'.cell? ⟨w.heap.size, 1, none⟩ = some (.int .i64 c.op) ∧ w'.cell? ⟨w.heap.size, 2, none⟩ = some (.slice ta c.terms.length tc) ∧ w'.cell? ⟨w.heap.size, 3, none⟩ = some (.int .i64 c.k) ∧ w'.cell? ⟨w.heap.size, 4, none⟩ = some (.int .i64 c.v) ∧ w'.cell? ⟨w.heap.size, 5, none⟩ = some (.int .i64 c.x) ∧ w'.cell? ⟨w.heap.size, 6, none⟩ = some (.int .i64 c.y) ∧ w'.cell? ⟨w.heap.size, 7, none⟩ = some (.slice xa c.xs.length xc) ∧ w'.cell? ⟨w.heap.size, 8, none⟩ = some (.slice ba c.table.length bc) ∧ w'.cell? ⟨w.heap.size, 9, none⟩ = some (.slice ra c.rows.length rc)) := fun w' hb => ⟨(hb.cell (p := ⟨w.heap.size, 0, none⟩) hsN).trans c0, (hb.cell (p := ⟨w.heap.size, 1, none⟩) hsN).trans c1, (hb.cell (p := ⟨w.heap.size, 2, none⟩) hsN).trans c2, (hb.cell (p := ⟨w.heap.size, 3, none⟩) hsN).trans c3, (hb.cell (p := ⟨w.heap.size, 4, none⟩) hsN).trans c4, (hb.cell (p := ⟨w.heap.size, 5, none⟩) hsN).trans c5, (hb.cell (p := ⟨w.heap.size, 6, none⟩) hsN).trans c6, (hb.cell (p := ⟨w.heap.size, 7, none⟩) hsN).trans c7, (hb.cell (p := ⟨w.heap.size, 8, none⟩) hsN).trans c8, (hb.cell (p := ⟨w.heap.size, 9, none⟩) hsN).trans c9⟩
  unfold cnVal
  clear h hxo hbo hro hbW hsz
  have hres : Hid ((Md.plainBad c || Md.listBad c) = ((!Md.fOp 9 && c.op != 0) || (!Md.fK 9 && c.k != 0) || (!Md.fV 9 && c.v != 0) || (!Md.fX 9 && c.x != 0) || (!Md.fY 9 && c.y != 0) || ((!Md.fTerms 9 && decide (0 < c.terms.length)) || (!Md.fXs 9 && decide (0 < c.xs.length)) || (!Md.fTable 9 && decide (0 < c.table.length)) || (!Md.fRows 9 && decide (0 < c.rows.length))))) := by
    show _ = _
    unfold Md.plainBad Md.listBad
    rw [hk]
  clear HC HXO HBO HRO HCC
  go_enter Tryz.func77, Tryz.ntmps77
  dsimp only [List.append]
  go_wp2_with (go_at_call 78; refine (lists_any _ _).mono ?_; rintro e w' ⟨rfl, hww⟩; rw [hww, show Md.fXs 9 = true from rfl]; clear hww)
  all_goals
    go_ret
    refine ⟨ret_bool ?_, HB.out⟩
    rw [hres.out]
    clear c0 c1 c2 c3 c4 c5 c6 c7 c8 c9 hW HB hres hsN
    simp [Md.fOp, Md.fK, Md.fV, Md.fX, Md.fY, Md.fTerms, Md.fXs, Md.fTable, Md.fRows, *]
end Go.Proofs.YtdfbmfikhccajaaGreatDoor.Doc
