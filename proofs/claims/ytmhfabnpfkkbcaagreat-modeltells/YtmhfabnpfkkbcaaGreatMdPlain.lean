/-
  Package model: a constraint's plain fields, its lists' lengths, what its kind has.
-/
import Derived.Test.YtmhfabnpfkkbcaaGreatMdPlaces
import Derived.Laws.EntriesVeiled
namespace Go.Proofs.YtmhfabnpfkkbcaaGreat
open Go.RowKit

/-- A plain. -/
def plVal (a b c d e f : Int) : Value := .agg #[.int .i64 a, .int .i64 b, .int .i64 c, .int .i64 d, .int .i64 e, .int .i64 f]
/-- Lengths. -/
def lnVal (a b c d : Nat) : Value := .agg #[.int .i64 (a : Int), .int .i64 (b : Int), .int .i64 (c : Int), .int .i64 (d : Int)]

set_option maxRecDepth 10000 in
set_option maxHeartbeats 400000 in
theorem plainOf_any (c : Md.Cn) (vt vx vb vr : Value) (w : World) (h : CnAt w c vt vx vb vr) : Calls Tryz.prog 96 #[cnVal c vt vx vb vr] w fun e w' => e = .returned (plVal c.kind c.op c.k c.v c.x c.y) ∧ Below w.heap.size w w' := by
  obtain ⟨ta, tc, rfl, _⟩ := id h.t
  obtain ⟨xa, xc, rfl, _⟩ := id h.x
  obtain ⟨ba, bc, rfl, _⟩ := id h.b
  obtain ⟨ra, rc, rfl, _⟩ := id h.r
  clear h
  unfold cnVal plVal
  go_enter Tryz.func96, Tryz.ntmps96
  go_wp2
  exact bodyPost_ret (v := plVal c.kind c.op c.k c.v c.x c.y) (by simp [results, Tryz.results96, go_sem, plVal]) rfl ⟨rfl, ((Below.refl _ _).alloc (Nat.le_refl _) _).alloc (by simp) _⟩

set_option maxRecDepth 10000 in
set_option maxHeartbeats 400000 in
theorem lengthsOf_any (c : Md.Cn) (vt vx vb vr : Value) (w : World) (h : CnAt w c vt vx vb vr) : Calls Tryz.prog 119 #[cnVal c vt vx vb vr] w fun e w' => e = .returned (lnVal c.terms.length c.xs.length c.table.length c.rows.length) ∧ Below w.heap.size w w' := by
  obtain ⟨ta, tc, rfl, _⟩ := id h.t
  obtain ⟨xa, xc, rfl, _⟩ := id h.x
  obtain ⟨ba, bc, rfl, _⟩ := id h.b
  obtain ⟨ra, rc, rfl, _⟩ := id h.r
  clear h
  unfold cnVal lnVal
  go_enter Tryz.func119, Tryz.ntmps119
  go_wp2
  exact bodyPost_ret (v := lnVal c.terms.length c.xs.length c.table.length c.rows.length) (by simp [results, Tryz.results119, go_sem, lnVal]) rfl ⟨rfl, ((Below.refl _ _).alloc (Nat.le_refl _) _).alloc (by simp) _⟩

set_option maxRecDepth 10000 in
set_option maxHeartbeats 400000 in
theorem own126 (c : Md.Cn) (vt vx vb vr : Value) (w : World) (h : CnAt w c vt vx vb vr) : Calls Tryz.prog 126 #[cnVal c vt vx vb vr] w fun e w' => e = .returned (plVal c.kind 0 0 0 0 c.y) ∧ Below w.heap.size w w' := by
  obtain ⟨ta, tc, rfl, _⟩ := id h.t
  obtain ⟨xa, xc, rfl, _⟩ := id h.x
  obtain ⟨ba, bc, rfl, _⟩ := id h.b
  obtain ⟨ra, rc, rfl, _⟩ := id h.r
  clear h
  unfold cnVal plVal
  go_enter Tryz.func126, Tryz.ntmps126
  go_wp2
  exact bodyPost_ret (v := plVal c.kind 0 0 0 0 c.y) (by simp [results, Tryz.results126, go_sem, plVal]) rfl ⟨rfl, ((Below.refl _ _).alloc (Nat.le_refl _) _).alloc (by simp) _⟩

set_option maxRecDepth 10000 in
set_option maxHeartbeats 400000 in
theorem own127 (c : Md.Cn) (vt vx vb vr : Value) (w : World) (h : CnAt w c vt vx vb vr) : Calls Tryz.prog 127 #[cnVal c vt vx vb vr] w fun e w' => e = .returned (plVal c.kind 0 0 0 0 0) ∧ Below w.heap.size w w' := by
  obtain ⟨ta, tc, rfl, _⟩ := id h.t
  obtain ⟨xa, xc, rfl, _⟩ := id h.x
  obtain ⟨ba, bc, rfl, _⟩ := id h.b
  obtain ⟨ra, rc, rfl, _⟩ := id h.r
  clear h
  unfold cnVal plVal
  go_enter Tryz.func127, Tryz.ntmps127
  go_wp2
  exact bodyPost_ret (v := plVal c.kind 0 0 0 0 0) (by simp [results, Tryz.results127, go_sem, plVal]) rfl ⟨rfl, ((Below.refl _ _).alloc (Nat.le_refl _) _).alloc (by simp) _⟩

set_option maxRecDepth 10000 in
set_option maxHeartbeats 400000 in
theorem own129 (c : Md.Cn) (vt vx vb vr : Value) (w : World) (h : CnAt w c vt vx vb vr) : Calls Tryz.prog 129 #[cnVal c vt vx vb vr] w fun e w' => e = .returned (plVal c.kind c.op c.k 0 0 0) ∧ Below w.heap.size w w' := by
  obtain ⟨ta, tc, rfl, _⟩ := id h.t
  obtain ⟨xa, xc, rfl, _⟩ := id h.x
  obtain ⟨ba, bc, rfl, _⟩ := id h.b
  obtain ⟨ra, rc, rfl, _⟩ := id h.r
  clear h
  unfold cnVal plVal
  go_enter Tryz.func129, Tryz.ntmps129
  go_wp2
  exact bodyPost_ret (v := plVal c.kind c.op c.k 0 0 0) (by simp [results, Tryz.results129, go_sem, plVal]) rfl ⟨rfl, ((Below.refl _ _).alloc (Nat.le_refl _) _).alloc (by simp) _⟩

set_option maxRecDepth 10000 in
set_option maxHeartbeats 400000 in
theorem own131 (c : Md.Cn) (vt vx vb vr : Value) (w : World) (h : CnAt w c vt vx vb vr) : Calls Tryz.prog 131 #[cnVal c vt vx vb vr] w fun e w' => e = .returned (plVal c.kind 0 c.k 0 c.x c.y) ∧ Below w.heap.size w w' := by
  obtain ⟨ta, tc, rfl, _⟩ := id h.t
  obtain ⟨xa, xc, rfl, _⟩ := id h.x
  obtain ⟨ba, bc, rfl, _⟩ := id h.b
  obtain ⟨ra, rc, rfl, _⟩ := id h.r
  clear h
  unfold cnVal plVal
  go_enter Tryz.func131, Tryz.ntmps131
  go_wp2
  exact bodyPost_ret (v := plVal c.kind 0 c.k 0 c.x c.y) (by simp [results, Tryz.results131, go_sem, plVal]) rfl ⟨rfl, ((Below.refl _ _).alloc (Nat.le_refl _) _).alloc (by simp) _⟩

set_option maxRecDepth 10000 in
set_option maxHeartbeats 400000 in
theorem own134 (c : Md.Cn) (vt vx vb vr : Value) (w : World) (h : CnAt w c vt vx vb vr) : Calls Tryz.prog 134 #[cnVal c vt vx vb vr] w fun e w' => e = .returned (plVal c.kind 0 0 0 c.x c.y) ∧ Below w.heap.size w w' := by
  obtain ⟨ta, tc, rfl, _⟩ := id h.t
  obtain ⟨xa, xc, rfl, _⟩ := id h.x
  obtain ⟨ba, bc, rfl, _⟩ := id h.b
  obtain ⟨ra, rc, rfl, _⟩ := id h.r
  clear h
  unfold cnVal plVal
  go_enter Tryz.func134, Tryz.ntmps134
  go_wp2
  exact bodyPost_ret (v := plVal c.kind 0 0 0 c.x c.y) (by simp [results, Tryz.results134, go_sem, plVal]) rfl ⟨rfl, ((Below.refl _ _).alloc (Nat.le_refl _) _).alloc (by simp) _⟩

set_option maxRecDepth 10000 in
set_option maxHeartbeats 400000 in
theorem own138 (c : Md.Cn) (vt vx vb vr : Value) (w : World) (h : CnAt w c vt vx vb vr) : Calls Tryz.prog 138 #[cnVal c vt vx vb vr] w fun e w' => e = .returned (plVal c.kind 0 c.k 0 c.x 0) ∧ Below w.heap.size w w' := by
  obtain ⟨ta, tc, rfl, _⟩ := id h.t
  obtain ⟨xa, xc, rfl, _⟩ := id h.x
  obtain ⟨ba, bc, rfl, _⟩ := id h.b
  obtain ⟨ra, rc, rfl, _⟩ := id h.r
  clear h
  unfold cnVal plVal
  go_enter Tryz.func138, Tryz.ntmps138
  go_wp2
  exact bodyPost_ret (v := plVal c.kind 0 c.k 0 c.x 0) (by simp [results, Tryz.results138, go_sem, plVal]) rfl ⟨rfl, ((Below.refl _ _).alloc (Nat.le_refl _) _).alloc (by simp) _⟩

set_option maxRecDepth 10000 in
set_option maxHeartbeats 400000 in
theorem own141 (c : Md.Cn) (vt vx vb vr : Value) (w : World) (h : CnAt w c vt vx vb vr) : Calls Tryz.prog 141 #[cnVal c vt vx vb vr] w fun e w' => e = .returned (plVal c.kind c.op c.k c.v 0 0) ∧ Below w.heap.size w w' := by
  obtain ⟨ta, tc, rfl, _⟩ := id h.t
  obtain ⟨xa, xc, rfl, _⟩ := id h.x
  obtain ⟨ba, bc, rfl, _⟩ := id h.b
  obtain ⟨ra, rc, rfl, _⟩ := id h.r
  clear h
  unfold cnVal plVal
  go_enter Tryz.func141, Tryz.ntmps141
  go_wp2
  exact bodyPost_ret (v := plVal c.kind c.op c.k c.v 0 0) (by simp [results, Tryz.results141, go_sem, plVal]) rfl ⟨rfl, ((Below.refl _ _).alloc (Nat.le_refl _) _).alloc (by simp) _⟩
end Go.Proofs.YtmhfabnpfkkbcaaGreat
