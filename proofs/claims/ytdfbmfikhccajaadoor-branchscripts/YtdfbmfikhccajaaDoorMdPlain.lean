/-
  Package model: a constraint's plain fields, its lists' lengths, what its kind has.
-/
import Derived.Test.YtdfbmfikhccajaaDoorMdPlaces
import Derived.Laws.EntriesVeiled
namespace Go.Proofs.YtdfbmfikhccajaaDoor
open Go.RowKit

/-- A plain. -/
def plVal (a b c d e f : Int) : Value := .agg #[.int .i64 a, .int .i64 b, .int .i64 c, .int .i64 d, .int .i64 e, .int .i64 f]
/-- Lengths. -/
def lnVal (a b c d : Nat) : Value := .agg #[.int .i64 (a : Int), .int .i64 (b : Int), .int .i64 (c : Int), .int .i64 (d : Int)]

set_option maxRecDepth 10000 in
set_option maxHeartbeats 400000 in
theorem plainOf_any (c : Md.Cn) (vt vx vb vr : Value) (w : World) (h : CnAt w c vt vx vb vr) : Calls Tryd.prog 35 #[cnVal c vt vx vb vr] w fun e w' => e = .returned (plVal c.kind c.op c.k c.v c.x c.y) ∧ Below w.heap.size w w' := by
  obtain ⟨ta, tc, rfl, _⟩ := id h.t
  obtain ⟨xa, xc, rfl, _⟩ := id h.x
  obtain ⟨ba, bc, rfl, _⟩ := id h.b
  obtain ⟨ra, rc, rfl, _⟩ := id h.r
  clear h
  unfold cnVal plVal
  go_enter Tryd.func35, Tryd.ntmps35
  go_wp2
  exact bodyPost_ret (v := plVal c.kind c.op c.k c.v c.x c.y) (by simp [results, Tryd.results35, go_sem, plVal]) rfl ⟨rfl, ((Below.refl _ _).alloc (Nat.le_refl _) _).alloc (by simp) _⟩

set_option maxRecDepth 10000 in
set_option maxHeartbeats 400000 in
theorem lengthsOf_any (c : Md.Cn) (vt vx vb vr : Value) (w : World) (h : CnAt w c vt vx vb vr) : Calls Tryd.prog 51 #[cnVal c vt vx vb vr] w fun e w' => e = .returned (lnVal c.terms.length c.xs.length c.table.length c.rows.length) ∧ Below w.heap.size w w' := by
  obtain ⟨ta, tc, rfl, _⟩ := id h.t
  obtain ⟨xa, xc, rfl, _⟩ := id h.x
  obtain ⟨ba, bc, rfl, _⟩ := id h.b
  obtain ⟨ra, rc, rfl, _⟩ := id h.r
  clear h
  unfold cnVal lnVal
  go_enter Tryd.func51, Tryd.ntmps51
  go_wp2
  exact bodyPost_ret (v := lnVal c.terms.length c.xs.length c.table.length c.rows.length) (by simp [results, Tryd.results51, go_sem, lnVal]) rfl ⟨rfl, ((Below.refl _ _).alloc (Nat.le_refl _) _).alloc (by simp) _⟩

set_option maxRecDepth 10000 in
set_option maxHeartbeats 400000 in
theorem own126 (c : Md.Cn) (vt vx vb vr : Value) (w : World) (h : CnAt w c vt vx vb vr) : Calls Tryd.prog 62 #[cnVal c vt vx vb vr] w fun e w' => e = .returned (plVal c.kind 0 0 0 0 c.y) ∧ Below w.heap.size w w' := by
  obtain ⟨ta, tc, rfl, _⟩ := id h.t
  obtain ⟨xa, xc, rfl, _⟩ := id h.x
  obtain ⟨ba, bc, rfl, _⟩ := id h.b
  obtain ⟨ra, rc, rfl, _⟩ := id h.r
  clear h
  unfold cnVal plVal
  go_enter Tryd.func62, Tryd.ntmps62
  go_wp2
  exact bodyPost_ret (v := plVal c.kind 0 0 0 0 c.y) (by simp [results, Tryd.results62, go_sem, plVal]) rfl ⟨rfl, ((Below.refl _ _).alloc (Nat.le_refl _) _).alloc (by simp) _⟩

set_option maxRecDepth 10000 in
set_option maxHeartbeats 400000 in
theorem own127 (c : Md.Cn) (vt vx vb vr : Value) (w : World) (h : CnAt w c vt vx vb vr) : Calls Tryd.prog 63 #[cnVal c vt vx vb vr] w fun e w' => e = .returned (plVal c.kind 0 0 0 0 0) ∧ Below w.heap.size w w' := by
  obtain ⟨ta, tc, rfl, _⟩ := id h.t
  obtain ⟨xa, xc, rfl, _⟩ := id h.x
  obtain ⟨ba, bc, rfl, _⟩ := id h.b
  obtain ⟨ra, rc, rfl, _⟩ := id h.r
  clear h
  unfold cnVal plVal
  go_enter Tryd.func63, Tryd.ntmps63
  go_wp2
  exact bodyPost_ret (v := plVal c.kind 0 0 0 0 0) (by simp [results, Tryd.results63, go_sem, plVal]) rfl ⟨rfl, ((Below.refl _ _).alloc (Nat.le_refl _) _).alloc (by simp) _⟩

set_option maxRecDepth 10000 in
set_option maxHeartbeats 400000 in
theorem own129 (c : Md.Cn) (vt vx vb vr : Value) (w : World) (h : CnAt w c vt vx vb vr) : Calls Tryd.prog 65 #[cnVal c vt vx vb vr] w fun e w' => e = .returned (plVal c.kind c.op c.k 0 0 0) ∧ Below w.heap.size w w' := by
  obtain ⟨ta, tc, rfl, _⟩ := id h.t
  obtain ⟨xa, xc, rfl, _⟩ := id h.x
  obtain ⟨ba, bc, rfl, _⟩ := id h.b
  obtain ⟨ra, rc, rfl, _⟩ := id h.r
  clear h
  unfold cnVal plVal
  go_enter Tryd.func65, Tryd.ntmps65
  go_wp2
  exact bodyPost_ret (v := plVal c.kind c.op c.k 0 0 0) (by simp [results, Tryd.results65, go_sem, plVal]) rfl ⟨rfl, ((Below.refl _ _).alloc (Nat.le_refl _) _).alloc (by simp) _⟩

set_option maxRecDepth 10000 in
set_option maxHeartbeats 400000 in
theorem own131 (c : Md.Cn) (vt vx vb vr : Value) (w : World) (h : CnAt w c vt vx vb vr) : Calls Tryd.prog 67 #[cnVal c vt vx vb vr] w fun e w' => e = .returned (plVal c.kind 0 c.k 0 c.x c.y) ∧ Below w.heap.size w w' := by
  obtain ⟨ta, tc, rfl, _⟩ := id h.t
  obtain ⟨xa, xc, rfl, _⟩ := id h.x
  obtain ⟨ba, bc, rfl, _⟩ := id h.b
  obtain ⟨ra, rc, rfl, _⟩ := id h.r
  clear h
  unfold cnVal plVal
  go_enter Tryd.func67, Tryd.ntmps67
  go_wp2
  exact bodyPost_ret (v := plVal c.kind 0 c.k 0 c.x c.y) (by simp [results, Tryd.results67, go_sem, plVal]) rfl ⟨rfl, ((Below.refl _ _).alloc (Nat.le_refl _) _).alloc (by simp) _⟩

set_option maxRecDepth 10000 in
set_option maxHeartbeats 400000 in
theorem own134 (c : Md.Cn) (vt vx vb vr : Value) (w : World) (h : CnAt w c vt vx vb vr) : Calls Tryd.prog 70 #[cnVal c vt vx vb vr] w fun e w' => e = .returned (plVal c.kind 0 0 0 c.x c.y) ∧ Below w.heap.size w w' := by
  obtain ⟨ta, tc, rfl, _⟩ := id h.t
  obtain ⟨xa, xc, rfl, _⟩ := id h.x
  obtain ⟨ba, bc, rfl, _⟩ := id h.b
  obtain ⟨ra, rc, rfl, _⟩ := id h.r
  clear h
  unfold cnVal plVal
  go_enter Tryd.func70, Tryd.ntmps70
  go_wp2
  exact bodyPost_ret (v := plVal c.kind 0 0 0 c.x c.y) (by simp [results, Tryd.results70, go_sem, plVal]) rfl ⟨rfl, ((Below.refl _ _).alloc (Nat.le_refl _) _).alloc (by simp) _⟩

set_option maxRecDepth 10000 in
set_option maxHeartbeats 400000 in
theorem own138 (c : Md.Cn) (vt vx vb vr : Value) (w : World) (h : CnAt w c vt vx vb vr) : Calls Tryd.prog 74 #[cnVal c vt vx vb vr] w fun e w' => e = .returned (plVal c.kind 0 c.k 0 c.x 0) ∧ Below w.heap.size w w' := by
  obtain ⟨ta, tc, rfl, _⟩ := id h.t
  obtain ⟨xa, xc, rfl, _⟩ := id h.x
  obtain ⟨ba, bc, rfl, _⟩ := id h.b
  obtain ⟨ra, rc, rfl, _⟩ := id h.r
  clear h
  unfold cnVal plVal
  go_enter Tryd.func74, Tryd.ntmps74
  go_wp2
  exact bodyPost_ret (v := plVal c.kind 0 c.k 0 c.x 0) (by simp [results, Tryd.results74, go_sem, plVal]) rfl ⟨rfl, ((Below.refl _ _).alloc (Nat.le_refl _) _).alloc (by simp) _⟩

set_option maxRecDepth 10000 in
set_option maxHeartbeats 400000 in
theorem own141 (c : Md.Cn) (vt vx vb vr : Value) (w : World) (h : CnAt w c vt vx vb vr) : Calls Tryd.prog 77 #[cnVal c vt vx vb vr] w fun e w' => e = .returned (plVal c.kind c.op c.k c.v 0 0) ∧ Below w.heap.size w w' := by
  obtain ⟨ta, tc, rfl, _⟩ := id h.t
  obtain ⟨xa, xc, rfl, _⟩ := id h.x
  obtain ⟨ba, bc, rfl, _⟩ := id h.b
  obtain ⟨ra, rc, rfl, _⟩ := id h.r
  clear h
  unfold cnVal plVal
  go_enter Tryd.func77, Tryd.ntmps77
  go_wp2
  exact bodyPost_ret (v := plVal c.kind c.op c.k c.v 0 0) (by simp [results, Tryd.results77, go_sem, plVal]) rfl ⟨rfl, ((Below.refl _ _).alloc (Nat.le_refl _) _).alloc (by simp) _⟩
end Go.Proofs.YtdfbmfikhccajaaDoor
