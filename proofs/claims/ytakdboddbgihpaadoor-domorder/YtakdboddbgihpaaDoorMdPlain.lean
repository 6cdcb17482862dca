/-
  Package model: a constraint's plain fields, its lists' lengths, what its kind has.
-/
import Derived.Test.YtakdboddbgihpaaDoorJ06
import Derived.Laws.EntriesVeiled
namespace Go.Proofs.YtakdboddbgihpaaDoor
open Go.RowKit

/-- A plain. -/
def plVal (a b c d e f : Int) : Value := .agg #[.int .i64 a, .int .i64 b, .int .i64 c, .int .i64 d, .int .i64 e, .int .i64 f]
/-- Lengths. -/
def lnVal (a b c d : Nat) : Value := .agg #[.int .i64 (a : Int), .int .i64 (b : Int), .int .i64 (c : Int), .int .i64 (d : Int)]

set_option maxRecDepth 10000 in
set_option maxHeartbeats 400000 in
theorem plainOf_any (c : Md.Cn) (vt vx vb vr : Value) (w : World) (h : CnAt w c vt vx vb vr) : Calls Tryd.prog 55 #[cnVal c vt vx vb vr] w fun e w' => e = .returned (plVal c.kind c.op c.k c.v c.x c.y) ∧ Below w.heap.size w w' := by
  obtain ⟨ta, tc, rfl, _⟩ := id h.t
  obtain ⟨xa, xc, rfl, _⟩ := id h.x
  obtain ⟨ba, bc, rfl, _⟩ := id h.b
  obtain ⟨ra, rc, rfl, _⟩ := id h.r
  clear h
  unfold cnVal plVal
  go_enter Tryd.func55, Tryd.ntmps55
  go_wp2
  exact bodyPost_ret (v := plVal c.kind c.op c.k c.v c.x c.y) (by simp [results, Tryd.results55, go_sem, plVal]) rfl ⟨rfl, ((Below.refl _ _).alloc (Nat.le_refl _) _).alloc (by simp) _⟩

set_option maxRecDepth 10000 in
set_option maxHeartbeats 400000 in
theorem lengthsOf_any (c : Md.Cn) (vt vx vb vr : Value) (w : World) (h : CnAt w c vt vx vb vr) : Calls Tryd.prog 71 #[cnVal c vt vx vb vr] w fun e w' => e = .returned (lnVal c.terms.length c.xs.length c.table.length c.rows.length) ∧ Below w.heap.size w w' := by
  obtain ⟨ta, tc, rfl, _⟩ := id h.t
  obtain ⟨xa, xc, rfl, _⟩ := id h.x
  obtain ⟨ba, bc, rfl, _⟩ := id h.b
  obtain ⟨ra, rc, rfl, _⟩ := id h.r
  clear h
  unfold cnVal lnVal
  go_enter Tryd.func71, Tryd.ntmps71
  go_wp2
  exact bodyPost_ret (v := lnVal c.terms.length c.xs.length c.table.length c.rows.length) (by simp [results, Tryd.results71, go_sem, lnVal]) rfl ⟨rfl, ((Below.refl _ _).alloc (Nat.le_refl _) _).alloc (by simp) _⟩

set_option maxRecDepth 10000 in
set_option maxHeartbeats 400000 in
theorem own126 (c : Md.Cn) (vt vx vb vr : Value) (w : World) (h : CnAt w c vt vx vb vr) : Calls Tryd.prog 79 #[cnVal c vt vx vb vr] w fun e w' => e = .returned (plVal c.kind 0 0 0 0 c.y) ∧ Below w.heap.size w w' := by
  obtain ⟨ta, tc, rfl, _⟩ := id h.t
  obtain ⟨xa, xc, rfl, _⟩ := id h.x
  obtain ⟨ba, bc, rfl, _⟩ := id h.b
  obtain ⟨ra, rc, rfl, _⟩ := id h.r
  clear h
  unfold cnVal plVal
  go_enter Tryd.func79, Tryd.ntmps79
  go_wp2
  exact bodyPost_ret (v := plVal c.kind 0 0 0 0 c.y) (by simp [results, Tryd.results79, go_sem, plVal]) rfl ⟨rfl, ((Below.refl _ _).alloc (Nat.le_refl _) _).alloc (by simp) _⟩

set_option maxRecDepth 10000 in
set_option maxHeartbeats 400000 in
theorem own127 (c : Md.Cn) (vt vx vb vr : Value) (w : World) (h : CnAt w c vt vx vb vr) : Calls Tryd.prog 80 #[cnVal c vt vx vb vr] w fun e w' => e = .returned (plVal c.kind 0 0 0 0 0) ∧ Below w.heap.size w w' := by
  obtain ⟨ta, tc, rfl, _⟩ := id h.t
  obtain ⟨xa, xc, rfl, _⟩ := id h.x
  obtain ⟨ba, bc, rfl, _⟩ := id h.b
  obtain ⟨ra, rc, rfl, _⟩ := id h.r
  clear h
  unfold cnVal plVal
  go_enter Tryd.func80, Tryd.ntmps80
  go_wp2
  exact bodyPost_ret (v := plVal c.kind 0 0 0 0 0) (by simp [results, Tryd.results80, go_sem, plVal]) rfl ⟨rfl, ((Below.refl _ _).alloc (Nat.le_refl _) _).alloc (by simp) _⟩

set_option maxRecDepth 10000 in
set_option maxHeartbeats 400000 in
theorem own129 (c : Md.Cn) (vt vx vb vr : Value) (w : World) (h : CnAt w c vt vx vb vr) : Calls Tryd.prog 82 #[cnVal c vt vx vb vr] w fun e w' => e = .returned (plVal c.kind c.op c.k 0 0 0) ∧ Below w.heap.size w w' := by
  obtain ⟨ta, tc, rfl, _⟩ := id h.t
  obtain ⟨xa, xc, rfl, _⟩ := id h.x
  obtain ⟨ba, bc, rfl, _⟩ := id h.b
  obtain ⟨ra, rc, rfl, _⟩ := id h.r
  clear h
  unfold cnVal plVal
  go_enter Tryd.func82, Tryd.ntmps82
  go_wp2
  exact bodyPost_ret (v := plVal c.kind c.op c.k 0 0 0) (by simp [results, Tryd.results82, go_sem, plVal]) rfl ⟨rfl, ((Below.refl _ _).alloc (Nat.le_refl _) _).alloc (by simp) _⟩

set_option maxRecDepth 10000 in
set_option maxHeartbeats 400000 in
theorem own131 (c : Md.Cn) (vt vx vb vr : Value) (w : World) (h : CnAt w c vt vx vb vr) : Calls Tryd.prog 84 #[cnVal c vt vx vb vr] w fun e w' => e = .returned (plVal c.kind 0 c.k 0 c.x c.y) ∧ Below w.heap.size w w' := by
  obtain ⟨ta, tc, rfl, _⟩ := id h.t
  obtain ⟨xa, xc, rfl, _⟩ := id h.x
  obtain ⟨ba, bc, rfl, _⟩ := id h.b
  obtain ⟨ra, rc, rfl, _⟩ := id h.r
  clear h
  unfold cnVal plVal
  go_enter Tryd.func84, Tryd.ntmps84
  go_wp2
  exact bodyPost_ret (v := plVal c.kind 0 c.k 0 c.x c.y) (by simp [results, Tryd.results84, go_sem, plVal]) rfl ⟨rfl, ((Below.refl _ _).alloc (Nat.le_refl _) _).alloc (by simp) _⟩

set_option maxRecDepth 10000 in
set_option maxHeartbeats 400000 in
theorem own134 (c : Md.Cn) (vt vx vb vr : Value) (w : World) (h : CnAt w c vt vx vb vr) : Calls Tryd.prog 87 #[cnVal c vt vx vb vr] w fun e w' => e = .returned (plVal c.kind 0 0 0 c.x c.y) ∧ Below w.heap.size w w' := by
  obtain ⟨ta, tc, rfl, _⟩ := id h.t
  obtain ⟨xa, xc, rfl, _⟩ := id h.x
  obtain ⟨ba, bc, rfl, _⟩ := id h.b
  obtain ⟨ra, rc, rfl, _⟩ := id h.r
  clear h
  unfold cnVal plVal
  go_enter Tryd.func87, Tryd.ntmps87
  go_wp2
  exact bodyPost_ret (v := plVal c.kind 0 0 0 c.x c.y) (by simp [results, Tryd.results87, go_sem, plVal]) rfl ⟨rfl, ((Below.refl _ _).alloc (Nat.le_refl _) _).alloc (by simp) _⟩

set_option maxRecDepth 10000 in
set_option maxHeartbeats 400000 in
theorem own138 (c : Md.Cn) (vt vx vb vr : Value) (w : World) (h : CnAt w c vt vx vb vr) : Calls Tryd.prog 91 #[cnVal c vt vx vb vr] w fun e w' => e = .returned (plVal c.kind 0 c.k 0 c.x 0) ∧ Below w.heap.size w w' := by
  obtain ⟨ta, tc, rfl, _⟩ := id h.t
  obtain ⟨xa, xc, rfl, _⟩ := id h.x
  obtain ⟨ba, bc, rfl, _⟩ := id h.b
  obtain ⟨ra, rc, rfl, _⟩ := id h.r
  clear h
  unfold cnVal plVal
  go_enter Tryd.func91, Tryd.ntmps91
  go_wp2
  exact bodyPost_ret (v := plVal c.kind 0 c.k 0 c.x 0) (by simp [results, Tryd.results91, go_sem, plVal]) rfl ⟨rfl, ((Below.refl _ _).alloc (Nat.le_refl _) _).alloc (by simp) _⟩

set_option maxRecDepth 10000 in
set_option maxHeartbeats 400000 in
theorem own141 (c : Md.Cn) (vt vx vb vr : Value) (w : World) (h : CnAt w c vt vx vb vr) : Calls Tryd.prog 94 #[cnVal c vt vx vb vr] w fun e w' => e = .returned (plVal c.kind c.op c.k c.v 0 0) ∧ Below w.heap.size w w' := by
  obtain ⟨ta, tc, rfl, _⟩ := id h.t
  obtain ⟨xa, xc, rfl, _⟩ := id h.x
  obtain ⟨ba, bc, rfl, _⟩ := id h.b
  obtain ⟨ra, rc, rfl, _⟩ := id h.r
  clear h
  unfold cnVal plVal
  go_enter Tryd.func94, Tryd.ntmps94
  go_wp2
  exact bodyPost_ret (v := plVal c.kind c.op c.k c.v 0 0) (by simp [results, Tryd.results94, go_sem, plVal]) rfl ⟨rfl, ((Below.refl _ _).alloc (Nat.le_refl _) _).alloc (by simp) _⟩
end Go.Proofs.YtakdboddbgihpaaDoor
