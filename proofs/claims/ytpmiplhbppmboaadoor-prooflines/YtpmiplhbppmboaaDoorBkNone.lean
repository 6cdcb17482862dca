/-
  The book of lists that were handed out: all kinds but texts are empty.
-/
import Derived.Test.YtpmiplhbppmboaaDoorProg
import Derived.WalkKit
import Derived.WalkSpells
import Derived.WalkLawsBesides
namespace Go.Proofs.YtpmiplhbppmboaaDoor
open Go Go.RowKit Go.Lib

/-- The cells of the texts' part. -/
structure Tx where
  (out told waits note fresh mark due from_ seen : Value)
/-- The book's cells. -/
def bookCs (bad : Bool) (turn deep : Int) (t : Tx) : Array Value := #[.bool false, .bool bad, .int .i64 turn, .int .i64 deep, .slice none 0 0, .slice none 0 0, .slice none 0 0, .slice none 0 0, .slice none 0 0, .slice none 0 0, .slice none 0 0, .slice none 0 0, .int .i64 0, t.out, t.told, t.waits, t.note, t.fresh, t.mark, t.due, t.from_, t.seen, .slice none 0 0, .slice none 0 0, .slice none 0 0, .slice none 0 0, .slice none 0 0, .slice none 0 0, .slice none 0 0, .slice none 0 0, .int .i64 0, .slice none 0 0, .slice none 0 0, .slice none 0 0, .slice none 0 0, .slice none 0 0, .slice none 0 0, .slice none 0 0, .slice none 0 0, .int .i64 0, .slice none 0 0, .slice none 0 0, .slice none 0 0, .slice none 0 0, .slice none 0 0, .slice none 0 0, .slice none 0 0, .slice none 0 0, .int .i64 0, .slice none 0 0, .slice none 0 0, .slice none 0 0, .slice none 0 0, .slice none 0 0, .slice none 0 0, .slice none 0 0, .slice none 0 0, .int .i64 0, .slice none 0 0, .slice none 0 0, .slice none 0 0, .slice none 0 0, .slice none 0 0, .slice none 0 0, .slice none 0 0, .slice none 0 0, .int .i64 0, .slice none 0 0, .slice none 0 0, .slice none 0 0, .slice none 0 0, .slice none 0 0, .slice none 0 0, .slice none 0 0, .slice none 0 0, .int .i64 0, .slice none 0 0, .slice none 0 0, .slice none 0 0, .slice none 0 0, .slice none 0 0, .slice none 0 0, .slice none 0 0, .slice none 0 0, .int .i64 0, .slice none 0 0, .slice none 0 0, .slice none 0 0, .slice none 0 0, .slice none 0 0, .slice none 0 0, .slice none 0 0, .slice none 0 0, .int .i64 0, .slice none 0 0, .slice none 0 0, .slice none 0 0, .slice none 0 0, .slice none 0 0, .slice none 0 0, .slice none 0 0, .slice none 0 0, .int .i64 0, .slice none 0 0, .slice none 0 0, .slice none 0 0, .slice none 0 0, .slice none 0 0, .slice none 0 0, .slice none 0 0, .slice none 0 0, .int .i64 0, .slice none 0 0, .slice none 0 0, .slice none 0 0, .slice none 0 0, .slice none 0 0, .slice none 0 0, .slice none 0 0, .slice none 0 0, .int .i64 0, .slice none 0 0, .slice none 0 0, .slice none 0 0, .slice none 0 0, .slice none 0 0, .slice none 0 0, .slice none 0 0, .slice none 0 0, .int .i64 0, .slice none 0 0, .slice none 0 0, .slice none 0 0, .slice none 0 0, .slice none 0 0, .slice none 0 0, .slice none 0 0, .slice none 0 0, .int .i64 0]
def BkAt (w : World) (P : Nat) (bad : Bool) (turn deep : Int) (t : Tx) : Prop := w.heap[P]? = some (.cells (bookCs bad turn deep t) 40)
theorem BkAt.cell {w : World} {P : Nat} {bad : Bool} {turn deep : Int} {t : Tx} (h : BkAt w P bad turn deep t) (i : Nat) (v : Value) (e : (bookCs bad turn deep t)[i]? = some v) : w.cell? ⟨P, i, none⟩ = some v := by
  unfold BkAt at h
  simp [World.cell?, h, e]
theorem BkAt.free {w : World} {P : Nat} {bad : Bool} {turn deep : Int} {t : Tx} (h : BkAt w P bad turn deep t) (i : Nat) : w.frozen? ⟨P, i, none⟩ = false := by
  unfold BkAt at h
  simp [World.frozen?, h]
/-- A cell of the book, written. -/
theorem BkAt.set {w : World} {P : Nat} {bad bad' : Bool} {turn deep turn' deep' : Int} {t t' : Tx} (h : BkAt w P bad turn deep t) (i : Nat) (v : Value) (e : (bookCs bad turn deep t).setIfInBounds i v = bookCs bad' turn' deep' t') : BkAt (w.setCell ⟨P, i, none⟩ v) P bad' turn' deep' t' := by
  unfold BkAt at h ⊢
  rw [← e]
  simp [World.setCell, Array.getElem?_modify, h]
theorem grown_set (w : World) (P i : Nat) (v : Value) : w.grownBy (w.setCell ⟨P, i, none⟩ v) (some P) := ⟨rfl, rfl, rfl, by simp [World.setCell], fun k _ hne => Below.heap_setCell _ ⟨P, i, none⟩ _ k (fun e => hne (by rw [e]))⟩
/-- A cell of the book, written with what it has. -/
theorem BkAt.same {w : World} {P : Nat} {bad : Bool} {turn deep : Int} {t : Tx} (h : BkAt w P bad turn deep t) (i : Nat) (v : Value) (e : (bookCs bad turn deep t).setIfInBounds i v = bookCs bad turn deep t) : w.setCell ⟨P, i, none⟩ v = w := by
  have hh : (w.setCell ⟨P, i, none⟩ v).heap = w.heap := by
    apply Array.ext_getElem?
    intro k
    have h1 := h.set i v e
    unfold BkAt at h h1
    by_cases hk : k = P
    · rw [hk, h1, h]
    · exact Below.heap_setCell _ ⟨P, i, none⟩ _ k hk
  have e2 : w.setCell ⟨P, i, none⟩ v = { w with heap := (w.setCell ⟨P, i, none⟩ v).heap } := rfl
  rw [e2, hh]
theorem grown_refl (w : World) (r : Option Nat) : w.grownBy w r := ⟨rfl, rfl, rfl, Nat.le_refl _, fun _ _ _ => rfl⟩
theorem grownT {w w1 w2 : World} {r : Option Nat} (h : w.grownBy w1 r) (h2 : w1.grownBy w2 r) : w.grownBy w2 r :=
  ⟨h2.os.trans h.os, h2.tape.trans h.tape, h2.output.trans h.output, Nat.le_trans h.size h2.size, fun k hk hne => (h2.block k (Nat.lt_of_lt_of_le hk h.size) hne).trans (h.block k hk hne)⟩

set_option maxRecDepth 100000 in
set_option maxHeartbeats 1000000 in
theorem markInts_none (P : Nat) (bad : Bool) (turn deep : Int) (t : Tx) (w : World) (h : BkAt w P bad turn deep t) : Calls Tryd.prog 51 #[.pointer (some ⟨P, 0, none⟩)] w fun e w' => e = .returned (.tuple #[]) ∧ w' = w := by
  have k2 := h.cell 6 (.slice none 0 0) rfl
  have k3 := h.cell 7 (.slice none 0 0) rfl
  have k5 := h.cell 9 (.slice none 0 0) rfl
  have k6 := h.cell 10 (.slice none 0 0) rfl
  clear h
  go_enter Tryd.func51, Tryd.ntmps51
  go_wp2_with fail
  exact bodyPost_ret (by simp [results, Tryd.results51, go_sem]) rfl ⟨rfl, rfl⟩

set_option maxRecDepth 100000 in
set_option maxHeartbeats 1000000 in
theorem growInts_none (P : Nat) (bad : Bool) (turn deep : Int) (t : Tx) (w : World) (h : BkAt w P bad turn deep t) : Calls Tryd.prog 66 #[.pointer (some ⟨P, 0, none⟩)] w fun e w' => e = .returned (.tuple #[]) ∧ w' = w := by
  have k4 := h.cell 8 (.slice none 0 0) rfl
  have f4 := h.free 8
  have f7 := h.free 11
  have k7 := h.cell 11 (.slice none 0 0) rfl
  have HW1 : Hid (w.setCell ⟨P, 8, none⟩ (.slice none 0 0) = w) := h.same 8 _ rfl
  have HW2 : Hid (w.setCell ⟨P, 11, none⟩ (.slice none 0 0) = w) := h.same 11 _ rfl
  clear h
  go_enter Tryd.func66, Tryd.ntmps66
  go_wp2_with fail
  go_loopw [2] (fun iv wr => iv = .int .i64 0 ∧ wr = w) (fun _ _ => 0)
  case atStart => exact ⟨rfl, rfl⟩
  case round =>
    obtain ⟨rfl, rfl⟩ := hrel
    go_wp2_with fail
    rw [HW1.out, HW2.out]
    go_end0
    exact ⟨rfl, rfl⟩

set_option maxRecDepth 100000 in
set_option maxHeartbeats 1000000 in
theorem holdInts_none (P : Nat) (bad : Bool) (turn deep : Int) (t : Tx) (w : World) (h : BkAt w P bad turn deep t) : Calls Tryd.prog 12 #[.pointer (some ⟨P, 0, none⟩)] w fun e w' => e = .returned (.bool true) ∧ w' = w := by
  have k0 := h.cell 4 (.slice none 0 0) rfl
  have k2 := h.cell 6 (.slice none 0 0) rfl
  clear h
  go_enter Tryd.func12, Tryd.ntmps12
  go_wp2_with fail
  go_loopw [3] (fun iv wr => iv = .int .i64 0 ∧ wr = w) (fun _ _ => 0)
  case atStart => exact ⟨rfl, rfl⟩
  case round =>
    obtain ⟨rfl, rfl⟩ := hrel
    go_wp2_with fail
    go_loopw [4] (fun iv wx => iv = .int .i64 0 ∧ wx = wr) (fun _ _ => 0)
    case atStart => exact ⟨rfl, rfl⟩
    case round =>
      obtain ⟨rfl, rfl⟩ := hrel
      go_wp2_with fail
      go_ret
      exact ⟨rfl, rfl⟩

set_option maxRecDepth 100000 in
set_option maxHeartbeats 1000000 in
theorem markTerms_none (P : Nat) (bad : Bool) (turn deep : Int) (t : Tx) (w : World) (h : BkAt w P bad turn deep t) : Calls Tryd.prog 53 #[.pointer (some ⟨P, 0, none⟩)] w fun e w' => e = .returned (.tuple #[]) ∧ w' = w := by
  have k2 := h.cell 24 (.slice none 0 0) rfl
  have k3 := h.cell 25 (.slice none 0 0) rfl
  have k5 := h.cell 27 (.slice none 0 0) rfl
  have k6 := h.cell 28 (.slice none 0 0) rfl
  clear h
  go_enter Tryd.func53, Tryd.ntmps53
  go_wp2_with fail
  exact bodyPost_ret (by simp [results, Tryd.results53, go_sem]) rfl ⟨rfl, rfl⟩

set_option maxRecDepth 100000 in
set_option maxHeartbeats 1000000 in
theorem growTerms_none (P : Nat) (bad : Bool) (turn deep : Int) (t : Tx) (w : World) (h : BkAt w P bad turn deep t) : Calls Tryd.prog 68 #[.pointer (some ⟨P, 0, none⟩)] w fun e w' => e = .returned (.tuple #[]) ∧ w' = w := by
  have k4 := h.cell 26 (.slice none 0 0) rfl
  have f4 := h.free 26
  have f7 := h.free 29
  have k7 := h.cell 29 (.slice none 0 0) rfl
  have HW1 : Hid (w.setCell ⟨P, 26, none⟩ (.slice none 0 0) = w) := h.same 26 _ rfl
  have HW2 : Hid (w.setCell ⟨P, 29, none⟩ (.slice none 0 0) = w) := h.same 29 _ rfl
  clear h
  go_enter Tryd.func68, Tryd.ntmps68
  go_wp2_with fail
  go_loopw [2] (fun iv wr => iv = .int .i64 0 ∧ wr = w) (fun _ _ => 0)
  case atStart => exact ⟨rfl, rfl⟩
  case round =>
    obtain ⟨rfl, rfl⟩ := hrel
    go_wp2_with fail
    rw [HW1.out, HW2.out]
    go_end0
    exact ⟨rfl, rfl⟩

set_option maxRecDepth 100000 in
set_option maxHeartbeats 1000000 in
theorem holdTerms_none (P : Nat) (bad : Bool) (turn deep : Int) (t : Tx) (w : World) (h : BkAt w P bad turn deep t) : Calls Tryd.prog 14 #[.pointer (some ⟨P, 0, none⟩)] w fun e w' => e = .returned (.bool true) ∧ w' = w := by
  have k0 := h.cell 22 (.slice none 0 0) rfl
  have k2 := h.cell 24 (.slice none 0 0) rfl
  clear h
  go_enter Tryd.func14, Tryd.ntmps14
  go_wp2_with fail
  go_loopw [3] (fun iv wr => iv = .int .i64 0 ∧ wr = w) (fun _ _ => 0)
  case atStart => exact ⟨rfl, rfl⟩
  case round =>
    obtain ⟨rfl, rfl⟩ := hrel
    go_wp2_with fail
    go_loopw [4] (fun iv wx => iv = .int .i64 0 ∧ wx = wr) (fun _ _ => 0)
    case atStart => exact ⟨rfl, rfl⟩
    case round =>
      obtain ⟨rfl, rfl⟩ := hrel
      go_wp2_with fail
      go_ret
      exact ⟨rfl, rfl⟩

set_option maxRecDepth 100000 in
set_option maxHeartbeats 1000000 in
theorem markVars_none (P : Nat) (bad : Bool) (turn deep : Int) (t : Tx) (w : World) (h : BkAt w P bad turn deep t) : Calls Tryd.prog 54 #[.pointer (some ⟨P, 0, none⟩)] w fun e w' => e = .returned (.tuple #[]) ∧ w' = w := by
  have k2 := h.cell 33 (.slice none 0 0) rfl
  have k3 := h.cell 34 (.slice none 0 0) rfl
  have k5 := h.cell 36 (.slice none 0 0) rfl
  have k6 := h.cell 37 (.slice none 0 0) rfl
  clear h
  go_enter Tryd.func54, Tryd.ntmps54
  go_wp2_with fail
  exact bodyPost_ret (by simp [results, Tryd.results54, go_sem]) rfl ⟨rfl, rfl⟩

set_option maxRecDepth 100000 in
set_option maxHeartbeats 1000000 in
theorem growVars_none (P : Nat) (bad : Bool) (turn deep : Int) (t : Tx) (w : World) (h : BkAt w P bad turn deep t) : Calls Tryd.prog 69 #[.pointer (some ⟨P, 0, none⟩)] w fun e w' => e = .returned (.tuple #[]) ∧ w' = w := by
  have k4 := h.cell 35 (.slice none 0 0) rfl
  have f4 := h.free 35
  have f7 := h.free 38
  have k7 := h.cell 38 (.slice none 0 0) rfl
  have HW1 : Hid (w.setCell ⟨P, 35, none⟩ (.slice none 0 0) = w) := h.same 35 _ rfl
  have HW2 : Hid (w.setCell ⟨P, 38, none⟩ (.slice none 0 0) = w) := h.same 38 _ rfl
  clear h
  go_enter Tryd.func69, Tryd.ntmps69
  go_wp2_with fail
  go_loopw [2] (fun iv wr => iv = .int .i64 0 ∧ wr = w) (fun _ _ => 0)
  case atStart => exact ⟨rfl, rfl⟩
  case round =>
    obtain ⟨rfl, rfl⟩ := hrel
    go_wp2_with fail
    rw [HW1.out, HW2.out]
    go_end0
    exact ⟨rfl, rfl⟩

set_option maxRecDepth 100000 in
set_option maxHeartbeats 1000000 in
theorem holdVars_none (P : Nat) (bad : Bool) (turn deep : Int) (t : Tx) (w : World) (h : BkAt w P bad turn deep t) : Calls Tryd.prog 15 #[.pointer (some ⟨P, 0, none⟩)] w fun e w' => e = .returned (.bool true) ∧ w' = w := by
  have k0 := h.cell 31 (.slice none 0 0) rfl
  have k2 := h.cell 33 (.slice none 0 0) rfl
  clear h
  go_enter Tryd.func15, Tryd.ntmps15
  go_wp2_with fail
  go_loopw [3] (fun iv wr => iv = .int .i64 0 ∧ wr = w) (fun _ _ => 0)
  case atStart => exact ⟨rfl, rfl⟩
  case round =>
    obtain ⟨rfl, rfl⟩ := hrel
    go_wp2_with fail
    go_loopw [4] (fun iv wx => iv = .int .i64 0 ∧ wx = wr) (fun _ _ => 0)
    case atStart => exact ⟨rfl, rfl⟩
    case round =>
      obtain ⟨rfl, rfl⟩ := hrel
      go_wp2_with fail
      go_ret
      exact ⟨rfl, rfl⟩

set_option maxRecDepth 100000 in
set_option maxHeartbeats 1000000 in
theorem markPieces_none (P : Nat) (bad : Bool) (turn deep : Int) (t : Tx) (w : World) (h : BkAt w P bad turn deep t) : Calls Tryd.prog 55 #[.pointer (some ⟨P, 0, none⟩)] w fun e w' => e = .returned (.tuple #[]) ∧ w' = w := by
  have k2 := h.cell 42 (.slice none 0 0) rfl
  have k3 := h.cell 43 (.slice none 0 0) rfl
  have k5 := h.cell 45 (.slice none 0 0) rfl
  have k6 := h.cell 46 (.slice none 0 0) rfl
  clear h
  go_enter Tryd.func55, Tryd.ntmps55
  go_wp2_with fail
  exact bodyPost_ret (by simp [results, Tryd.results55, go_sem]) rfl ⟨rfl, rfl⟩

set_option maxRecDepth 100000 in
set_option maxHeartbeats 1000000 in
theorem growPieces_none (P : Nat) (bad : Bool) (turn deep : Int) (t : Tx) (w : World) (h : BkAt w P bad turn deep t) : Calls Tryd.prog 70 #[.pointer (some ⟨P, 0, none⟩)] w fun e w' => e = .returned (.tuple #[]) ∧ w' = w := by
  have k4 := h.cell 44 (.slice none 0 0) rfl
  have f4 := h.free 44
  have f7 := h.free 47
  have k7 := h.cell 47 (.slice none 0 0) rfl
  have HW1 : Hid (w.setCell ⟨P, 44, none⟩ (.slice none 0 0) = w) := h.same 44 _ rfl
  have HW2 : Hid (w.setCell ⟨P, 47, none⟩ (.slice none 0 0) = w) := h.same 47 _ rfl
  clear h
  go_enter Tryd.func70, Tryd.ntmps70
  go_wp2_with fail
  go_loopw [2] (fun iv wr => iv = .int .i64 0 ∧ wr = w) (fun _ _ => 0)
  case atStart => exact ⟨rfl, rfl⟩
  case round =>
    obtain ⟨rfl, rfl⟩ := hrel
    go_wp2_with fail
    rw [HW1.out, HW2.out]
    go_end0
    exact ⟨rfl, rfl⟩

set_option maxRecDepth 100000 in
set_option maxHeartbeats 1000000 in
theorem holdPieces_none (P : Nat) (bad : Bool) (turn deep : Int) (t : Tx) (w : World) (h : BkAt w P bad turn deep t) : Calls Tryd.prog 16 #[.pointer (some ⟨P, 0, none⟩)] w fun e w' => e = .returned (.bool true) ∧ w' = w := by
  have k0 := h.cell 40 (.slice none 0 0) rfl
  have k2 := h.cell 42 (.slice none 0 0) rfl
  clear h
  go_enter Tryd.func16, Tryd.ntmps16
  go_wp2_with fail
  go_loopw [3] (fun iv wr => iv = .int .i64 0 ∧ wr = w) (fun _ _ => 0)
  case atStart => exact ⟨rfl, rfl⟩
  case round =>
    obtain ⟨rfl, rfl⟩ := hrel
    go_wp2_with fail
    go_loopw [4] (fun iv wx => iv = .int .i64 0 ∧ wx = wr) (fun _ _ => 0)
    case atStart => exact ⟨rfl, rfl⟩
    case round =>
      obtain ⟨rfl, rfl⟩ := hrel
      go_wp2_with fail
      go_ret
      exact ⟨rfl, rfl⟩

set_option maxRecDepth 100000 in
set_option maxHeartbeats 1000000 in
theorem markOps_none (P : Nat) (bad : Bool) (turn deep : Int) (t : Tx) (w : World) (h : BkAt w P bad turn deep t) : Calls Tryd.prog 56 #[.pointer (some ⟨P, 0, none⟩)] w fun e w' => e = .returned (.tuple #[]) ∧ w' = w := by
  have k2 := h.cell 51 (.slice none 0 0) rfl
  have k3 := h.cell 52 (.slice none 0 0) rfl
  have k5 := h.cell 54 (.slice none 0 0) rfl
  have k6 := h.cell 55 (.slice none 0 0) rfl
  clear h
  go_enter Tryd.func56, Tryd.ntmps56
  go_wp2_with fail
  exact bodyPost_ret (by simp [results, Tryd.results56, go_sem]) rfl ⟨rfl, rfl⟩

set_option maxRecDepth 100000 in
set_option maxHeartbeats 1000000 in
theorem growOps_none (P : Nat) (bad : Bool) (turn deep : Int) (t : Tx) (w : World) (h : BkAt w P bad turn deep t) : Calls Tryd.prog 71 #[.pointer (some ⟨P, 0, none⟩)] w fun e w' => e = .returned (.tuple #[]) ∧ w' = w := by
  have k4 := h.cell 53 (.slice none 0 0) rfl
  have f4 := h.free 53
  have f7 := h.free 56
  have k7 := h.cell 56 (.slice none 0 0) rfl
  have HW1 : Hid (w.setCell ⟨P, 53, none⟩ (.slice none 0 0) = w) := h.same 53 _ rfl
  have HW2 : Hid (w.setCell ⟨P, 56, none⟩ (.slice none 0 0) = w) := h.same 56 _ rfl
  clear h
  go_enter Tryd.func71, Tryd.ntmps71
  go_wp2_with fail
  go_loopw [2] (fun iv wr => iv = .int .i64 0 ∧ wr = w) (fun _ _ => 0)
  case atStart => exact ⟨rfl, rfl⟩
  case round =>
    obtain ⟨rfl, rfl⟩ := hrel
    go_wp2_with fail
    rw [HW1.out, HW2.out]
    go_end0
    exact ⟨rfl, rfl⟩

set_option maxRecDepth 100000 in
set_option maxHeartbeats 1000000 in
theorem holdOps_none (P : Nat) (bad : Bool) (turn deep : Int) (t : Tx) (w : World) (h : BkAt w P bad turn deep t) : Calls Tryd.prog 17 #[.pointer (some ⟨P, 0, none⟩)] w fun e w' => e = .returned (.bool true) ∧ w' = w := by
  have k0 := h.cell 49 (.slice none 0 0) rfl
  have k2 := h.cell 51 (.slice none 0 0) rfl
  clear h
  go_enter Tryd.func17, Tryd.ntmps17
  go_wp2_with fail
  go_loopw [3] (fun iv wr => iv = .int .i64 0 ∧ wr = w) (fun _ _ => 0)
  case atStart => exact ⟨rfl, rfl⟩
  case round =>
    obtain ⟨rfl, rfl⟩ := hrel
    go_wp2_with fail
    go_loopw [4] (fun iv wx => iv = .int .i64 0 ∧ wx = wr) (fun _ _ => 0)
    case atStart => exact ⟨rfl, rfl⟩
    case round =>
      obtain ⟨rfl, rfl⟩ := hrel
      go_wp2_with fail
      go_ret
      exact ⟨rfl, rfl⟩

set_option maxRecDepth 100000 in
set_option maxHeartbeats 1000000 in
theorem markCuts_none (P : Nat) (bad : Bool) (turn deep : Int) (t : Tx) (w : World) (h : BkAt w P bad turn deep t) : Calls Tryd.prog 57 #[.pointer (some ⟨P, 0, none⟩)] w fun e w' => e = .returned (.tuple #[]) ∧ w' = w := by
  have k2 := h.cell 60 (.slice none 0 0) rfl
  have k3 := h.cell 61 (.slice none 0 0) rfl
  have k5 := h.cell 63 (.slice none 0 0) rfl
  have k6 := h.cell 64 (.slice none 0 0) rfl
  clear h
  go_enter Tryd.func57, Tryd.ntmps57
  go_wp2_with fail
  exact bodyPost_ret (by simp [results, Tryd.results57, go_sem]) rfl ⟨rfl, rfl⟩

set_option maxRecDepth 100000 in
set_option maxHeartbeats 1000000 in
theorem growCuts_none (P : Nat) (bad : Bool) (turn deep : Int) (t : Tx) (w : World) (h : BkAt w P bad turn deep t) : Calls Tryd.prog 72 #[.pointer (some ⟨P, 0, none⟩)] w fun e w' => e = .returned (.tuple #[]) ∧ w' = w := by
  have k4 := h.cell 62 (.slice none 0 0) rfl
  have f4 := h.free 62
  have f7 := h.free 65
  have k7 := h.cell 65 (.slice none 0 0) rfl
  have HW1 : Hid (w.setCell ⟨P, 62, none⟩ (.slice none 0 0) = w) := h.same 62 _ rfl
  have HW2 : Hid (w.setCell ⟨P, 65, none⟩ (.slice none 0 0) = w) := h.same 65 _ rfl
  clear h
  go_enter Tryd.func72, Tryd.ntmps72
  go_wp2_with fail
  go_loopw [2] (fun iv wr => iv = .int .i64 0 ∧ wr = w) (fun _ _ => 0)
  case atStart => exact ⟨rfl, rfl⟩
  case round =>
    obtain ⟨rfl, rfl⟩ := hrel
    go_wp2_with fail
    rw [HW1.out, HW2.out]
    go_end0
    exact ⟨rfl, rfl⟩

set_option maxRecDepth 100000 in
set_option maxHeartbeats 1000000 in
theorem holdCuts_none (P : Nat) (bad : Bool) (turn deep : Int) (t : Tx) (w : World) (h : BkAt w P bad turn deep t) : Calls Tryd.prog 18 #[.pointer (some ⟨P, 0, none⟩)] w fun e w' => e = .returned (.bool true) ∧ w' = w := by
  have k0 := h.cell 58 (.slice none 0 0) rfl
  have k2 := h.cell 60 (.slice none 0 0) rfl
  clear h
  go_enter Tryd.func18, Tryd.ntmps18
  go_wp2_with fail
  go_loopw [3] (fun iv wr => iv = .int .i64 0 ∧ wr = w) (fun _ _ => 0)
  case atStart => exact ⟨rfl, rfl⟩
  case round =>
    obtain ⟨rfl, rfl⟩ := hrel
    go_wp2_with fail
    go_loopw [4] (fun iv wx => iv = .int .i64 0 ∧ wx = wr) (fun _ _ => 0)
    case atStart => exact ⟨rfl, rfl⟩
    case round =>
      obtain ⟨rfl, rfl⟩ := hrel
      go_wp2_with fail
      go_ret
      exact ⟨rfl, rfl⟩

set_option maxRecDepth 100000 in
set_option maxHeartbeats 1000000 in
theorem markMeans_none (P : Nat) (bad : Bool) (turn deep : Int) (t : Tx) (w : World) (h : BkAt w P bad turn deep t) : Calls Tryd.prog 58 #[.pointer (some ⟨P, 0, none⟩)] w fun e w' => e = .returned (.tuple #[]) ∧ w' = w := by
  have k2 := h.cell 69 (.slice none 0 0) rfl
  have k3 := h.cell 70 (.slice none 0 0) rfl
  have k5 := h.cell 72 (.slice none 0 0) rfl
  have k6 := h.cell 73 (.slice none 0 0) rfl
  clear h
  go_enter Tryd.func58, Tryd.ntmps58
  go_wp2_with fail
  exact bodyPost_ret (by simp [results, Tryd.results58, go_sem]) rfl ⟨rfl, rfl⟩

set_option maxRecDepth 100000 in
set_option maxHeartbeats 1000000 in
theorem growMeans_none (P : Nat) (bad : Bool) (turn deep : Int) (t : Tx) (w : World) (h : BkAt w P bad turn deep t) : Calls Tryd.prog 73 #[.pointer (some ⟨P, 0, none⟩)] w fun e w' => e = .returned (.tuple #[]) ∧ w' = w := by
  have k4 := h.cell 71 (.slice none 0 0) rfl
  have f4 := h.free 71
  have f7 := h.free 74
  have k7 := h.cell 74 (.slice none 0 0) rfl
  have HW1 : Hid (w.setCell ⟨P, 71, none⟩ (.slice none 0 0) = w) := h.same 71 _ rfl
  have HW2 : Hid (w.setCell ⟨P, 74, none⟩ (.slice none 0 0) = w) := h.same 74 _ rfl
  clear h
  go_enter Tryd.func73, Tryd.ntmps73
  go_wp2_with fail
  go_loopw [2] (fun iv wr => iv = .int .i64 0 ∧ wr = w) (fun _ _ => 0)
  case atStart => exact ⟨rfl, rfl⟩
  case round =>
    obtain ⟨rfl, rfl⟩ := hrel
    go_wp2_with fail
    rw [HW1.out, HW2.out]
    go_end0
    exact ⟨rfl, rfl⟩

set_option maxRecDepth 100000 in
set_option maxHeartbeats 1000000 in
theorem holdMeans_none (P : Nat) (bad : Bool) (turn deep : Int) (t : Tx) (w : World) (h : BkAt w P bad turn deep t) : Calls Tryd.prog 19 #[.pointer (some ⟨P, 0, none⟩)] w fun e w' => e = .returned (.bool true) ∧ w' = w := by
  have k0 := h.cell 67 (.slice none 0 0) rfl
  have k2 := h.cell 69 (.slice none 0 0) rfl
  clear h
  go_enter Tryd.func19, Tryd.ntmps19
  go_wp2_with fail
  go_loopw [3] (fun iv wr => iv = .int .i64 0 ∧ wr = w) (fun _ _ => 0)
  case atStart => exact ⟨rfl, rfl⟩
  case round =>
    obtain ⟨rfl, rfl⟩ := hrel
    go_wp2_with fail
    go_loopw [4] (fun iv wx => iv = .int .i64 0 ∧ wx = wr) (fun _ _ => 0)
    case atStart => exact ⟨rfl, rfl⟩
    case round =>
      obtain ⟨rfl, rfl⟩ := hrel
      go_wp2_with fail
      go_ret
      exact ⟨rfl, rfl⟩

set_option maxRecDepth 100000 in
set_option maxHeartbeats 1000000 in
theorem markLists_none (P : Nat) (bad : Bool) (turn deep : Int) (t : Tx) (w : World) (h : BkAt w P bad turn deep t) : Calls Tryd.prog 59 #[.pointer (some ⟨P, 0, none⟩)] w fun e w' => e = .returned (.tuple #[]) ∧ w' = w := by
  have k2 := h.cell 78 (.slice none 0 0) rfl
  have k3 := h.cell 79 (.slice none 0 0) rfl
  have k5 := h.cell 81 (.slice none 0 0) rfl
  have k6 := h.cell 82 (.slice none 0 0) rfl
  clear h
  go_enter Tryd.func59, Tryd.ntmps59
  go_wp2_with fail
  exact bodyPost_ret (by simp [results, Tryd.results59, go_sem]) rfl ⟨rfl, rfl⟩

set_option maxRecDepth 100000 in
set_option maxHeartbeats 1000000 in
theorem growLists_none (P : Nat) (bad : Bool) (turn deep : Int) (t : Tx) (w : World) (h : BkAt w P bad turn deep t) : Calls Tryd.prog 74 #[.pointer (some ⟨P, 0, none⟩)] w fun e w' => e = .returned (.tuple #[]) ∧ w' = w := by
  have k4 := h.cell 80 (.slice none 0 0) rfl
  have f4 := h.free 80
  have f7 := h.free 83
  have k7 := h.cell 83 (.slice none 0 0) rfl
  have HW1 : Hid (w.setCell ⟨P, 80, none⟩ (.slice none 0 0) = w) := h.same 80 _ rfl
  have HW2 : Hid (w.setCell ⟨P, 83, none⟩ (.slice none 0 0) = w) := h.same 83 _ rfl
  clear h
  go_enter Tryd.func74, Tryd.ntmps74
  go_wp2_with fail
  go_loopw [2] (fun iv wr => iv = .int .i64 0 ∧ wr = w) (fun _ _ => 0)
  case atStart => exact ⟨rfl, rfl⟩
  case round =>
    obtain ⟨rfl, rfl⟩ := hrel
    go_wp2_with fail
    rw [HW1.out, HW2.out]
    go_end0
    exact ⟨rfl, rfl⟩

set_option maxRecDepth 100000 in
set_option maxHeartbeats 1000000 in
theorem holdLists_none (P : Nat) (bad : Bool) (turn deep : Int) (t : Tx) (w : World) (h : BkAt w P bad turn deep t) : Calls Tryd.prog 20 #[.pointer (some ⟨P, 0, none⟩)] w fun e w' => e = .returned (.bool true) ∧ w' = w := by
  have k0 := h.cell 76 (.slice none 0 0) rfl
  have k2 := h.cell 78 (.slice none 0 0) rfl
  clear h
  go_enter Tryd.func20, Tryd.ntmps20
  go_wp2_with fail
  go_loopw [3] (fun iv wr => iv = .int .i64 0 ∧ wr = w) (fun _ _ => 0)
  case atStart => exact ⟨rfl, rfl⟩
  case round =>
    obtain ⟨rfl, rfl⟩ := hrel
    go_wp2_with fail
    go_loopw [4] (fun iv wx => iv = .int .i64 0 ∧ wx = wr) (fun _ _ => 0)
    case atStart => exact ⟨rfl, rfl⟩
    case round =>
      obtain ⟨rfl, rfl⟩ := hrel
      go_wp2_with fail
      go_ret
      exact ⟨rfl, rfl⟩

set_option maxRecDepth 100000 in
set_option maxHeartbeats 1000000 in
theorem markCons_none (P : Nat) (bad : Bool) (turn deep : Int) (t : Tx) (w : World) (h : BkAt w P bad turn deep t) : Calls Tryd.prog 60 #[.pointer (some ⟨P, 0, none⟩)] w fun e w' => e = .returned (.tuple #[]) ∧ w' = w := by
  have k2 := h.cell 87 (.slice none 0 0) rfl
  have k3 := h.cell 88 (.slice none 0 0) rfl
  have k5 := h.cell 90 (.slice none 0 0) rfl
  have k6 := h.cell 91 (.slice none 0 0) rfl
  clear h
  go_enter Tryd.func60, Tryd.ntmps60
  go_wp2_with fail
  exact bodyPost_ret (by simp [results, Tryd.results60, go_sem]) rfl ⟨rfl, rfl⟩

set_option maxRecDepth 100000 in
set_option maxHeartbeats 1000000 in
theorem growCons_none (P : Nat) (bad : Bool) (turn deep : Int) (t : Tx) (w : World) (h : BkAt w P bad turn deep t) : Calls Tryd.prog 75 #[.pointer (some ⟨P, 0, none⟩)] w fun e w' => e = .returned (.tuple #[]) ∧ w' = w := by
  have k4 := h.cell 89 (.slice none 0 0) rfl
  have f4 := h.free 89
  have f7 := h.free 92
  have k7 := h.cell 92 (.slice none 0 0) rfl
  have HW1 : Hid (w.setCell ⟨P, 89, none⟩ (.slice none 0 0) = w) := h.same 89 _ rfl
  have HW2 : Hid (w.setCell ⟨P, 92, none⟩ (.slice none 0 0) = w) := h.same 92 _ rfl
  clear h
  go_enter Tryd.func75, Tryd.ntmps75
  go_wp2_with fail
  go_loopw [2] (fun iv wr => iv = .int .i64 0 ∧ wr = w) (fun _ _ => 0)
  case atStart => exact ⟨rfl, rfl⟩
  case round =>
    obtain ⟨rfl, rfl⟩ := hrel
    go_wp2_with fail
    rw [HW1.out, HW2.out]
    go_end0
    exact ⟨rfl, rfl⟩

set_option maxRecDepth 100000 in
set_option maxHeartbeats 1000000 in
theorem holdCons_none (P : Nat) (bad : Bool) (turn deep : Int) (t : Tx) (w : World) (h : BkAt w P bad turn deep t) : Calls Tryd.prog 21 #[.pointer (some ⟨P, 0, none⟩)] w fun e w' => e = .returned (.bool true) ∧ w' = w := by
  have k0 := h.cell 85 (.slice none 0 0) rfl
  have k2 := h.cell 87 (.slice none 0 0) rfl
  clear h
  go_enter Tryd.func21, Tryd.ntmps21
  go_wp2_with fail
  go_loopw [3] (fun iv wr => iv = .int .i64 0 ∧ wr = w) (fun _ _ => 0)
  case atStart => exact ⟨rfl, rfl⟩
  case round =>
    obtain ⟨rfl, rfl⟩ := hrel
    go_wp2_with fail
    go_loopw [4] (fun iv wx => iv = .int .i64 0 ∧ wx = wr) (fun _ _ => 0)
    case atStart => exact ⟨rfl, rfl⟩
    case round =>
      obtain ⟨rfl, rfl⟩ := hrel
      go_wp2_with fail
      go_ret
      exact ⟨rfl, rfl⟩

set_option maxRecDepth 100000 in
set_option maxHeartbeats 1000000 in
theorem markRows_none (P : Nat) (bad : Bool) (turn deep : Int) (t : Tx) (w : World) (h : BkAt w P bad turn deep t) : Calls Tryd.prog 61 #[.pointer (some ⟨P, 0, none⟩)] w fun e w' => e = .returned (.tuple #[]) ∧ w' = w := by
  have k2 := h.cell 96 (.slice none 0 0) rfl
  have k3 := h.cell 97 (.slice none 0 0) rfl
  have k5 := h.cell 99 (.slice none 0 0) rfl
  have k6 := h.cell 100 (.slice none 0 0) rfl
  clear h
  go_enter Tryd.func61, Tryd.ntmps61
  go_wp2_with fail
  exact bodyPost_ret (by simp [results, Tryd.results61, go_sem]) rfl ⟨rfl, rfl⟩

set_option maxRecDepth 100000 in
set_option maxHeartbeats 1000000 in
theorem growRows_none (P : Nat) (bad : Bool) (turn deep : Int) (t : Tx) (w : World) (h : BkAt w P bad turn deep t) : Calls Tryd.prog 76 #[.pointer (some ⟨P, 0, none⟩)] w fun e w' => e = .returned (.tuple #[]) ∧ w' = w := by
  have k4 := h.cell 98 (.slice none 0 0) rfl
  have f4 := h.free 98
  have f7 := h.free 101
  have k7 := h.cell 101 (.slice none 0 0) rfl
  have HW1 : Hid (w.setCell ⟨P, 98, none⟩ (.slice none 0 0) = w) := h.same 98 _ rfl
  have HW2 : Hid (w.setCell ⟨P, 101, none⟩ (.slice none 0 0) = w) := h.same 101 _ rfl
  clear h
  go_enter Tryd.func76, Tryd.ntmps76
  go_wp2_with fail
  go_loopw [2] (fun iv wr => iv = .int .i64 0 ∧ wr = w) (fun _ _ => 0)
  case atStart => exact ⟨rfl, rfl⟩
  case round =>
    obtain ⟨rfl, rfl⟩ := hrel
    go_wp2_with fail
    rw [HW1.out, HW2.out]
    go_end0
    exact ⟨rfl, rfl⟩

set_option maxRecDepth 100000 in
set_option maxHeartbeats 1000000 in
theorem holdRows_none (P : Nat) (bad : Bool) (turn deep : Int) (t : Tx) (w : World) (h : BkAt w P bad turn deep t) : Calls Tryd.prog 22 #[.pointer (some ⟨P, 0, none⟩)] w fun e w' => e = .returned (.bool true) ∧ w' = w := by
  have k0 := h.cell 94 (.slice none 0 0) rfl
  have k2 := h.cell 96 (.slice none 0 0) rfl
  clear h
  go_enter Tryd.func22, Tryd.ntmps22
  go_wp2_with fail
  go_loopw [3] (fun iv wr => iv = .int .i64 0 ∧ wr = w) (fun _ _ => 0)
  case atStart => exact ⟨rfl, rfl⟩
  case round =>
    obtain ⟨rfl, rfl⟩ := hrel
    go_wp2_with fail
    go_loopw [4] (fun iv wx => iv = .int .i64 0 ∧ wx = wr) (fun _ _ => 0)
    case atStart => exact ⟨rfl, rfl⟩
    case round =>
      obtain ⟨rfl, rfl⟩ := hrel
      go_wp2_with fail
      go_ret
      exact ⟨rfl, rfl⟩

set_option maxRecDepth 100000 in
set_option maxHeartbeats 1000000 in
theorem markSteps_none (P : Nat) (bad : Bool) (turn deep : Int) (t : Tx) (w : World) (h : BkAt w P bad turn deep t) : Calls Tryd.prog 62 #[.pointer (some ⟨P, 0, none⟩)] w fun e w' => e = .returned (.tuple #[]) ∧ w' = w := by
  have k2 := h.cell 105 (.slice none 0 0) rfl
  have k3 := h.cell 106 (.slice none 0 0) rfl
  have k5 := h.cell 108 (.slice none 0 0) rfl
  have k6 := h.cell 109 (.slice none 0 0) rfl
  clear h
  go_enter Tryd.func62, Tryd.ntmps62
  go_wp2_with fail
  exact bodyPost_ret (by simp [results, Tryd.results62, go_sem]) rfl ⟨rfl, rfl⟩

set_option maxRecDepth 100000 in
set_option maxHeartbeats 1000000 in
theorem growSteps_none (P : Nat) (bad : Bool) (turn deep : Int) (t : Tx) (w : World) (h : BkAt w P bad turn deep t) : Calls Tryd.prog 77 #[.pointer (some ⟨P, 0, none⟩)] w fun e w' => e = .returned (.tuple #[]) ∧ w' = w := by
  have k4 := h.cell 107 (.slice none 0 0) rfl
  have f4 := h.free 107
  have f7 := h.free 110
  have k7 := h.cell 110 (.slice none 0 0) rfl
  have HW1 : Hid (w.setCell ⟨P, 107, none⟩ (.slice none 0 0) = w) := h.same 107 _ rfl
  have HW2 : Hid (w.setCell ⟨P, 110, none⟩ (.slice none 0 0) = w) := h.same 110 _ rfl
  clear h
  go_enter Tryd.func77, Tryd.ntmps77
  go_wp2_with fail
  go_loopw [2] (fun iv wr => iv = .int .i64 0 ∧ wr = w) (fun _ _ => 0)
  case atStart => exact ⟨rfl, rfl⟩
  case round =>
    obtain ⟨rfl, rfl⟩ := hrel
    go_wp2_with fail
    rw [HW1.out, HW2.out]
    go_end0
    exact ⟨rfl, rfl⟩

set_option maxRecDepth 100000 in
set_option maxHeartbeats 1000000 in
theorem holdSteps_none (P : Nat) (bad : Bool) (turn deep : Int) (t : Tx) (w : World) (h : BkAt w P bad turn deep t) : Calls Tryd.prog 23 #[.pointer (some ⟨P, 0, none⟩)] w fun e w' => e = .returned (.bool true) ∧ w' = w := by
  have k0 := h.cell 103 (.slice none 0 0) rfl
  have k2 := h.cell 105 (.slice none 0 0) rfl
  clear h
  go_enter Tryd.func23, Tryd.ntmps23
  go_wp2_with fail
  go_loopw [3] (fun iv wr => iv = .int .i64 0 ∧ wr = w) (fun _ _ => 0)
  case atStart => exact ⟨rfl, rfl⟩
  case round =>
    obtain ⟨rfl, rfl⟩ := hrel
    go_wp2_with fail
    go_loopw [4] (fun iv wx => iv = .int .i64 0 ∧ wx = wr) (fun _ _ => 0)
    case atStart => exact ⟨rfl, rfl⟩
    case round =>
      obtain ⟨rfl, rfl⟩ := hrel
      go_wp2_with fail
      go_ret
      exact ⟨rfl, rfl⟩

set_option maxRecDepth 100000 in
set_option maxHeartbeats 1000000 in
theorem markHalls_none (P : Nat) (bad : Bool) (turn deep : Int) (t : Tx) (w : World) (h : BkAt w P bad turn deep t) : Calls Tryd.prog 63 #[.pointer (some ⟨P, 0, none⟩)] w fun e w' => e = .returned (.tuple #[]) ∧ w' = w := by
  have k2 := h.cell 114 (.slice none 0 0) rfl
  have k3 := h.cell 115 (.slice none 0 0) rfl
  have k5 := h.cell 117 (.slice none 0 0) rfl
  have k6 := h.cell 118 (.slice none 0 0) rfl
  clear h
  go_enter Tryd.func63, Tryd.ntmps63
  go_wp2_with fail
  exact bodyPost_ret (by simp [results, Tryd.results63, go_sem]) rfl ⟨rfl, rfl⟩

set_option maxRecDepth 100000 in
set_option maxHeartbeats 1000000 in
theorem growHalls_none (P : Nat) (bad : Bool) (turn deep : Int) (t : Tx) (w : World) (h : BkAt w P bad turn deep t) : Calls Tryd.prog 78 #[.pointer (some ⟨P, 0, none⟩)] w fun e w' => e = .returned (.tuple #[]) ∧ w' = w := by
  have k4 := h.cell 116 (.slice none 0 0) rfl
  have f4 := h.free 116
  have f7 := h.free 119
  have k7 := h.cell 119 (.slice none 0 0) rfl
  have HW1 : Hid (w.setCell ⟨P, 116, none⟩ (.slice none 0 0) = w) := h.same 116 _ rfl
  have HW2 : Hid (w.setCell ⟨P, 119, none⟩ (.slice none 0 0) = w) := h.same 119 _ rfl
  clear h
  go_enter Tryd.func78, Tryd.ntmps78
  go_wp2_with fail
  go_loopw [2] (fun iv wr => iv = .int .i64 0 ∧ wr = w) (fun _ _ => 0)
  case atStart => exact ⟨rfl, rfl⟩
  case round =>
    obtain ⟨rfl, rfl⟩ := hrel
    go_wp2_with fail
    rw [HW1.out, HW2.out]
    go_end0
    exact ⟨rfl, rfl⟩

set_option maxRecDepth 100000 in
set_option maxHeartbeats 1000000 in
theorem holdHalls_none (P : Nat) (bad : Bool) (turn deep : Int) (t : Tx) (w : World) (h : BkAt w P bad turn deep t) : Calls Tryd.prog 24 #[.pointer (some ⟨P, 0, none⟩)] w fun e w' => e = .returned (.bool true) ∧ w' = w := by
  have k0 := h.cell 112 (.slice none 0 0) rfl
  have k2 := h.cell 114 (.slice none 0 0) rfl
  clear h
  go_enter Tryd.func24, Tryd.ntmps24
  go_wp2_with fail
  go_loopw [3] (fun iv wr => iv = .int .i64 0 ∧ wr = w) (fun _ _ => 0)
  case atStart => exact ⟨rfl, rfl⟩
  case round =>
    obtain ⟨rfl, rfl⟩ := hrel
    go_wp2_with fail
    go_loopw [4] (fun iv wx => iv = .int .i64 0 ∧ wx = wr) (fun _ _ => 0)
    case atStart => exact ⟨rfl, rfl⟩
    case round =>
      obtain ⟨rfl, rfl⟩ := hrel
      go_wp2_with fail
      go_ret
      exact ⟨rfl, rfl⟩

set_option maxRecDepth 100000 in
set_option maxHeartbeats 1000000 in
theorem markCauses_none (P : Nat) (bad : Bool) (turn deep : Int) (t : Tx) (w : World) (h : BkAt w P bad turn deep t) : Calls Tryd.prog 64 #[.pointer (some ⟨P, 0, none⟩)] w fun e w' => e = .returned (.tuple #[]) ∧ w' = w := by
  have k2 := h.cell 123 (.slice none 0 0) rfl
  have k3 := h.cell 124 (.slice none 0 0) rfl
  have k5 := h.cell 126 (.slice none 0 0) rfl
  have k6 := h.cell 127 (.slice none 0 0) rfl
  clear h
  go_enter Tryd.func64, Tryd.ntmps64
  go_wp2_with fail
  exact bodyPost_ret (by simp [results, Tryd.results64, go_sem]) rfl ⟨rfl, rfl⟩

set_option maxRecDepth 100000 in
set_option maxHeartbeats 1000000 in
theorem growCauses_none (P : Nat) (bad : Bool) (turn deep : Int) (t : Tx) (w : World) (h : BkAt w P bad turn deep t) : Calls Tryd.prog 79 #[.pointer (some ⟨P, 0, none⟩)] w fun e w' => e = .returned (.tuple #[]) ∧ w' = w := by
  have k4 := h.cell 125 (.slice none 0 0) rfl
  have f4 := h.free 125
  have f7 := h.free 128
  have k7 := h.cell 128 (.slice none 0 0) rfl
  have HW1 : Hid (w.setCell ⟨P, 125, none⟩ (.slice none 0 0) = w) := h.same 125 _ rfl
  have HW2 : Hid (w.setCell ⟨P, 128, none⟩ (.slice none 0 0) = w) := h.same 128 _ rfl
  clear h
  go_enter Tryd.func79, Tryd.ntmps79
  go_wp2_with fail
  go_loopw [2] (fun iv wr => iv = .int .i64 0 ∧ wr = w) (fun _ _ => 0)
  case atStart => exact ⟨rfl, rfl⟩
  case round =>
    obtain ⟨rfl, rfl⟩ := hrel
    go_wp2_with fail
    rw [HW1.out, HW2.out]
    go_end0
    exact ⟨rfl, rfl⟩

set_option maxRecDepth 100000 in
set_option maxHeartbeats 1000000 in
theorem holdCauses_none (P : Nat) (bad : Bool) (turn deep : Int) (t : Tx) (w : World) (h : BkAt w P bad turn deep t) : Calls Tryd.prog 25 #[.pointer (some ⟨P, 0, none⟩)] w fun e w' => e = .returned (.bool true) ∧ w' = w := by
  have k0 := h.cell 121 (.slice none 0 0) rfl
  have k2 := h.cell 123 (.slice none 0 0) rfl
  clear h
  go_enter Tryd.func25, Tryd.ntmps25
  go_wp2_with fail
  go_loopw [3] (fun iv wr => iv = .int .i64 0 ∧ wr = w) (fun _ _ => 0)
  case atStart => exact ⟨rfl, rfl⟩
  case round =>
    obtain ⟨rfl, rfl⟩ := hrel
    go_wp2_with fail
    go_loopw [4] (fun iv wx => iv = .int .i64 0 ∧ wx = wr) (fun _ _ => 0)
    case atStart => exact ⟨rfl, rfl⟩
    case round =>
      obtain ⟨rfl, rfl⟩ := hrel
      go_wp2_with fail
      go_ret
      exact ⟨rfl, rfl⟩

set_option maxRecDepth 100000 in
set_option maxHeartbeats 1000000 in
theorem markActs_none (P : Nat) (bad : Bool) (turn deep : Int) (t : Tx) (w : World) (h : BkAt w P bad turn deep t) : Calls Tryd.prog 65 #[.pointer (some ⟨P, 0, none⟩)] w fun e w' => e = .returned (.tuple #[]) ∧ w' = w := by
  have k2 := h.cell 132 (.slice none 0 0) rfl
  have k3 := h.cell 133 (.slice none 0 0) rfl
  have k5 := h.cell 135 (.slice none 0 0) rfl
  have k6 := h.cell 136 (.slice none 0 0) rfl
  clear h
  go_enter Tryd.func65, Tryd.ntmps65
  go_wp2_with fail
  exact bodyPost_ret (by simp [results, Tryd.results65, go_sem]) rfl ⟨rfl, rfl⟩

set_option maxRecDepth 100000 in
set_option maxHeartbeats 1000000 in
theorem growActs_none (P : Nat) (bad : Bool) (turn deep : Int) (t : Tx) (w : World) (h : BkAt w P bad turn deep t) : Calls Tryd.prog 80 #[.pointer (some ⟨P, 0, none⟩)] w fun e w' => e = .returned (.tuple #[]) ∧ w' = w := by
  have k4 := h.cell 134 (.slice none 0 0) rfl
  have f4 := h.free 134
  have f7 := h.free 137
  have k7 := h.cell 137 (.slice none 0 0) rfl
  have HW1 : Hid (w.setCell ⟨P, 134, none⟩ (.slice none 0 0) = w) := h.same 134 _ rfl
  have HW2 : Hid (w.setCell ⟨P, 137, none⟩ (.slice none 0 0) = w) := h.same 137 _ rfl
  clear h
  go_enter Tryd.func80, Tryd.ntmps80
  go_wp2_with fail
  go_loopw [2] (fun iv wr => iv = .int .i64 0 ∧ wr = w) (fun _ _ => 0)
  case atStart => exact ⟨rfl, rfl⟩
  case round =>
    obtain ⟨rfl, rfl⟩ := hrel
    go_wp2_with fail
    rw [HW1.out, HW2.out]
    go_end0
    exact ⟨rfl, rfl⟩

set_option maxRecDepth 100000 in
set_option maxHeartbeats 1000000 in
theorem holdActs_none (P : Nat) (bad : Bool) (turn deep : Int) (t : Tx) (w : World) (h : BkAt w P bad turn deep t) : Calls Tryd.prog 26 #[.pointer (some ⟨P, 0, none⟩)] w fun e w' => e = .returned (.bool true) ∧ w' = w := by
  have k0 := h.cell 130 (.slice none 0 0) rfl
  have k2 := h.cell 132 (.slice none 0 0) rfl
  clear h
  go_enter Tryd.func26, Tryd.ntmps26
  go_wp2_with fail
  go_loopw [3] (fun iv wr => iv = .int .i64 0 ∧ wr = w) (fun _ _ => 0)
  case atStart => exact ⟨rfl, rfl⟩
  case round =>
    obtain ⟨rfl, rfl⟩ := hrel
    go_wp2_with fail
    go_loopw [4] (fun iv wx => iv = .int .i64 0 ∧ wx = wr) (fun _ _ => 0)
    case atStart => exact ⟨rfl, rfl⟩
    case round =>
      obtain ⟨rfl, rfl⟩ := hrel
      go_wp2_with fail
      go_ret
      exact ⟨rfl, rfl⟩
end Go.Proofs.YtpmiplhbppmboaaDoor
