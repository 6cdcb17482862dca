/-
  The book of lists that were handed out: all kinds but texts are empty.
-/
import Derived.Test.YtchpapppkmnfnaaGreatDoorProg
import Derived.WalkKit
import Derived.WalkSpells
import Derived.WalkLawsBesides
namespace Go.Proofs.YtchpapppkmnfnaaGreatDoor
open Go Go.RowKit Go.Lib

/-- The cells of the texts' part. -/
structure Tx where
  (out told waits note fresh mark due from_ seen : Value)
/-- The book's cells. -/
def bookCs (bad : Bool) (turn deep : Int) (t : Tx) : Array Value := #[.bool false, .bool bad, .int .i64 turn, .int .i64 deep, t.out, t.told, t.waits, t.note, t.fresh, t.mark, t.due, t.from_, t.seen, .slice none 0 0, .slice none 0 0, .slice none 0 0, .slice none 0 0, .slice none 0 0, .slice none 0 0, .slice none 0 0, .slice none 0 0, .int .i64 0, .slice none 0 0, .slice none 0 0, .slice none 0 0, .slice none 0 0, .slice none 0 0, .slice none 0 0, .slice none 0 0, .slice none 0 0, .int .i64 0, .slice none 0 0, .slice none 0 0, .slice none 0 0, .slice none 0 0, .slice none 0 0, .slice none 0 0, .slice none 0 0, .slice none 0 0, .int .i64 0, .slice none 0 0, .slice none 0 0, .slice none 0 0, .slice none 0 0, .slice none 0 0, .slice none 0 0, .slice none 0 0, .slice none 0 0, .int .i64 0, .slice none 0 0, .slice none 0 0, .slice none 0 0, .slice none 0 0, .slice none 0 0, .slice none 0 0, .slice none 0 0, .slice none 0 0, .int .i64 0, .slice none 0 0, .slice none 0 0, .slice none 0 0, .slice none 0 0, .slice none 0 0, .slice none 0 0, .slice none 0 0, .slice none 0 0, .int .i64 0, .slice none 0 0, .slice none 0 0, .slice none 0 0, .slice none 0 0, .slice none 0 0, .slice none 0 0, .slice none 0 0, .slice none 0 0, .int .i64 0, .slice none 0 0, .slice none 0 0, .slice none 0 0, .slice none 0 0, .slice none 0 0, .slice none 0 0, .slice none 0 0, .slice none 0 0, .int .i64 0, .slice none 0 0, .slice none 0 0, .slice none 0 0, .slice none 0 0, .slice none 0 0, .slice none 0 0, .slice none 0 0, .slice none 0 0, .int .i64 0, .slice none 0 0, .slice none 0 0, .slice none 0 0, .slice none 0 0, .slice none 0 0, .slice none 0 0, .slice none 0 0, .slice none 0 0, .int .i64 0, .slice none 0 0, .slice none 0 0, .slice none 0 0, .slice none 0 0, .slice none 0 0, .slice none 0 0, .slice none 0 0, .slice none 0 0, .int .i64 0, .slice none 0 0, .slice none 0 0, .slice none 0 0, .slice none 0 0, .slice none 0 0, .slice none 0 0, .slice none 0 0, .slice none 0 0, .int .i64 0, .slice none 0 0, .slice none 0 0, .slice none 0 0, .slice none 0 0, .slice none 0 0, .slice none 0 0, .slice none 0 0, .slice none 0 0, .int .i64 0, .slice none 0 0, .slice none 0 0, .slice none 0 0, .slice none 0 0, .slice none 0 0, .slice none 0 0, .slice none 0 0, .slice none 0 0, .int .i64 0]
def BkAt (w : World) (P : Nat) (bad : Bool) (turn deep : Int) (t : Tx) : Prop := w.heap[P]? = some (.cells (bookCs bad turn deep t) 58)
theorem BkAt.cell {w : World} {P : Nat} {bad : Bool} {turn deep : Int} {t : Tx} (h : BkAt w P bad turn deep t) (i : Nat) (v : Value) (e : (bookCs bad turn deep t)[i]? = some v) : w.cell? ⟨P, i, none⟩ = some v := by
  unfold BkAt at h
  simp [World.cell?, h, e]
theorem BkAt.free {w : World} {P : Nat} {bad : Bool} {turn deep : Int} {t : Tx} (h : BkAt w P bad turn deep t) (i : Nat) : w.frozen? ⟨P, i, none⟩ = false := by
  unfold BkAt at h
  simp [World.frozen?, h]
/-- A cell of the book, written. -/
theorem BkAt.set {w : World} {P : Nat} {bad bad' : Bool} {turn deep turn' deep' : Int} {t t' : Tx} (h : BkAt w P bad turn deep t) (i : Nat) (v : Value) (e : (bookCs bad turn deep t).setIfInBounds i v = bookCs bad' turn' deep' t') : BkAt (w.setCell ⟨P, i, none⟩ v) P bad' turn' deep' t' := by
  unfold BkAt at h ⊢
  rw [← e]
  simp [World.setCell, Array.getElem?_modify, h]
theorem grown_set (w : World) (P i : Nat) (v : Value) : w.grownBy (w.setCell ⟨P, i, none⟩ v) (some P) := ⟨rfl, rfl, rfl, by simp [World.setCell], fun k _ hne => Below.heap_setCell _ ⟨P, i, none⟩ _ k (fun e => hne (by rw [e]))⟩
/-- A cell of the book, written with what it has. -/
theorem BkAt.same {w : World} {P : Nat} {bad : Bool} {turn deep : Int} {t : Tx} (h : BkAt w P bad turn deep t) (i : Nat) (v : Value) (e : (bookCs bad turn deep t).setIfInBounds i v = bookCs bad turn deep t) : w.setCell ⟨P, i, none⟩ v = w := by
  have hh : (w.setCell ⟨P, i, none⟩ v).heap = w.heap := by
    apply Array.ext_getElem?
    intro k
    have h1 := h.set i v e
    unfold BkAt at h h1
    by_cases hk : k = P
    · rw [hk, h1, h]
    · exact Below.heap_setCell _ ⟨P, i, none⟩ _ k hk
  have e2 : w.setCell ⟨P, i, none⟩ v = { w with heap := (w.setCell ⟨P, i, none⟩ v).heap } := rfl
  rw [e2, hh]
set_option maxRecDepth 100000 in
set_option maxHeartbeats 1000000 in
theorem markTexts_none (P : Nat) (bad : Bool) (turn deep : Int) (t : Tx) (w : World) (h : BkAt w P bad turn deep t) : Calls Tryz.prog 129 #[.pointer (some ⟨P, 0, none⟩)] w fun e w' => e = .returned (.tuple #[]) ∧ w' = w := by
  have k2 := h.cell 15 (.slice none 0 0) rfl
  have k3 := h.cell 16 (.slice none 0 0) rfl
  have k5 := h.cell 18 (.slice none 0 0) rfl
  have k6 := h.cell 19 (.slice none 0 0) rfl
  clear h
  go_enter Tryz.func129, Tryz.ntmps129
  go_wp2_with fail
  exact bodyPost_ret (by simp [results, Tryz.results129, go_sem]) rfl ⟨rfl, rfl⟩

set_option maxRecDepth 100000 in
set_option maxHeartbeats 1000000 in
theorem growTexts_none (P : Nat) (bad : Bool) (turn deep : Int) (t : Tx) (w : World) (h : BkAt w P bad turn deep t) : Calls Tryz.prog 144 #[.pointer (some ⟨P, 0, none⟩)] w fun e w' => e = .returned (.tuple #[]) ∧ w' = w := by
  have k4 := h.cell 17 (.slice none 0 0) rfl
  have f4 := h.free 17
  have f7 := h.free 20
  have k7 := h.cell 20 (.slice none 0 0) rfl
  have HW1 : Hid (w.setCell ⟨P, 17, none⟩ (.slice none 0 0) = w) := h.same 17 _ rfl
  have HW2 : Hid (w.setCell ⟨P, 20, none⟩ (.slice none 0 0) = w) := h.same 20 _ rfl
  clear h
  go_enter Tryz.func144, Tryz.ntmps144
  go_wp2_with fail
  go_loopw [2] (fun iv wr => iv = .int .i64 0 ∧ wr = w) (fun _ _ => 0)
  case atStart => exact ⟨rfl, rfl⟩
  case round =>
    obtain ⟨rfl, rfl⟩ := hrel
    go_wp2_with fail
    rw [HW1.out, HW2.out]
    go_end0
    exact ⟨rfl, rfl⟩

set_option maxRecDepth 100000 in
set_option maxHeartbeats 1000000 in
theorem holdTexts_none (P : Nat) (bad : Bool) (turn deep : Int) (t : Tx) (w : World) (h : BkAt w P bad turn deep t) : Calls Tryz.prog 45 #[.pointer (some ⟨P, 0, none⟩)] w fun e w' => e = .returned (.bool true) ∧ w' = w := by
  have k0 := h.cell 13 (.slice none 0 0) rfl
  have k2 := h.cell 15 (.slice none 0 0) rfl
  clear h
  go_enter Tryz.func45, Tryz.ntmps45
  go_wp2_with fail
  go_loopw [3] (fun iv wr => iv = .int .i64 0 ∧ wr = w) (fun _ _ => 0)
  case atStart => exact ⟨rfl, rfl⟩
  case round =>
    obtain ⟨rfl, rfl⟩ := hrel
    go_wp2_with fail
    go_loopw [4] (fun iv wx => iv = .int .i64 0 ∧ wx = wr) (fun _ _ => 0)
    case atStart => exact ⟨rfl, rfl⟩
    case round =>
      obtain ⟨rfl, rfl⟩ := hrel
      go_wp2_with fail
      go_ret
      exact ⟨rfl, rfl⟩

set_option maxRecDepth 100000 in
set_option maxHeartbeats 1000000 in
theorem markTerms_none (P : Nat) (bad : Bool) (turn deep : Int) (t : Tx) (w : World) (h : BkAt w P bad turn deep t) : Calls Tryz.prog 130 #[.pointer (some ⟨P, 0, none⟩)] w fun e w' => e = .returned (.tuple #[]) ∧ w' = w := by
  have k2 := h.cell 24 (.slice none 0 0) rfl
  have k3 := h.cell 25 (.slice none 0 0) rfl
  have k5 := h.cell 27 (.slice none 0 0) rfl
  have k6 := h.cell 28 (.slice none 0 0) rfl
  clear h
  go_enter Tryz.func130, Tryz.ntmps130
  go_wp2_with fail
  exact bodyPost_ret (by simp [results, Tryz.results130, go_sem]) rfl ⟨rfl, rfl⟩

set_option maxRecDepth 100000 in
set_option maxHeartbeats 1000000 in
theorem growTerms_none (P : Nat) (bad : Bool) (turn deep : Int) (t : Tx) (w : World) (h : BkAt w P bad turn deep t) : Calls Tryz.prog 145 #[.pointer (some ⟨P, 0, none⟩)] w fun e w' => e = .returned (.tuple #[]) ∧ w' = w := by
  have k4 := h.cell 26 (.slice none 0 0) rfl
  have f4 := h.free 26
  have f7 := h.free 29
  have k7 := h.cell 29 (.slice none 0 0) rfl
  have HW1 : Hid (w.setCell ⟨P, 26, none⟩ (.slice none 0 0) = w) := h.same 26 _ rfl
  have HW2 : Hid (w.setCell ⟨P, 29, none⟩ (.slice none 0 0) = w) := h.same 29 _ rfl
  clear h
  go_enter Tryz.func145, Tryz.ntmps145
  go_wp2_with fail
  go_loopw [2] (fun iv wr => iv = .int .i64 0 ∧ wr = w) (fun _ _ => 0)
  case atStart => exact ⟨rfl, rfl⟩
  case round =>
    obtain ⟨rfl, rfl⟩ := hrel
    go_wp2_with fail
    rw [HW1.out, HW2.out]
    go_end0
    exact ⟨rfl, rfl⟩

set_option maxRecDepth 100000 in
set_option maxHeartbeats 1000000 in
theorem holdTerms_none (P : Nat) (bad : Bool) (turn deep : Int) (t : Tx) (w : World) (h : BkAt w P bad turn deep t) : Calls Tryz.prog 46 #[.pointer (some ⟨P, 0, none⟩)] w fun e w' => e = .returned (.bool true) ∧ w' = w := by
  have k0 := h.cell 22 (.slice none 0 0) rfl
  have k2 := h.cell 24 (.slice none 0 0) rfl
  clear h
  go_enter Tryz.func46, Tryz.ntmps46
  go_wp2_with fail
  go_loopw [3] (fun iv wr => iv = .int .i64 0 ∧ wr = w) (fun _ _ => 0)
  case atStart => exact ⟨rfl, rfl⟩
  case round =>
    obtain ⟨rfl, rfl⟩ := hrel
    go_wp2_with fail
    go_loopw [4] (fun iv wx => iv = .int .i64 0 ∧ wx = wr) (fun _ _ => 0)
    case atStart => exact ⟨rfl, rfl⟩
    case round =>
      obtain ⟨rfl, rfl⟩ := hrel
      go_wp2_with fail
      go_ret
      exact ⟨rfl, rfl⟩

set_option maxRecDepth 100000 in
set_option maxHeartbeats 1000000 in
theorem markVars_none (P : Nat) (bad : Bool) (turn deep : Int) (t : Tx) (w : World) (h : BkAt w P bad turn deep t) : Calls Tryz.prog 131 #[.pointer (some ⟨P, 0, none⟩)] w fun e w' => e = .returned (.tuple #[]) ∧ w' = w := by
  have k2 := h.cell 33 (.slice none 0 0) rfl
  have k3 := h.cell 34 (.slice none 0 0) rfl
  have k5 := h.cell 36 (.slice none 0 0) rfl
  have k6 := h.cell 37 (.slice none 0 0) rfl
  clear h
  go_enter Tryz.func131, Tryz.ntmps131
  go_wp2_with fail
  exact bodyPost_ret (by simp [results, Tryz.results131, go_sem]) rfl ⟨rfl, rfl⟩

set_option maxRecDepth 100000 in
set_option maxHeartbeats 1000000 in
theorem growVars_none (P : Nat) (bad : Bool) (turn deep : Int) (t : Tx) (w : World) (h : BkAt w P bad turn deep t) : Calls Tryz.prog 146 #[.pointer (some ⟨P, 0, none⟩)] w fun e w' => e = .returned (.tuple #[]) ∧ w' = w := by
  have k4 := h.cell 35 (.slice none 0 0) rfl
  have f4 := h.free 35
  have f7 := h.free 38
  have k7 := h.cell 38 (.slice none 0 0) rfl
  have HW1 : Hid (w.setCell ⟨P, 35, none⟩ (.slice none 0 0) = w) := h.same 35 _ rfl
  have HW2 : Hid (w.setCell ⟨P, 38, none⟩ (.slice none 0 0) = w) := h.same 38 _ rfl
  clear h
  go_enter Tryz.func146, Tryz.ntmps146
  go_wp2_with fail
  go_loopw [2] (fun iv wr => iv = .int .i64 0 ∧ wr = w) (fun _ _ => 0)
  case atStart => exact ⟨rfl, rfl⟩
  case round =>
    obtain ⟨rfl, rfl⟩ := hrel
    go_wp2_with fail
    rw [HW1.out, HW2.out]
    go_end0
    exact ⟨rfl, rfl⟩

set_option maxRecDepth 100000 in
set_option maxHeartbeats 1000000 in
theorem holdVars_none (P : Nat) (bad : Bool) (turn deep : Int) (t : Tx) (w : World) (h : BkAt w P bad turn deep t) : Calls Tryz.prog 47 #[.pointer (some ⟨P, 0, none⟩)] w fun e w' => e = .returned (.bool true) ∧ w' = w := by
  have k0 := h.cell 31 (.slice none 0 0) rfl
  have k2 := h.cell 33 (.slice none 0 0) rfl
  clear h
  go_enter Tryz.func47, Tryz.ntmps47
  go_wp2_with fail
  go_loopw [3] (fun iv wr => iv = .int .i64 0 ∧ wr = w) (fun _ _ => 0)
  case atStart => exact ⟨rfl, rfl⟩
  case round =>
    obtain ⟨rfl, rfl⟩ := hrel
    go_wp2_with fail
    go_loopw [4] (fun iv wx => iv = .int .i64 0 ∧ wx = wr) (fun _ _ => 0)
    case atStart => exact ⟨rfl, rfl⟩
    case round =>
      obtain ⟨rfl, rfl⟩ := hrel
      go_wp2_with fail
      go_ret
      exact ⟨rfl, rfl⟩

set_option maxRecDepth 100000 in
set_option maxHeartbeats 1000000 in
theorem markPieces_none (P : Nat) (bad : Bool) (turn deep : Int) (t : Tx) (w : World) (h : BkAt w P bad turn deep t) : Calls Tryz.prog 132 #[.pointer (some ⟨P, 0, none⟩)] w fun e w' => e = .returned (.tuple #[]) ∧ w' = w := by
  have k2 := h.cell 42 (.slice none 0 0) rfl
  have k3 := h.cell 43 (.slice none 0 0) rfl
  have k5 := h.cell 45 (.slice none 0 0) rfl
  have k6 := h.cell 46 (.slice none 0 0) rfl
  clear h
  go_enter Tryz.func132, Tryz.ntmps132
  go_wp2_with fail
  exact bodyPost_ret (by simp [results, Tryz.results132, go_sem]) rfl ⟨rfl, rfl⟩

set_option maxRecDepth 100000 in
set_option maxHeartbeats 1000000 in
theorem growPieces_none (P : Nat) (bad : Bool) (turn deep : Int) (t : Tx) (w : World) (h : BkAt w P bad turn deep t) : Calls Tryz.prog 147 #[.pointer (some ⟨P, 0, none⟩)] w fun e w' => e = .returned (.tuple #[]) ∧ w' = w := by
  have k4 := h.cell 44 (.slice none 0 0) rfl
  have f4 := h.free 44
  have f7 := h.free 47
  have k7 := h.cell 47 (.slice none 0 0) rfl
  have HW1 : Hid (w.setCell ⟨P, 44, none⟩ (.slice none 0 0) = w) := h.same 44 _ rfl
  have HW2 : Hid (w.setCell ⟨P, 47, none⟩ (.slice none 0 0) = w) := h.same 47 _ rfl
  clear h
  go_enter Tryz.func147, Tryz.ntmps147
  go_wp2_with fail
  go_loopw [2] (fun iv wr => iv = .int .i64 0 ∧ wr = w) (fun _ _ => 0)
  case atStart => exact ⟨rfl, rfl⟩
  case round =>
    obtain ⟨rfl, rfl⟩ := hrel
    go_wp2_with fail
    rw [HW1.out, HW2.out]
    go_end0
    exact ⟨rfl, rfl⟩

set_option maxRecDepth 100000 in
set_option maxHeartbeats 1000000 in
theorem holdPieces_none (P : Nat) (bad : Bool) (turn deep : Int) (t : Tx) (w : World) (h : BkAt w P bad turn deep t) : Calls Tryz.prog 48 #[.pointer (some ⟨P, 0, none⟩)] w fun e w' => e = .returned (.bool true) ∧ w' = w := by
  have k0 := h.cell 40 (.slice none 0 0) rfl
  have k2 := h.cell 42 (.slice none 0 0) rfl
  clear h
  go_enter Tryz.func48, Tryz.ntmps48
  go_wp2_with fail
  go_loopw [3] (fun iv wr => iv = .int .i64 0 ∧ wr = w) (fun _ _ => 0)
  case atStart => exact ⟨rfl, rfl⟩
  case round =>
    obtain ⟨rfl, rfl⟩ := hrel
    go_wp2_with fail
    go_loopw [4] (fun iv wx => iv = .int .i64 0 ∧ wx = wr) (fun _ _ => 0)
    case atStart => exact ⟨rfl, rfl⟩
    case round =>
      obtain ⟨rfl, rfl⟩ := hrel
      go_wp2_with fail
      go_ret
      exact ⟨rfl, rfl⟩

set_option maxRecDepth 100000 in
set_option maxHeartbeats 1000000 in
theorem markOps_none (P : Nat) (bad : Bool) (turn deep : Int) (t : Tx) (w : World) (h : BkAt w P bad turn deep t) : Calls Tryz.prog 133 #[.pointer (some ⟨P, 0, none⟩)] w fun e w' => e = .returned (.tuple #[]) ∧ w' = w := by
  have k2 := h.cell 51 (.slice none 0 0) rfl
  have k3 := h.cell 52 (.slice none 0 0) rfl
  have k5 := h.cell 54 (.slice none 0 0) rfl
  have k6 := h.cell 55 (.slice none 0 0) rfl
  clear h
  go_enter Tryz.func133, Tryz.ntmps133
  go_wp2_with fail
  exact bodyPost_ret (by simp [results, Tryz.results133, go_sem]) rfl ⟨rfl, rfl⟩

set_option maxRecDepth 100000 in
set_option maxHeartbeats 1000000 in
theorem growOps_none (P : Nat) (bad : Bool) (turn deep : Int) (t : Tx) (w : World) (h : BkAt w P bad turn deep t) : Calls Tryz.prog 148 #[.pointer (some ⟨P, 0, none⟩)] w fun e w' => e = .returned (.tuple #[]) ∧ w' = w := by
  have k4 := h.cell 53 (.slice none 0 0) rfl
  have f4 := h.free 53
  have f7 := h.free 56
  have k7 := h.cell 56 (.slice none 0 0) rfl
  have HW1 : Hid (w.setCell ⟨P, 53, none⟩ (.slice none 0 0) = w) := h.same 53 _ rfl
  have HW2 : Hid (w.setCell ⟨P, 56, none⟩ (.slice none 0 0) = w) := h.same 56 _ rfl
  clear h
  go_enter Tryz.func148, Tryz.ntmps148
  go_wp2_with fail
  go_loopw [2] (fun iv wr => iv = .int .i64 0 ∧ wr = w) (fun _ _ => 0)
  case atStart => exact ⟨rfl, rfl⟩
  case round =>
    obtain ⟨rfl, rfl⟩ := hrel
    go_wp2_with fail
    rw [HW1.out, HW2.out]
    go_end0
    exact ⟨rfl, rfl⟩

set_option maxRecDepth 100000 in
set_option maxHeartbeats 1000000 in
theorem holdOps_none (P : Nat) (bad : Bool) (turn deep : Int) (t : Tx) (w : World) (h : BkAt w P bad turn deep t) : Calls Tryz.prog 49 #[.pointer (some ⟨P, 0, none⟩)] w fun e w' => e = .returned (.bool true) ∧ w' = w := by
  have k0 := h.cell 49 (.slice none 0 0) rfl
  have k2 := h.cell 51 (.slice none 0 0) rfl
  clear h
  go_enter Tryz.func49, Tryz.ntmps49
  go_wp2_with fail
  go_loopw [3] (fun iv wr => iv = .int .i64 0 ∧ wr = w) (fun _ _ => 0)
  case atStart => exact ⟨rfl, rfl⟩
  case round =>
    obtain ⟨rfl, rfl⟩ := hrel
    go_wp2_with fail
    go_loopw [4] (fun iv wx => iv = .int .i64 0 ∧ wx = wr) (fun _ _ => 0)
    case atStart => exact ⟨rfl, rfl⟩
    case round =>
      obtain ⟨rfl, rfl⟩ := hrel
      go_wp2_with fail
      go_ret
      exact ⟨rfl, rfl⟩

set_option maxRecDepth 100000 in
set_option maxHeartbeats 1000000 in
theorem markCuts_none (P : Nat) (bad : Bool) (turn deep : Int) (t : Tx) (w : World) (h : BkAt w P bad turn deep t) : Calls Tryz.prog 134 #[.pointer (some ⟨P, 0, none⟩)] w fun e w' => e = .returned (.tuple #[]) ∧ w' = w := by
  have k2 := h.cell 60 (.slice none 0 0) rfl
  have k3 := h.cell 61 (.slice none 0 0) rfl
  have k5 := h.cell 63 (.slice none 0 0) rfl
  have k6 := h.cell 64 (.slice none 0 0) rfl
  clear h
  go_enter Tryz.func134, Tryz.ntmps134
  go_wp2_with fail
  exact bodyPost_ret (by simp [results, Tryz.results134, go_sem]) rfl ⟨rfl, rfl⟩

set_option maxRecDepth 100000 in
set_option maxHeartbeats 1000000 in
theorem growCuts_none (P : Nat) (bad : Bool) (turn deep : Int) (t : Tx) (w : World) (h : BkAt w P bad turn deep t) : Calls Tryz.prog 149 #[.pointer (some ⟨P, 0, none⟩)] w fun e w' => e = .returned (.tuple #[]) ∧ w' = w := by
  have k4 := h.cell 62 (.slice none 0 0) rfl
  have f4 := h.free 62
  have f7 := h.free 65
  have k7 := h.cell 65 (.slice none 0 0) rfl
  have HW1 : Hid (w.setCell ⟨P, 62, none⟩ (.slice none 0 0) = w) := h.same 62 _ rfl
  have HW2 : Hid (w.setCell ⟨P, 65, none⟩ (.slice none 0 0) = w) := h.same 65 _ rfl
  clear h
  go_enter Tryz.func149, Tryz.ntmps149
  go_wp2_with fail
  go_loopw [2] (fun iv wr => iv = .int .i64 0 ∧ wr = w) (fun _ _ => 0)
  case atStart => exact ⟨rfl, rfl⟩
  case round =>
    obtain ⟨rfl, rfl⟩ := hrel
    go_wp2_with fail
    rw [HW1.out, HW2.out]
    go_end0
    exact ⟨rfl, rfl⟩

set_option maxRecDepth 100000 in
set_option maxHeartbeats 1000000 in
theorem holdCuts_none (P : Nat) (bad : Bool) (turn deep : Int) (t : Tx) (w : World) (h : BkAt w P bad turn deep t) : Calls Tryz.prog 50 #[.pointer (some ⟨P, 0, none⟩)] w fun e w' => e = .returned (.bool true) ∧ w' = w := by
  have k0 := h.cell 58 (.slice none 0 0) rfl
  have k2 := h.cell 60 (.slice none 0 0) rfl
  clear h
  go_enter Tryz.func50, Tryz.ntmps50
  go_wp2_with fail
  go_loopw [3] (fun iv wr => iv = .int .i64 0 ∧ wr = w) (fun _ _ => 0)
  case atStart => exact ⟨rfl, rfl⟩
  case round =>
    obtain ⟨rfl, rfl⟩ := hrel
    go_wp2_with fail
    go_loopw [4] (fun iv wx => iv = .int .i64 0 ∧ wx = wr) (fun _ _ => 0)
    case atStart => exact ⟨rfl, rfl⟩
    case round =>
      obtain ⟨rfl, rfl⟩ := hrel
      go_wp2_with fail
      go_ret
      exact ⟨rfl, rfl⟩

set_option maxRecDepth 100000 in
set_option maxHeartbeats 1000000 in
theorem markMeans_none (P : Nat) (bad : Bool) (turn deep : Int) (t : Tx) (w : World) (h : BkAt w P bad turn deep t) : Calls Tryz.prog 135 #[.pointer (some ⟨P, 0, none⟩)] w fun e w' => e = .returned (.tuple #[]) ∧ w' = w := by
  have k2 := h.cell 69 (.slice none 0 0) rfl
  have k3 := h.cell 70 (.slice none 0 0) rfl
  have k5 := h.cell 72 (.slice none 0 0) rfl
  have k6 := h.cell 73 (.slice none 0 0) rfl
  clear h
  go_enter Tryz.func135, Tryz.ntmps135
  go_wp2_with fail
  exact bodyPost_ret (by simp [results, Tryz.results135, go_sem]) rfl ⟨rfl, rfl⟩

set_option maxRecDepth 100000 in
set_option maxHeartbeats 1000000 in
theorem growMeans_none (P : Nat) (bad : Bool) (turn deep : Int) (t : Tx) (w : World) (h : BkAt w P bad turn deep t) : Calls Tryz.prog 150 #[.pointer (some ⟨P, 0, none⟩)] w fun e w' => e = .returned (.tuple #[]) ∧ w' = w := by
  have k4 := h.cell 71 (.slice none 0 0) rfl
  have f4 := h.free 71
  have f7 := h.free 74
  have k7 := h.cell 74 (.slice none 0 0) rfl
  have HW1 : Hid (w.setCell ⟨P, 71, none⟩ (.slice none 0 0) = w) := h.same 71 _ rfl
  have HW2 : Hid (w.setCell ⟨P, 74, none⟩ (.slice none 0 0) = w) := h.same 74 _ rfl
  clear h
  go_enter Tryz.func150, Tryz.ntmps150
  go_wp2_with fail
  go_loopw [2] (fun iv wr => iv = .int .i64 0 ∧ wr = w) (fun _ _ => 0)
  case atStart => exact ⟨rfl, rfl⟩
  case round =>
    obtain ⟨rfl, rfl⟩ := hrel
    go_wp2_with fail
    rw [HW1.out, HW2.out]
    go_end0
    exact ⟨rfl, rfl⟩

set_option maxRecDepth 100000 in
set_option maxHeartbeats 1000000 in
theorem holdMeans_none (P : Nat) (bad : Bool) (turn deep : Int) (t : Tx) (w : World) (h : BkAt w P bad turn deep t) : Calls Tryz.prog 51 #[.pointer (some ⟨P, 0, none⟩)] w fun e w' => e = .returned (.bool true) ∧ w' = w := by
  have k0 := h.cell 67 (.slice none 0 0) rfl
  have k2 := h.cell 69 (.slice none 0 0) rfl
  clear h
  go_enter Tryz.func51, Tryz.ntmps51
  go_wp2_with fail
  go_loopw [3] (fun iv wr => iv = .int .i64 0 ∧ wr = w) (fun _ _ => 0)
  case atStart => exact ⟨rfl, rfl⟩
  case round =>
    obtain ⟨rfl, rfl⟩ := hrel
    go_wp2_with fail
    go_loopw [4] (fun iv wx => iv = .int .i64 0 ∧ wx = wr) (fun _ _ => 0)
    case atStart => exact ⟨rfl, rfl⟩
    case round =>
      obtain ⟨rfl, rfl⟩ := hrel
      go_wp2_with fail
      go_ret
      exact ⟨rfl, rfl⟩

set_option maxRecDepth 100000 in
set_option maxHeartbeats 1000000 in
theorem markLists_none (P : Nat) (bad : Bool) (turn deep : Int) (t : Tx) (w : World) (h : BkAt w P bad turn deep t) : Calls Tryz.prog 136 #[.pointer (some ⟨P, 0, none⟩)] w fun e w' => e = .returned (.tuple #[]) ∧ w' = w := by
  have k2 := h.cell 78 (.slice none 0 0) rfl
  have k3 := h.cell 79 (.slice none 0 0) rfl
  have k5 := h.cell 81 (.slice none 0 0) rfl
  have k6 := h.cell 82 (.slice none 0 0) rfl
  clear h
  go_enter Tryz.func136, Tryz.ntmps136
  go_wp2_with fail
  exact bodyPost_ret (by simp [results, Tryz.results136, go_sem]) rfl ⟨rfl, rfl⟩

set_option maxRecDepth 100000 in
set_option maxHeartbeats 1000000 in
theorem growLists_none (P : Nat) (bad : Bool) (turn deep : Int) (t : Tx) (w : World) (h : BkAt w P bad turn deep t) : Calls Tryz.prog 151 #[.pointer (some ⟨P, 0, none⟩)] w fun e w' => e = .returned (.tuple #[]) ∧ w' = w := by
  have k4 := h.cell 80 (.slice none 0 0) rfl
  have f4 := h.free 80
  have f7 := h.free 83
  have k7 := h.cell 83 (.slice none 0 0) rfl
  have HW1 : Hid (w.setCell ⟨P, 80, none⟩ (.slice none 0 0) = w) := h.same 80 _ rfl
  have HW2 : Hid (w.setCell ⟨P, 83, none⟩ (.slice none 0 0) = w) := h.same 83 _ rfl
  clear h
  go_enter Tryz.func151, Tryz.ntmps151
  go_wp2_with fail
  go_loopw [2] (fun iv wr => iv = .int .i64 0 ∧ wr = w) (fun _ _ => 0)
  case atStart => exact ⟨rfl, rfl⟩
  case round =>
    obtain ⟨rfl, rfl⟩ := hrel
    go_wp2_with fail
    rw [HW1.out, HW2.out]
    go_end0
    exact ⟨rfl, rfl⟩

set_option maxRecDepth 100000 in
set_option maxHeartbeats 1000000 in
theorem holdLists_none (P : Nat) (bad : Bool) (turn deep : Int) (t : Tx) (w : World) (h : BkAt w P bad turn deep t) : Calls Tryz.prog 52 #[.pointer (some ⟨P, 0, none⟩)] w fun e w' => e = .returned (.bool true) ∧ w' = w := by
  have k0 := h.cell 76 (.slice none 0 0) rfl
  have k2 := h.cell 78 (.slice none 0 0) rfl
  clear h
  go_enter Tryz.func52, Tryz.ntmps52
  go_wp2_with fail
  go_loopw [3] (fun iv wr => iv = .int .i64 0 ∧ wr = w) (fun _ _ => 0)
  case atStart => exact ⟨rfl, rfl⟩
  case round =>
    obtain ⟨rfl, rfl⟩ := hrel
    go_wp2_with fail
    go_loopw [4] (fun iv wx => iv = .int .i64 0 ∧ wx = wr) (fun _ _ => 0)
    case atStart => exact ⟨rfl, rfl⟩
    case round =>
      obtain ⟨rfl, rfl⟩ := hrel
      go_wp2_with fail
      go_ret
      exact ⟨rfl, rfl⟩

set_option maxRecDepth 100000 in
set_option maxHeartbeats 1000000 in
theorem markCons_none (P : Nat) (bad : Bool) (turn deep : Int) (t : Tx) (w : World) (h : BkAt w P bad turn deep t) : Calls Tryz.prog 137 #[.pointer (some ⟨P, 0, none⟩)] w fun e w' => e = .returned (.tuple #[]) ∧ w' = w := by
  have k2 := h.cell 87 (.slice none 0 0) rfl
  have k3 := h.cell 88 (.slice none 0 0) rfl
  have k5 := h.cell 90 (.slice none 0 0) rfl
  have k6 := h.cell 91 (.slice none 0 0) rfl
  clear h
  go_enter Tryz.func137, Tryz.ntmps137
  go_wp2_with fail
  exact bodyPost_ret (by simp [results, Tryz.results137, go_sem]) rfl ⟨rfl, rfl⟩

set_option maxRecDepth 100000 in
set_option maxHeartbeats 1000000 in
theorem growCons_none (P : Nat) (bad : Bool) (turn deep : Int) (t : Tx) (w : World) (h : BkAt w P bad turn deep t) : Calls Tryz.prog 152 #[.pointer (some ⟨P, 0, none⟩)] w fun e w' => e = .returned (.tuple #[]) ∧ w' = w := by
  have k4 := h.cell 89 (.slice none 0 0) rfl
  have f4 := h.free 89
  have f7 := h.free 92
  have k7 := h.cell 92 (.slice none 0 0) rfl
  have HW1 : Hid (w.setCell ⟨P, 89, none⟩ (.slice none 0 0) = w) := h.same 89 _ rfl
  have HW2 : Hid (w.setCell ⟨P, 92, none⟩ (.slice none 0 0) = w) := h.same 92 _ rfl
  clear h
  go_enter Tryz.func152, Tryz.ntmps152
  go_wp2_with fail
  go_loopw [2] (fun iv wr => iv = .int .i64 0 ∧ wr = w) (fun _ _ => 0)
  case atStart => exact ⟨rfl, rfl⟩
  case round =>
    obtain ⟨rfl, rfl⟩ := hrel
    go_wp2_with fail
    rw [HW1.out, HW2.out]
    go_end0
    exact ⟨rfl, rfl⟩

set_option maxRecDepth 100000 in
set_option maxHeartbeats 1000000 in
theorem holdCons_none (P : Nat) (bad : Bool) (turn deep : Int) (t : Tx) (w : World) (h : BkAt w P bad turn deep t) : Calls Tryz.prog 53 #[.pointer (some ⟨P, 0, none⟩)] w fun e w' => e = .returned (.bool true) ∧ w' = w := by
  have k0 := h.cell 85 (.slice none 0 0) rfl
  have k2 := h.cell 87 (.slice none 0 0) rfl
  clear h
  go_enter Tryz.func53, Tryz.ntmps53
  go_wp2_with fail
  go_loopw [3] (fun iv wr => iv = .int .i64 0 ∧ wr = w) (fun _ _ => 0)
  case atStart => exact ⟨rfl, rfl⟩
  case round =>
    obtain ⟨rfl, rfl⟩ := hrel
    go_wp2_with fail
    go_loopw [4] (fun iv wx => iv = .int .i64 0 ∧ wx = wr) (fun _ _ => 0)
    case atStart => exact ⟨rfl, rfl⟩
    case round =>
      obtain ⟨rfl, rfl⟩ := hrel
      go_wp2_with fail
      go_ret
      exact ⟨rfl, rfl⟩

set_option maxRecDepth 100000 in
set_option maxHeartbeats 1000000 in
theorem markRows_none (P : Nat) (bad : Bool) (turn deep : Int) (t : Tx) (w : World) (h : BkAt w P bad turn deep t) : Calls Tryz.prog 138 #[.pointer (some ⟨P, 0, none⟩)] w fun e w' => e = .returned (.tuple #[]) ∧ w' = w := by
  have k2 := h.cell 96 (.slice none 0 0) rfl
  have k3 := h.cell 97 (.slice none 0 0) rfl
  have k5 := h.cell 99 (.slice none 0 0) rfl
  have k6 := h.cell 100 (.slice none 0 0) rfl
  clear h
  go_enter Tryz.func138, Tryz.ntmps138
  go_wp2_with fail
  exact bodyPost_ret (by simp [results, Tryz.results138, go_sem]) rfl ⟨rfl, rfl⟩

set_option maxRecDepth 100000 in
set_option maxHeartbeats 1000000 in
theorem growRows_none (P : Nat) (bad : Bool) (turn deep : Int) (t : Tx) (w : World) (h : BkAt w P bad turn deep t) : Calls Tryz.prog 153 #[.pointer (some ⟨P, 0, none⟩)] w fun e w' => e = .returned (.tuple #[]) ∧ w' = w := by
  have k4 := h.cell 98 (.slice none 0 0) rfl
  have f4 := h.free 98
  have f7 := h.free 101
  have k7 := h.cell 101 (.slice none 0 0) rfl
  have HW1 : Hid (w.setCell ⟨P, 98, none⟩ (.slice none 0 0) = w) := h.same 98 _ rfl
  have HW2 : Hid (w.setCell ⟨P, 101, none⟩ (.slice none 0 0) = w) := h.same 101 _ rfl
  clear h
  go_enter Tryz.func153, Tryz.ntmps153
  go_wp2_with fail
  go_loopw [2] (fun iv wr => iv = .int .i64 0 ∧ wr = w) (fun _ _ => 0)
  case atStart => exact ⟨rfl, rfl⟩
  case round =>
    obtain ⟨rfl, rfl⟩ := hrel
    go_wp2_with fail
    rw [HW1.out, HW2.out]
    go_end0
    exact ⟨rfl, rfl⟩

set_option maxRecDepth 100000 in
set_option maxHeartbeats 1000000 in
theorem holdRows_none (P : Nat) (bad : Bool) (turn deep : Int) (t : Tx) (w : World) (h : BkAt w P bad turn deep t) : Calls Tryz.prog 54 #[.pointer (some ⟨P, 0, none⟩)] w fun e w' => e = .returned (.bool true) ∧ w' = w := by
  have k0 := h.cell 94 (.slice none 0 0) rfl
  have k2 := h.cell 96 (.slice none 0 0) rfl
  clear h
  go_enter Tryz.func54, Tryz.ntmps54
  go_wp2_with fail
  go_loopw [3] (fun iv wr => iv = .int .i64 0 ∧ wr = w) (fun _ _ => 0)
  case atStart => exact ⟨rfl, rfl⟩
  case round =>
    obtain ⟨rfl, rfl⟩ := hrel
    go_wp2_with fail
    go_loopw [4] (fun iv wx => iv = .int .i64 0 ∧ wx = wr) (fun _ _ => 0)
    case atStart => exact ⟨rfl, rfl⟩
    case round =>
      obtain ⟨rfl, rfl⟩ := hrel
      go_wp2_with fail
      go_ret
      exact ⟨rfl, rfl⟩

set_option maxRecDepth 100000 in
set_option maxHeartbeats 1000000 in
theorem markSteps_none (P : Nat) (bad : Bool) (turn deep : Int) (t : Tx) (w : World) (h : BkAt w P bad turn deep t) : Calls Tryz.prog 139 #[.pointer (some ⟨P, 0, none⟩)] w fun e w' => e = .returned (.tuple #[]) ∧ w' = w := by
  have k2 := h.cell 105 (.slice none 0 0) rfl
  have k3 := h.cell 106 (.slice none 0 0) rfl
  have k5 := h.cell 108 (.slice none 0 0) rfl
  have k6 := h.cell 109 (.slice none 0 0) rfl
  clear h
  go_enter Tryz.func139, Tryz.ntmps139
  go_wp2_with fail
  exact bodyPost_ret (by simp [results, Tryz.results139, go_sem]) rfl ⟨rfl, rfl⟩

set_option maxRecDepth 100000 in
set_option maxHeartbeats 1000000 in
theorem growSteps_none (P : Nat) (bad : Bool) (turn deep : Int) (t : Tx) (w : World) (h : BkAt w P bad turn deep t) : Calls Tryz.prog 154 #[.pointer (some ⟨P, 0, none⟩)] w fun e w' => e = .returned (.tuple #[]) ∧ w' = w := by
  have k4 := h.cell 107 (.slice none 0 0) rfl
  have f4 := h.free 107
  have f7 := h.free 110
  have k7 := h.cell 110 (.slice none 0 0) rfl
  have HW1 : Hid (w.setCell ⟨P, 107, none⟩ (.slice none 0 0) = w) := h.same 107 _ rfl
  have HW2 : Hid (w.setCell ⟨P, 110, none⟩ (.slice none 0 0) = w) := h.same 110 _ rfl
  clear h
  go_enter Tryz.func154, Tryz.ntmps154
  go_wp2_with fail
  go_loopw [2] (fun iv wr => iv = .int .i64 0 ∧ wr = w) (fun _ _ => 0)
  case atStart => exact ⟨rfl, rfl⟩
  case round =>
    obtain ⟨rfl, rfl⟩ := hrel
    go_wp2_with fail
    rw [HW1.out, HW2.out]
    go_end0
    exact ⟨rfl, rfl⟩

set_option maxRecDepth 100000 in
set_option maxHeartbeats 1000000 in
theorem holdSteps_none (P : Nat) (bad : Bool) (turn deep : Int) (t : Tx) (w : World) (h : BkAt w P bad turn deep t) : Calls Tryz.prog 55 #[.pointer (some ⟨P, 0, none⟩)] w fun e w' => e = .returned (.bool true) ∧ w' = w := by
  have k0 := h.cell 103 (.slice none 0 0) rfl
  have k2 := h.cell 105 (.slice none 0 0) rfl
  clear h
  go_enter Tryz.func55, Tryz.ntmps55
  go_wp2_with fail
  go_loopw [3] (fun iv wr => iv = .int .i64 0 ∧ wr = w) (fun _ _ => 0)
  case atStart => exact ⟨rfl, rfl⟩
  case round =>
    obtain ⟨rfl, rfl⟩ := hrel
    go_wp2_with fail
    go_loopw [4] (fun iv wx => iv = .int .i64 0 ∧ wx = wr) (fun _ _ => 0)
    case atStart => exact ⟨rfl, rfl⟩
    case round =>
      obtain ⟨rfl, rfl⟩ := hrel
      go_wp2_with fail
      go_ret
      exact ⟨rfl, rfl⟩

set_option maxRecDepth 100000 in
set_option maxHeartbeats 1000000 in
theorem markHalls_none (P : Nat) (bad : Bool) (turn deep : Int) (t : Tx) (w : World) (h : BkAt w P bad turn deep t) : Calls Tryz.prog 140 #[.pointer (some ⟨P, 0, none⟩)] w fun e w' => e = .returned (.tuple #[]) ∧ w' = w := by
  have k2 := h.cell 114 (.slice none 0 0) rfl
  have k3 := h.cell 115 (.slice none 0 0) rfl
  have k5 := h.cell 117 (.slice none 0 0) rfl
  have k6 := h.cell 118 (.slice none 0 0) rfl
  clear h
  go_enter Tryz.func140, Tryz.ntmps140
  go_wp2_with fail
  exact bodyPost_ret (by simp [results, Tryz.results140, go_sem]) rfl ⟨rfl, rfl⟩

set_option maxRecDepth 100000 in
set_option maxHeartbeats 1000000 in
theorem growHalls_none (P : Nat) (bad : Bool) (turn deep : Int) (t : Tx) (w : World) (h : BkAt w P bad turn deep t) : Calls Tryz.prog 155 #[.pointer (some ⟨P, 0, none⟩)] w fun e w' => e = .returned (.tuple #[]) ∧ w' = w := by
  have k4 := h.cell 116 (.slice none 0 0) rfl
  have f4 := h.free 116
  have f7 := h.free 119
  have k7 := h.cell 119 (.slice none 0 0) rfl
  have HW1 : Hid (w.setCell ⟨P, 116, none⟩ (.slice none 0 0) = w) := h.same 116 _ rfl
  have HW2 : Hid (w.setCell ⟨P, 119, none⟩ (.slice none 0 0) = w) := h.same 119 _ rfl
  clear h
  go_enter Tryz.func155, Tryz.ntmps155
  go_wp2_with fail
  go_loopw [2] (fun iv wr => iv = .int .i64 0 ∧ wr = w) (fun _ _ => 0)
  case atStart => exact ⟨rfl, rfl⟩
  case round =>
    obtain ⟨rfl, rfl⟩ := hrel
    go_wp2_with fail
    rw [HW1.out, HW2.out]
    go_end0
    exact ⟨rfl, rfl⟩

set_option maxRecDepth 100000 in
set_option maxHeartbeats 1000000 in
theorem holdHalls_none (P : Nat) (bad : Bool) (turn deep : Int) (t : Tx) (w : World) (h : BkAt w P bad turn deep t) : Calls Tryz.prog 56 #[.pointer (some ⟨P, 0, none⟩)] w fun e w' => e = .returned (.bool true) ∧ w' = w := by
  have k0 := h.cell 112 (.slice none 0 0) rfl
  have k2 := h.cell 114 (.slice none 0 0) rfl
  clear h
  go_enter Tryz.func56, Tryz.ntmps56
  go_wp2_with fail
  go_loopw [3] (fun iv wr => iv = .int .i64 0 ∧ wr = w) (fun _ _ => 0)
  case atStart => exact ⟨rfl, rfl⟩
  case round =>
    obtain ⟨rfl, rfl⟩ := hrel
    go_wp2_with fail
    go_loopw [4] (fun iv wx => iv = .int .i64 0 ∧ wx = wr) (fun _ _ => 0)
    case atStart => exact ⟨rfl, rfl⟩
    case round =>
      obtain ⟨rfl, rfl⟩ := hrel
      go_wp2_with fail
      go_ret
      exact ⟨rfl, rfl⟩

set_option maxRecDepth 100000 in
set_option maxHeartbeats 1000000 in
theorem markCauses_none (P : Nat) (bad : Bool) (turn deep : Int) (t : Tx) (w : World) (h : BkAt w P bad turn deep t) : Calls Tryz.prog 141 #[.pointer (some ⟨P, 0, none⟩)] w fun e w' => e = .returned (.tuple #[]) ∧ w' = w := by
  have k2 := h.cell 123 (.slice none 0 0) rfl
  have k3 := h.cell 124 (.slice none 0 0) rfl
  have k5 := h.cell 126 (.slice none 0 0) rfl
  have k6 := h.cell 127 (.slice none 0 0) rfl
  clear h
  go_enter Tryz.func141, Tryz.ntmps141
  go_wp2_with fail
  exact bodyPost_ret (by simp [results, Tryz.results141, go_sem]) rfl ⟨rfl, rfl⟩

set_option maxRecDepth 100000 in
set_option maxHeartbeats 1000000 in
theorem growCauses_none (P : Nat) (bad : Bool) (turn deep : Int) (t : Tx) (w : World) (h : BkAt w P bad turn deep t) : Calls Tryz.prog 156 #[.pointer (some ⟨P, 0, none⟩)] w fun e w' => e = .returned (.tuple #[]) ∧ w' = w := by
  have k4 := h.cell 125 (.slice none 0 0) rfl
  have f4 := h.free 125
  have f7 := h.free 128
  have k7 := h.cell 128 (.slice none 0 0) rfl
  have HW1 : Hid (w.setCell ⟨P, 125, none⟩ (.slice none 0 0) = w) := h.same 125 _ rfl
  have HW2 : Hid (w.setCell ⟨P, 128, none⟩ (.slice none 0 0) = w) := h.same 128 _ rfl
  clear h
  go_enter Tryz.func156, Tryz.ntmps156
  go_wp2_with fail
  go_loopw [2] (fun iv wr => iv = .int .i64 0 ∧ wr = w) (fun _ _ => 0)
  case atStart => exact ⟨rfl, rfl⟩
  case round =>
    obtain ⟨rfl, rfl⟩ := hrel
    go_wp2_with fail
    rw [HW1.out, HW2.out]
    go_end0
    exact ⟨rfl, rfl⟩

set_option maxRecDepth 100000 in
set_option maxHeartbeats 1000000 in
theorem holdCauses_none (P : Nat) (bad : Bool) (turn deep : Int) (t : Tx) (w : World) (h : BkAt w P bad turn deep t) : Calls Tryz.prog 57 #[.pointer (some ⟨P, 0, none⟩)] w fun e w' => e = .returned (.bool true) ∧ w' = w := by
  have k0 := h.cell 121 (.slice none 0 0) rfl
  have k2 := h.cell 123 (.slice none 0 0) rfl
  clear h
  go_enter Tryz.func57, Tryz.ntmps57
  go_wp2_with fail
  go_loopw [3] (fun iv wr => iv = .int .i64 0 ∧ wr = w) (fun _ _ => 0)
  case atStart => exact ⟨rfl, rfl⟩
  case round =>
    obtain ⟨rfl, rfl⟩ := hrel
    go_wp2_with fail
    go_loopw [4] (fun iv wx => iv = .int .i64 0 ∧ wx = wr) (fun _ _ => 0)
    case atStart => exact ⟨rfl, rfl⟩
    case round =>
      obtain ⟨rfl, rfl⟩ := hrel
      go_wp2_with fail
      go_ret
      exact ⟨rfl, rfl⟩

set_option maxRecDepth 100000 in
set_option maxHeartbeats 1000000 in
theorem markActs_none (P : Nat) (bad : Bool) (turn deep : Int) (t : Tx) (w : World) (h : BkAt w P bad turn deep t) : Calls Tryz.prog 142 #[.pointer (some ⟨P, 0, none⟩)] w fun e w' => e = .returned (.tuple #[]) ∧ w' = w := by
  have k2 := h.cell 132 (.slice none 0 0) rfl
  have k3 := h.cell 133 (.slice none 0 0) rfl
  have k5 := h.cell 135 (.slice none 0 0) rfl
  have k6 := h.cell 136 (.slice none 0 0) rfl
  clear h
  go_enter Tryz.func142, Tryz.ntmps142
  go_wp2_with fail
  exact bodyPost_ret (by simp [results, Tryz.results142, go_sem]) rfl ⟨rfl, rfl⟩

set_option maxRecDepth 100000 in
set_option maxHeartbeats 1000000 in
theorem growActs_none (P : Nat) (bad : Bool) (turn deep : Int) (t : Tx) (w : World) (h : BkAt w P bad turn deep t) : Calls Tryz.prog 157 #[.pointer (some ⟨P, 0, none⟩)] w fun e w' => e = .returned (.tuple #[]) ∧ w' = w := by
  have k4 := h.cell 134 (.slice none 0 0) rfl
  have f4 := h.free 134
  have f7 := h.free 137
  have k7 := h.cell 137 (.slice none 0 0) rfl
  have HW1 : Hid (w.setCell ⟨P, 134, none⟩ (.slice none 0 0) = w) := h.same 134 _ rfl
  have HW2 : Hid (w.setCell ⟨P, 137, none⟩ (.slice none 0 0) = w) := h.same 137 _ rfl
  clear h
  go_enter Tryz.func157, Tryz.ntmps157
  go_wp2_with fail
  go_loopw [2] (fun iv wr => iv = .int .i64 0 ∧ wr = w) (fun _ _ => 0)
  case atStart => exact ⟨rfl, rfl⟩
  case round =>
    obtain ⟨rfl, rfl⟩ := hrel
    go_wp2_with fail
    rw [HW1.out, HW2.out]
    go_end0
    exact ⟨rfl, rfl⟩

set_option maxRecDepth 100000 in
set_option maxHeartbeats 1000000 in
theorem holdActs_none (P : Nat) (bad : Bool) (turn deep : Int) (t : Tx) (w : World) (h : BkAt w P bad turn deep t) : Calls Tryz.prog 58 #[.pointer (some ⟨P, 0, none⟩)] w fun e w' => e = .returned (.bool true) ∧ w' = w := by
  have k0 := h.cell 130 (.slice none 0 0) rfl
  have k2 := h.cell 132 (.slice none 0 0) rfl
  clear h
  go_enter Tryz.func58, Tryz.ntmps58
  go_wp2_with fail
  go_loopw [3] (fun iv wr => iv = .int .i64 0 ∧ wr = w) (fun _ _ => 0)
  case atStart => exact ⟨rfl, rfl⟩
  case round =>
    obtain ⟨rfl, rfl⟩ := hrel
    go_wp2_with fail
    go_loopw [4] (fun iv wx => iv = .int .i64 0 ∧ wx = wr) (fun _ _ => 0)
    case atStart => exact ⟨rfl, rfl⟩
    case round =>
      obtain ⟨rfl, rfl⟩ := hrel
      go_wp2_with fail
      go_ret
      exact ⟨rfl, rfl⟩
end Go.Proofs.YtchpapppkmnfnaaGreatDoor
