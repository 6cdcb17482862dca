/-
  Package hall: no element is sorted.
-/
import Derived.Test.YtemnbcilmbojhaaGreatDoorHlSorts
import Derived.Test.YtemnbcilmbojhaaGreatDoorMdRegT
import Derived.Test.YtemnbcilmbojhaaGreatDoorJ05
import Derived.Shelf.Small.Bits
namespace Go.Proofs.YtemnbcilmbojhaaGreatDoor
open Go.Shelf Go.RowKit

theorem len0 (w : World) : Calls Tryz.prog 69 #[.int .u64 0] w fun e w' => e = .returned (.int .i64 0) ∧ w' = w := Any.bits_Len (ρ := Tryz.lays189_ren) { Tryz.lays189 with } 0 w (by omega) (by omega)
set_option maxRecDepth 10000 in
theorem ins0 (p : Option Addr) (cap : Nat) (w : World) : Calls Tryz.prog 120 #[.slice p 0 cap, .int .i64 0, .int .i64 0] w fun e w' => e = .returned (.tuple #[]) ∧ w' = w := by
  go_enter Tryz.func120, Tryz.ntmps120
  go_wp2_with fail
  go_loopw [6] (fun iv wr => iv = .int .i64 1 ∧ wr = w) (fun _ _ => 0)
  case atStart => exact ⟨rfl, rfl⟩
  case round =>
  obtain ⟨rfl, rfl⟩ := hrel
  go_wp2_with fail
  first | go_end0 | ((try simp only [Exit.inBlock, Exit.then]); refine bodyPost_ret (results_none rfl _ _ _) rfl ?_)
  exact ⟨rfl, rfl⟩
set_option maxRecDepth 10000 in
theorem insG0 (p : Option Addr) (cap : Nat) (f : Value) (w : World) : Calls Tryz.prog 91 #[.slice p 0 cap, .int .i64 0, .int .i64 0, f] w fun e w' => e = .returned (.tuple #[]) ∧ w' = w := by
  go_enter Tryz.func91, Tryz.ntmps91
  go_wp2_with fail
  go_loopw [8] (fun iv wr => iv = .int .i64 1 ∧ wr = w) (fun _ _ => 0)
  case atStart => exact ⟨rfl, rfl⟩
  case round =>
  obtain ⟨rfl, rfl⟩ := hrel
  go_wp2_with fail
  first | go_end0 | ((try simp only [Exit.inBlock, Exit.then]); refine bodyPost_ret (results_none rfl _ _ _) rfl ?_)
  exact ⟨rfl, rfl⟩
set_option maxRecDepth 10000 in
theorem pdq0 (p : Option Addr) (cap : Nat) (w : World) : Calls Tryz.prog 100 #[.slice p 0 cap, .int .i64 0, .int .i64 0, .int .i64 0] w fun e w' => e = .returned (.tuple #[]) ∧ w' = w := by
  go_enter Tryz.func100, Tryz.ntmps100
  go_wp2_with fail
  go_loopw [1, 2] (fun iv jv wr => iv = .int .i64 0 ∧ jv = .int .i64 0 ∧ wr = w) (fun _ _ _ => 0)
  case atStart => exact ⟨rfl, rfl, rfl⟩
  case round =>
  obtain ⟨rfl, rfl, rfl⟩ := hrel
  go_wp2_with (first | (go_at_call 120; go_loud (refine calls_at (ins0 _ _ _) (by rfl) (by rfl) ?_; intro e w2 hh; obtain ⟨h1, h2⟩ := hh; subst h1; subst h2)))
  first | go_end0 | ((try simp only [Exit.inBlock, Exit.then]); refine bodyPost_ret (results_none rfl _ _ _) rfl ?_)
  exact ⟨rfl, rfl⟩
set_option maxRecDepth 10000 in
theorem pdqG0 (p : Option Addr) (cap : Nat) (f : Value) (w : World) : Calls Tryz.prog 68 #[.slice p 0 cap, .int .i64 0, .int .i64 0, .int .i64 0, f] w fun e w' => e = .returned (.tuple #[]) ∧ w' = w := by
  go_enter Tryz.func68, Tryz.ntmps68
  go_wp2_with fail
  go_loopw [1, 2] (fun iv jv wr => iv = .int .i64 0 ∧ jv = .int .i64 0 ∧ wr = w) (fun _ _ _ => 0)
  case atStart => exact ⟨rfl, rfl, rfl⟩
  case round =>
  obtain ⟨rfl, rfl, rfl⟩ := hrel
  go_wp2_with (first | (go_at_call 91; go_loud (refine calls_at (insG0 _ _ _ _) (by rfl) (by rfl) ?_; intro e w2 hh; obtain ⟨h1, h2⟩ := hh; subst h1; subst h2)))
  first | go_end0 | ((try simp only [Exit.inBlock, Exit.then]); refine bodyPost_ret (results_none rfl _ _ _) rfl ?_)
  exact ⟨rfl, rfl⟩
set_option maxRecDepth 10000 in
theorem sort0 (p : Option Addr) (cap : Nat) (w : World) : Calls Tryz.prog 70 #[.slice p 0 cap] w fun e w' => e = .returned (.tuple #[]) ∧ w' = w := by
  go_enter Tryz.func70, Tryz.ntmps70
  go_wp2_with (first | (go_at_call 69; go_loud (refine calls_at (len0 _) (by rfl) (by rfl) ?_; intro e w2 hh; obtain ⟨h1, h2⟩ := hh; subst h1; subst h2)) | (go_at_call 100; go_loud (refine calls_at (pdq0 _ _ _) (by rfl) (by rfl) ?_; intro e w2 hh; obtain ⟨h1, h2⟩ := hh; subst h1; subst h2)))
  first | go_end0 | ((try simp only [Exit.inBlock, Exit.then]); refine bodyPost_ret (results_none rfl _ _ _) rfl ?_)
  exact ⟨rfl, rfl⟩
set_option maxRecDepth 10000 in
theorem sortG0 (p : Option Addr) (cap : Nat) (f : Value) (w : World) : Calls Tryz.prog 47 #[.slice p 0 cap, f] w fun e w' => e = .returned (.tuple #[]) ∧ w' = w := by
  go_enter Tryz.func47, Tryz.ntmps47
  go_wp2_with (first | (go_at_call 69; go_loud (refine calls_at (len0 _) (by rfl) (by rfl) ?_; intro e w2 hh; obtain ⟨h1, h2⟩ := hh; subst h1; subst h2)) | (go_at_call 68; go_loud (refine calls_at (pdqG0 _ _ _ _) (by rfl) (by rfl) ?_; intro e w2 hh; obtain ⟨h1, h2⟩ := hh; subst h1; subst h2)))
  first | go_end0 | ((try simp only [Exit.inBlock, Exit.then]); refine bodyPost_ret (results_none rfl _ _ _) rfl ?_)
  exact ⟨rfl, rfl⟩
end Go.Proofs.YtemnbcilmbojhaaGreatDoor
