/-
  The small functions of package model and of the document's side.
-/
import Derived.Test.YtkgeknlmkkoobaaProg
import Derived.Test.YtkgeknlmkkoobaaMdLists
import Derived.WalkKit
import Derived.WalkSpells
import Derived.WalkLawsBesides
import Derived.BigQuiet
import Derived.Deep.QuietTactic
namespace Go.Proofs.Ytkgeknlmkkoobaa
open Go.RowKit

theorem bcell {W w1 : World} (hb : Below W.heap.size W w1) : (∀ b o, b < W.heap.size → w1.cell? ⟨b, o, none⟩ = W.cell? ⟨b, o, none⟩) ∧ (∀ b o, b < W.heap.size → w1.frozen? ⟨b, o, none⟩ = W.frozen? ⟨b, o, none⟩) :=
  ⟨fun b o h => hb.cell (p := ⟨b, o, none⟩) h, fun b o h => hb.frozen (p := ⟨b, o, none⟩) h⟩
theorem ret_int {k : IntKind} {a b : Int} (h : a = b) : Ending.returned (.int k a) = .returned (.int k b) := by rw [h]
theorem ret_bool {a b : Bool} (h : a = b) : Ending.returned (.bool a) = .returned (.bool b) := by rw [h]
theorem calls_at {P : Program} {f : FuncId} {args args' : Array Value} {w w' : World} {Q Q' : Ending → World → Prop} (h : Calls P f args w Q) (e : args' = args) (ew : w' = w) (hm : ∀ e w', Q e w' → Q' e w') : Calls P f args' w' Q' := by
  subst e ew
  exact h.mono hm

set_option maxHeartbeats 400000 in
theorem isNumber_any (n : Int) (w : World) : Calls Try.prog 51 #[.int .i64 n] w fun e w' => e = .returned (.bool (Md.numB n)) ∧ w' = w := by
  by_cases h1 : -1000000000 ≤ n
  · by_cases h2 : n ≤ 1000000000
    · have hd : Md.numB n = true := decide_eq_true ⟨h1, h2⟩
      rw [hd]; clear hd
      go_enter Try.func51, Try.ntmps51
      go_wp2
      go_ret
      exact ⟨rfl, rfl⟩
    · have hd : Md.numB n = false := decide_eq_false (fun h => h2 h.2)
      rw [hd]; clear hd
      go_enter Try.func51, Try.ntmps51
      go_wp2
      go_ret
      exact ⟨rfl, rfl⟩
  · have hd : Md.numB n = false := decide_eq_false (fun h => h1 h.1)
    rw [hd]; clear hd
    go_enter Try.func51, Try.ntmps51
    go_wp2
    go_ret
    exact ⟨rfl, rfl⟩

set_option maxHeartbeats 400000 in
theorem isPlace_any (x n : Int) (w : World) : Calls Try.prog 68 #[.int .i64 x, .int .i64 n] w fun e w' => e = .returned (.bool (Md.plB n x)) ∧ w' = w := by
  by_cases h1 : 0 ≤ x
  · by_cases h2 : x < n
    · have hd : Md.plB n x = true := decide_eq_true ⟨h1, h2⟩
      rw [hd]; clear hd
      go_enter Try.func68, Try.ntmps68
      go_wp2
      go_ret
      exact ⟨rfl, rfl⟩
    · have hd : Md.plB n x = false := decide_eq_false (fun h => h2 h.2)
      rw [hd]; clear hd
      go_enter Try.func68, Try.ntmps68
      go_wp2
      go_ret
      exact ⟨rfl, rfl⟩
  · have hd : Md.plB n x = false := decide_eq_false (fun h => h1 h.1)
    rw [hd]; clear hd
    go_enter Try.func68, Try.ntmps68
    go_wp2
    go_ret
    exact ⟨rfl, rfl⟩

set_option maxHeartbeats 400000 in
theorem isMany_any (x m : Nat) (w : World) : Calls Try.prog 60 #[.int .i64 (x : Int), .int .i64 (m : Int)] w fun e w' => e = .returned (.bool (!Md.fewB x m)) ∧ w' = w := by
  by_cases h1 : (1 : Int) ≤ (x : Int)
  · by_cases h2 : (x : Int) ≤ (m : Int)
    · have hd : Md.fewB x m = false := decide_eq_false (fun h => by omega)
      rw [hd]; clear hd
      go_enter Try.func60, Try.ntmps60
      go_wp2
      go_ret
      exact ⟨rfl, rfl⟩
    · have hd : Md.fewB x m = true := decide_eq_true (by omega)
      rw [hd]; clear hd
      go_enter Try.func60, Try.ntmps60
      go_wp2
      go_ret
      exact ⟨rfl, rfl⟩
  · have hd : Md.fewB x m = true := decide_eq_true (by omega)
    rw [hd]; clear hd
    go_enter Try.func60, Try.ntmps60
    go_wp2
    go_ret
    exact ⟨rfl, rfl⟩

set_option maxHeartbeats 400000 in
theorem compare_any (a op b : Int) (w : World) (ho : 1 ≤ op ∧ op ≤ 3) : Calls Try.prog 90 #[.int .i64 a, .int .i64 op, .int .i64 b] w fun e w' => e = .returned (.bool (Md.cmpB op a b)) ∧ w' = w := by
  rcases (show op = 1 ∨ op = 2 ∨ op = 3 by omega) with rfl | rfl | rfl
  · by_cases h : a ≤ b
    · have hd : Md.cmpB 1 a b = true := decide_eq_true h
      rw [hd]; clear hd
      go_enter Try.func90, Try.ntmps90
      go_wp2
      go_ret
      exact ⟨rfl, rfl⟩
    · have hd : Md.cmpB 1 a b = false := decide_eq_false h
      rw [hd]; clear hd
      go_enter Try.func90, Try.ntmps90
      go_wp2
      go_ret
      exact ⟨rfl, rfl⟩
  · by_cases h : a = b
    · have hd : Md.cmpB 2 a b = true := decide_eq_true h
      rw [hd]; clear hd
      go_enter Try.func90, Try.ntmps90
      go_wp2
      go_ret
      exact ⟨ret_bool (by simp), rfl⟩
    · have hd : Md.cmpB 2 a b = false := decide_eq_false h
      rw [hd]; clear hd
      go_enter Try.func90, Try.ntmps90
      go_wp2
      go_ret
      exact ⟨ret_bool (by simp [h]), rfl⟩
  · by_cases h : b ≤ a
    · have hd : Md.cmpB 3 a b = true := decide_eq_true h
      rw [hd]; clear hd
      go_enter Try.func90, Try.ntmps90
      go_wp2
      go_ret
      exact ⟨rfl, rfl⟩
    · have hd : Md.cmpB 3 a b = false := decide_eq_false h
      rw [hd]; clear hd
      go_enter Try.func90, Try.ntmps90
      go_wp2
      go_ret
      exact ⟨rfl, rfl⟩
end Go.Proofs.Ytkgeknlmkkoobaa
