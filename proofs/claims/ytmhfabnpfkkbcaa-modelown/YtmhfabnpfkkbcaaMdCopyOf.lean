/-
  copyOf, of each kind of lists.
-/
import Derived.Test.YtmhfabnpfkkbcaaMdOff
namespace Go.Proofs.Ytmhfabnpfkkbcaa
open Go.RowKit

theorem und22' : Try.prog.underlying 22 = some (.slice 37) := by kernel_rfl
theorem und23' : Try.prog.underlying 23 = some (.slice 40) := by kernel_rfl
theorem und24' : Try.prog.underlying 24 = some (.slice 35) := by kernel_rfl
theorem und27' : Try.prog.underlying 27 = some (.slice 3) := by kernel_rfl
theorem und38' : Try.prog.underlying 38 = some (.slice 27) := by kernel_rfl
theorem info37' : (Try.prog.info? 37).map (fun i => (i.zero, i.size, i.bytes)) = some (some (.agg #[.string ⟨#[]⟩, .int .i64 0, .int .i64 0]), 3, 32) := by kernel_rfl
theorem info40' : (Try.prog.info? 40).map (fun i => (i.zero, i.size, i.bytes)) = some (some (.agg #[.int .i64 0, .int .i64 0, .slice none 0 0, .int .i64 0, .int .i64 0, .int .i64 0, .int .i64 0, .slice none 0 0, .slice none 0 0, .slice none 0 0]), 10, 144) := by kernel_rfl
theorem info35' : (Try.prog.info? 35).map (fun i => (i.zero, i.size, i.bytes)) = some (some (.agg #[.int .i64 0, .int .i64 0]), 2, 16) := by kernel_rfl
theorem info3' : (Try.prog.info? 3).map (fun i => (i.zero, i.size, i.bytes)) = some (some (.int .i64 0), 1, 8) := by kernel_rfl
theorem info27' : (Try.prog.info? 27).map (fun i => (i.zero, i.size, i.bytes)) = some (some (.slice none 0 0), 1, 24) := by kernel_rfl
theorem copyOf36 (x : Value) (n : Nat) (news : List Value) (w : World) (h : SrcAt w x n 3 news) (hn : n ≤ 1000000) : Calls Try.prog 36 #[x] w fun e w' => ∃ v, e = .returned v ∧ w'.ownsRow w.heap.size 37 3 v n news ∧ Below w.heap.size w w' := by
  have HS : Hid (SrcAt w x n 3 news) := h
  have HO : Hid (w.ownsRow w.heap.size 37 3 (.slice none 0 0) 0 []) := World.ownsRow_nil _ _ _ _
  clear h
  go_enter Try.func36, Try.ntmps36
  go_wp2_with (at_builtin; refine append_src w rfl (.const (.slice none 0 0)) (.tmp 3) 22 37 (.agg #[.string ⟨#[]⟩, .int .i64 0, .int .i64 0]) 3 32 rfl und22' info37' rfl (by decide) w.heap.size _ _ 0 n [] _ (by rfl) (by rfl) HO.out HS.out (by unfold maxLen; omega) (by omega) (Nat.le_refl _) ?_; intro v1 w1 ho1 hg1 hn1)
  have HO1 : Hid (w1.ownsRow w.heap.size 37 3 v1 n news) := by
    show World.ownsRow _ _ _ _ _ _ _
    rw [Nat.zero_add, List.nil_append] at ho1
    exact ho1
  have HB1 : Hid (Below w.heap.size w w1) := (Below.refl _ _).grown hg1 (Nat.le_refl _) (fun g hg => by simp [Value.ownBlock] at hg)
  clear ho1 hg1 hn1
  go_ret
  exact ⟨_, rfl, HO1.out, HB1.out⟩
theorem copyOf37 (x : Value) (n : Nat) (news : List Value) (w : World) (h : SrcAt w x n 10 news) (hn : n ≤ 1000000) : Calls Try.prog 37 #[x] w fun e w' => ∃ v, e = .returned v ∧ w'.ownsRow w.heap.size 40 10 v n news ∧ Below w.heap.size w w' := by
  have HS : Hid (SrcAt w x n 10 news) := h
  have HO : Hid (w.ownsRow w.heap.size 40 10 (.slice none 0 0) 0 []) := World.ownsRow_nil _ _ _ _
  clear h
  go_enter Try.func37, Try.ntmps37
  go_wp2_with (at_builtin; refine append_src w rfl (.const (.slice none 0 0)) (.tmp 3) 23 40 (.agg #[.int .i64 0, .int .i64 0, .slice none 0 0, .int .i64 0, .int .i64 0, .int .i64 0, .int .i64 0, .slice none 0 0, .slice none 0 0, .slice none 0 0]) 10 144 rfl und23' info40' rfl (by decide) w.heap.size _ _ 0 n [] _ (by rfl) (by rfl) HO.out HS.out (by unfold maxLen; omega) (by omega) (Nat.le_refl _) ?_; intro v1 w1 ho1 hg1 hn1)
  have HO1 : Hid (w1.ownsRow w.heap.size 40 10 v1 n news) := by
    show World.ownsRow _ _ _ _ _ _ _
    rw [Nat.zero_add, List.nil_append] at ho1
    exact ho1
  have HB1 : Hid (Below w.heap.size w w1) := (Below.refl _ _).grown hg1 (Nat.le_refl _) (fun g hg => by simp [Value.ownBlock] at hg)
  clear ho1 hg1 hn1
  go_ret
  exact ⟨_, rfl, HO1.out, HB1.out⟩
theorem copyOf38 (x : Value) (n : Nat) (news : List Value) (w : World) (h : SrcAt w x n 2 news) (hn : n ≤ 1000000) : Calls Try.prog 38 #[x] w fun e w' => ∃ v, e = .returned v ∧ w'.ownsRow w.heap.size 35 2 v n news ∧ Below w.heap.size w w' := by
  have HS : Hid (SrcAt w x n 2 news) := h
  have HO : Hid (w.ownsRow w.heap.size 35 2 (.slice none 0 0) 0 []) := World.ownsRow_nil _ _ _ _
  clear h
  go_enter Try.func38, Try.ntmps38
  go_wp2_with (at_builtin; refine append_src w rfl (.const (.slice none 0 0)) (.tmp 3) 24 35 (.agg #[.int .i64 0, .int .i64 0]) 2 16 rfl und24' info35' rfl (by decide) w.heap.size _ _ 0 n [] _ (by rfl) (by rfl) HO.out HS.out (by unfold maxLen; omega) (by omega) (Nat.le_refl _) ?_; intro v1 w1 ho1 hg1 hn1)
  have HO1 : Hid (w1.ownsRow w.heap.size 35 2 v1 n news) := by
    show World.ownsRow _ _ _ _ _ _ _
    rw [Nat.zero_add, List.nil_append] at ho1
    exact ho1
  have HB1 : Hid (Below w.heap.size w w1) := (Below.refl _ _).grown hg1 (Nat.le_refl _) (fun g hg => by simp [Value.ownBlock] at hg)
  clear ho1 hg1 hn1
  go_ret
  exact ⟨_, rfl, HO1.out, HB1.out⟩
theorem copyOf39 (x : Value) (n : Nat) (news : List Value) (w : World) (h : SrcAt w x n 1 news) (hn : n ≤ 1000000) : Calls Try.prog 39 #[x] w fun e w' => ∃ v, e = .returned v ∧ w'.ownsRow w.heap.size 3 1 v n news ∧ Below w.heap.size w w' := by
  have HS : Hid (SrcAt w x n 1 news) := h
  have HO : Hid (w.ownsRow w.heap.size 3 1 (.slice none 0 0) 0 []) := World.ownsRow_nil _ _ _ _
  clear h
  go_enter Try.func39, Try.ntmps39
  go_wp2_with (at_builtin; refine append_src w rfl (.const (.slice none 0 0)) (.tmp 3) 27 3 (.int .i64 0) 1 8 rfl und27' info3' rfl (by decide) w.heap.size _ _ 0 n [] _ (by rfl) (by rfl) HO.out HS.out (by unfold maxLen; omega) (by omega) (Nat.le_refl _) ?_; intro v1 w1 ho1 hg1 hn1)
  have HO1 : Hid (w1.ownsRow w.heap.size 3 1 v1 n news) := by
    show World.ownsRow _ _ _ _ _ _ _
    rw [Nat.zero_add, List.nil_append] at ho1
    exact ho1
  have HB1 : Hid (Below w.heap.size w w1) := (Below.refl _ _).grown hg1 (Nat.le_refl _) (fun g hg => by simp [Value.ownBlock] at hg)
  clear ho1 hg1 hn1
  go_ret
  exact ⟨_, rfl, HO1.out, HB1.out⟩
theorem copyOf40 (x : Value) (n : Nat) (news : List Value) (w : World) (h : SrcAt w x n 1 news) (hn : n ≤ 1000000) : Calls Try.prog 40 #[x] w fun e w' => ∃ v, e = .returned v ∧ w'.ownsRow w.heap.size 27 1 v n news ∧ Below w.heap.size w w' := by
  have HS : Hid (SrcAt w x n 1 news) := h
  have HO : Hid (w.ownsRow w.heap.size 27 1 (.slice none 0 0) 0 []) := World.ownsRow_nil _ _ _ _
  clear h
  go_enter Try.func40, Try.ntmps40
  go_wp2_with (at_builtin; refine append_src w rfl (.const (.slice none 0 0)) (.tmp 3) 38 27 (.slice none 0 0) 1 24 rfl und38' info27' rfl (by decide) w.heap.size _ _ 0 n [] _ (by rfl) (by rfl) HO.out HS.out (by unfold maxLen; omega) (by omega) (Nat.le_refl _) ?_; intro v1 w1 ho1 hg1 hn1)
  have HO1 : Hid (w1.ownsRow w.heap.size 27 1 v1 n news) := by
    show World.ownsRow _ _ _ _ _ _ _
    rw [Nat.zero_add, List.nil_append] at ho1
    exact ho1
  have HB1 : Hid (Below w.heap.size w w1) := (Below.refl _ _).grown hg1 (Nat.le_refl _) (fun g hg => by simp [Value.ownBlock] at hg)
  clear ho1 hg1 hn1
  go_ret
  exact ⟨_, rfl, HO1.out, HB1.out⟩
end Go.Proofs.Ytmhfabnpfkkbcaa
