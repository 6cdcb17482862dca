/-
  Letters, names, bounds: the program's and the document's.
-/
import Derived.Test.YtmhfabnpfkkbcaaMdLists
import Derived.Test.YtmhfabnpfkkbcaaMdRefB
import Derived.BigGuardPart
namespace Go.Proofs.Ytmhfabnpfkkbcaa
open Go.RowKit

set_option maxHeartbeats 400000 in
theorem isDigit_any (n : Int) (w : World) : Calls Try.prog 70 #[.int .u8 n] w fun e w' => e = .returned (.bool (Md.digI n)) ∧ w' = w := by
  go_enter Try.func70, Try.ntmps70
  go_wp2
  all_goals
    go_ret
    refine ⟨ret_bool ?_, rfl⟩
    unfold Md.digI
    rw [Bool.eq_iff_iff]
    simp <;> omega
set_option maxHeartbeats 400000 in
theorem isLetter_any (n : Int) (w : World) : Calls Try.prog 71 #[.int .u8 n] w fun e w' => e = .returned (.bool (Md.ltrI n)) ∧ w' = w := by
  go_enter Try.func71, Try.ntmps71
  go_wp2
  all_goals
    go_ret
    refine ⟨ret_bool ?_, rfl⟩
    unfold Md.ltrI
    rw [Bool.eq_iff_iff]
    simp <;> omega
theorem take_snoc (s : ByteArray) (k : Nat) (h : k < s.size) : s.data.toList.take (k + 1) = s.data.toList.take k ++ [s[k]] := by
  rw [List.take_succ_eq_append_getElem (by simpa using h)]; rfl
theorem nm_next {s : ByteArray} {k : Nat} (h : k < s.size) (ha : (s.data.toList.take k).all Md.wordB = true) (hp : Md.wordB s[k] = true) : (s.data.toList.take (k + 1)).all Md.wordB = true := by
  rw [take_snoc s k h, List.all_append, ha]; simp [hp]
theorem nm_stop {s : ByteArray} {k : Nat} (h : k < s.size) (hp : Md.wordB s[k] = false) : Md.nameB s.data.toList = false := by
  have : s.data.toList.all Md.wordB = false := by
    rw [List.all_eq_false]
    exact ⟨s[k], by rw [ByteArray.getElem_eq_getElem_data]; exact Array.getElem_mem_toList _, by simp [hp]⟩
  simp [Md.nameB, this]
theorem nm_head {s : ByteArray} (h : 0 < s.size) : Md.byteI (s.data.toList.headD 0) = ((s[0]).toNat : Int) := by
  have h' : 0 < s.data.toList.length := by simpa using h
  unfold Md.byteI
  cases hl : s.data.toList with
  | nil => rw [hl] at h'; simp at h'
  | cons a l =>
    have : s[0] = a := by
      have : s.data.toList[0]'h' = a := by simp [hl]
      rw [← this]; rfl
    rw [this]; rfl
theorem nm_done {s : ByteArray} {k : Nat} (h1 : 1 ≤ s.size) (h16 : s.size ≤ 16) (hd : Md.digI ((s[0]).toNat : Int) = false) (ha : (s.data.toList.take k).all Md.wordB = true) (hk : s.size ≤ k) : Md.nameB s.data.toList = true := by
  rw [List.take_of_length_le (by simpa using hk)] at ha
  have hl : s.data.toList.length = s.size := by simp
  unfold Md.nameB
  rw [ha, nm_head h1, hd, decide_eq_true (by omega)]
  rfl
theorem nm_dig {s : ByteArray} (h1 : 1 ≤ s.size) (hd : Md.digI ((s[0]).toNat : Int) = true) : Md.nameB s.data.toList = false := by
  unfold Md.nameB
  rw [nm_head h1, hd]
  simp
theorem nm_len {s : ByteArray} (h : s.size < 1 ∨ 16 < s.size) : Md.nameB s.data.toList = false := by
  have hl : s.data.toList.length = s.size := by simp
  unfold Md.nameB
  rw [decide_eq_false (by omega)]; rfl

set_option maxRecDepth 10000 in
set_option maxHeartbeats 1000000 in
theorem isName_any (s : ByteArray) (w : World) (hs : s.size ≤ maxLen) : Calls Try.prog 59 #[.string s] w fun e w' => e = .returned (.bool (Md.nameB s.data.toList)) ∧ w' = w := by
  unfold maxLen at hs
  by_cases h0 : s.size < 1
  · have hres : Hid (Md.nameB s.data.toList = false) := nm_len (.inl h0)
    obtain rfl : s = ⟨#[]⟩ := by
      obtain ⟨a⟩ := s
      congr 1
      exact Array.eq_empty_of_size_eq_zero (show a.size = 0 from by have : (ByteArray.mk a).size = a.size := rfl; omega)
    go_enter Try.func59, Try.ntmps59
    go_wp2
    go_ret
    exact ⟨ret_bool hres.out.symm, rfl⟩
  have hne : s.toList.isEmpty = false := by
    rw [ByteArray.toList_eq]
    have : 0 < s.data.toList.length := by have : s.data.toList.length = s.size := by simp
                                          omega
    cases h : s.data.toList with
    | nil => rw [h] at this; simp at this
    | cons a l => rfl
  by_cases h1 : 16 < s.size
  · have hres : Hid (Md.nameB s.data.toList = false) := nm_len (.inr h1)
    have hI : (16 : Int) < (s.size : Int) := by omega
    go_enter Try.func59, Try.ntmps59
    go_wp2
    go_ret
    exact ⟨ret_bool hres.out.symm, rfl⟩
  have hI : ¬ (16 : Int) < (s.size : Int) := by omega
  have hI0 : (0 : Int) < (s.size : Int) := by omega
  have h00 : 0 < s.size := by omega
  cases hd : Md.digI ((s[0]).toNat : Int)
  rotate_left
  · have hres : Hid (Md.nameB s.data.toList = false) := nm_dig (by omega) hd
    go_enter Try.func59, Try.ntmps59
    go_wp2_with (go_at_call 70; refine (isDigit_any _ _).mono ?_; rintro e w' ⟨rfl, hww⟩; rw [hww])
    go_ret
    exact ⟨ret_bool hres.out.symm, rfl⟩
  have HD : Hid (Md.digI ((s[0]).toNat : Int) = false) := hd
  go_enter Try.func59, Try.ntmps59
  go_wp2_with (go_at_call 70; refine (isDigit_any _ _).mono ?_; rintro e w' ⟨rfl, hww⟩; rw [hww])
  clear hd
  go_loop [18] (fun iv => ∃ k : Nat, iv = .int .i64 (k : Int) ∧ k ≤ s.size ∧ Hid ((s.data.toList.take k).all Md.wordB = true)) (fun iv => s.size - (intOf iv).toNat)
  case atStart => exact ⟨0, rfl, Nat.zero_le _, (show _ = _ by simp)⟩
  case round =>
    obtain ⟨k, rfl, hk, hA⟩ := hrel
    by_cases hlt : k < s.size
    · have hkI : (k : Int) < (s.size : Int) := by omega
      cases hL : Md.ltrI ((s[k]).toNat : Int)
      · cases hG : Md.digI ((s[k]).toNat : Int)
        · have hres : Hid (Md.nameB s.data.toList = false) := nm_stop hlt (by simp [Md.wordB, Md.byteI, hL, hG])
          go_wp2_with (first | (go_at_call 70; refine (isDigit_any _ _).mono ?_; rintro e w' ⟨rfl, hww⟩; rw [hww]) | (go_at_call 71; refine (isLetter_any _ _).mono ?_; rintro e w' ⟨rfl, hww⟩; rw [hww]))
          go_ret
          exact ⟨ret_bool hres.out.symm, rfl⟩
        · have hres : Hid ((s.data.toList.take (k + 1)).all Md.wordB = true) := nm_next hlt hA.out (by simp [Md.wordB, Md.byteI, hG])
          go_wp2_with (first | (go_at_call 70; refine (isDigit_any _ _).mono ?_; rintro e w' ⟨rfl, hww⟩; rw [hww]) | (go_at_call 71; refine (isLetter_any _ _).mono ?_; rintro e w' ⟨rfl, hww⟩; rw [hww]))
          go_round
          case rel => exact ⟨k + 1, by go_num, by omega, hres⟩
          case measure => simp [intOf]; omega
      · have hres : Hid ((s.data.toList.take (k + 1)).all Md.wordB = true) := nm_next hlt hA.out (by simp [Md.wordB, Md.byteI, hL])
        go_wp2_with (go_at_call 71; refine (isLetter_any _ _).mono ?_; rintro e w' ⟨rfl, hww⟩; rw [hww])
        go_round
        case rel => exact ⟨k + 1, by go_num, by omega, hres⟩
        case measure => simp [intOf]; omega
    · have hkI : ¬ (k : Int) < (s.size : Int) := by omega
      have hres : Hid (Md.nameB s.data.toList = true) := nm_done h00 (by omega) HD.out hA.out (by omega)
      go_wp2_with fail
      go_ret
      exact ⟨ret_bool hres.out.symm, rfl⟩
end Go.Proofs.Ytmhfabnpfkkbcaa
