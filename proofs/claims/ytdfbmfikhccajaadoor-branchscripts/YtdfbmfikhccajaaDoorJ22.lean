/-
  Put together: MdV1, MdV2.
-/
import Derived.Test.YtdfbmfikhccajaaDoorMdVMath
import Derived.Test.YtdfbmfikhccajaaDoorJ21
import Derived.BigGuardPart
namespace Go.Proofs.YtdfbmfikhccajaaDoor
open Go.RowKit

set_option maxHeartbeats 400000 in
theorem isDigit_any (n : Int) (w : World) : Calls Tryd.prog 47 #[.int .u8 n] w fun e w' => e = .returned (.bool (Md.digI n)) ∧ w' = w := by
  go_enter Tryd.func47, Tryd.ntmps47
  go_wp2
  all_goals
    go_ret
    refine ⟨ret_bool ?_, rfl⟩
    unfold Md.digI
    rw [Bool.eq_iff_iff]
    simp <;> omega
set_option maxHeartbeats 400000 in
theorem isLetter_any (n : Int) (w : World) : Calls Tryd.prog 48 #[.int .u8 n] w fun e w' => e = .returned (.bool (Md.ltrI n)) ∧ w' = w := by
  go_enter Tryd.func48, Tryd.ntmps48
  go_wp2
  all_goals
    go_ret
    refine ⟨ret_bool ?_, rfl⟩
    unfold Md.ltrI
    rw [Bool.eq_iff_iff]
    simp <;> omega
theorem take_snoc (s : ByteArray) (k : Nat) (h : k < s.size) : s.data.toList.take (k + 1) = s.data.toList.take k ++ [s[k]] := by
  rw [List.take_succ_eq_append_getElem (by simpa using h)]; rfl
theorem nm_next {s : ByteArray} {k : Nat} (h : k < s.size) (ha : (s.data.toList.take k).all Md.wordB = true) (hp : Md.wordB s[k] = true) : (s.data.toList.take (k + 1)).all Md.wordB = true := by
  rw [take_snoc s k h, List.all_append, ha]; simp [hp]
theorem nm_stop {s : ByteArray} {k : Nat} (h : k < s.size) (hp : Md.wordB s[k] = false) : Md.nameB s.data.toList = false := by
  have : s.data.toList.all Md.wordB = false := by
    rw [List.all_eq_false]
    exact ⟨s[k], by rw [ByteArray.getElem_eq_getElem_data]; exact Array.getElem_mem_toList _, by simp [hp]⟩
  simp [Md.nameB, this]
theorem nm_head {s : ByteArray} (h : 0 < s.size) : Md.byteI (s.data.toList.headD 0) = ((s[0]).toNat : Int) := by
  have h' : 0 < s.data.toList.length := by simpa using h
  unfold Md.byteI
  cases hl : s.data.toList with
  | nil => rw [hl] at h'; simp at h'
  | cons a l =>
    have : s[0] = a := by
      have : s.data.toList[0]'h' = a := by simp [hl]
      rw [← this]; rfl
    rw [this]; rfl
theorem nm_done {s : ByteArray} {k : Nat} (h1 : 1 ≤ s.size) (h16 : s.size ≤ 16) (hd : Md.digI ((s[0]).toNat : Int) = false) (ha : (s.data.toList.take k).all Md.wordB = true) (hk : s.size ≤ k) : Md.nameB s.data.toList = true := by
  rw [List.take_of_length_le (by simpa using hk)] at ha
  have hl : s.data.toList.length = s.size := by simp
  unfold Md.nameB
  rw [ha, nm_head h1, hd, decide_eq_true (by omega)]
  rfl
theorem nm_dig {s : ByteArray} (h1 : 1 ≤ s.size) (hd : Md.digI ((s[0]).toNat : Int) = true) : Md.nameB s.data.toList = false := by
  unfold Md.nameB
  rw [nm_head h1, hd]
  simp
theorem nm_len {s : ByteArray} (h : s.size < 1 ∨ 16 < s.size) : Md.nameB s.data.toList = false := by
  have hl : s.data.toList.length = s.size := by simp
  unfold Md.nameB
  rw [decide_eq_false (by omega)]; rfl

set_option maxRecDepth 10000 in
set_option maxHeartbeats 1000000 in
theorem isName_any (s : ByteArray) (w : World) (hs : s.size ≤ maxLen) : Calls Tryd.prog 31 #[.string s] w fun e w' => e = .returned (.bool (Md.nameB s.data.toList)) ∧ w' = w := by
  unfold maxLen at hs
  by_cases h0 : s.size < 1
  · have hres : Hid (Md.nameB s.data.toList = false) := nm_len (.inl h0)
    obtain rfl : s = ⟨#[]⟩ := by
      obtain ⟨a⟩ := s
      congr 1
      exact Array.eq_empty_of_size_eq_zero (show a.size = 0 from by have : (ByteArray.mk a).size = a.size := rfl; omega)
    go_enter Tryd.func31, Tryd.ntmps31
    go_wp2
    go_ret
    exact ⟨ret_bool hres.out.symm, rfl⟩
  have hne : s.toList.isEmpty = false := by
    rw [ByteArray.toList_eq]
    have : 0 < s.data.toList.length := by have : s.data.toList.length = s.size := by simp
                                          omega
    cases h : s.data.toList with
    | nil => rw [h] at this; simp at this
    | cons a l => rfl
  by_cases h1 : 16 < s.size
  · have hres : Hid (Md.nameB s.data.toList = false) := nm_len (.inr h1)
    have hI : (16 : Int) < (s.size : Int) := by omega
    go_enter Tryd.func31, Tryd.ntmps31
    go_wp2
    go_ret
    exact ⟨ret_bool hres.out.symm, rfl⟩
  have hI : ¬ (16 : Int) < (s.size : Int) := by omega
  have hI0 : (0 : Int) < (s.size : Int) := by omega
  have h00 : 0 < s.size := by omega
  cases hd : Md.digI ((s[0]).toNat : Int)
  rotate_left
  · have hres : Hid (Md.nameB s.data.toList = false) := nm_dig (by omega) hd
    go_enter Tryd.func31, Tryd.ntmps31
    go_wp2_with (go_at_call 47; refine (isDigit_any _ _).mono ?_; rintro e w' ⟨rfl, hww⟩; rw [hww])
    go_ret
    exact ⟨ret_bool hres.out.symm, rfl⟩
  have HD : Hid (Md.digI ((s[0]).toNat : Int) = false) := hd
  go_enter Tryd.func31, Tryd.ntmps31
  go_wp2_with (go_at_call 47; refine (isDigit_any _ _).mono ?_; rintro e w' ⟨rfl, hww⟩; rw [hww])
  clear hd
  go_loop [18] (fun iv => ∃ k : Nat, iv = .int .i64 (k : Int) ∧ k ≤ s.size ∧ Hid ((s.data.toList.take k).all Md.wordB = true)) (fun iv => s.size - (intOf iv).toNat)
  case atStart => exact ⟨0, rfl, Nat.zero_le _, (show _ = _ by simp)⟩
  case round =>
    obtain ⟨k, rfl, hk, hA⟩ := hrel
    by_cases hlt : k < s.size
    · have hkI : (k : Int) < (s.size : Int) := by omega
      cases hL : Md.ltrI ((s[k]).toNat : Int)
      · cases hG : Md.digI ((s[k]).toNat : Int)
        · have hres : Hid (Md.nameB s.data.toList = false) := nm_stop hlt (by simp [Md.wordB, Md.byteI, hL, hG])
          go_wp2_with (first | (go_at_call 47; refine (isDigit_any _ _).mono ?_; rintro e w' ⟨rfl, hww⟩; rw [hww]) | (go_at_call 48; refine (isLetter_any _ _).mono ?_; rintro e w' ⟨rfl, hww⟩; rw [hww]))
          go_ret
          exact ⟨ret_bool hres.out.symm, rfl⟩
        · have hres : Hid ((s.data.toList.take (k + 1)).all Md.wordB = true) := nm_next hlt hA.out (by simp [Md.wordB, Md.byteI, hG])
          go_wp2_with (first | (go_at_call 47; refine (isDigit_any _ _).mono ?_; rintro e w' ⟨rfl, hww⟩; rw [hww]) | (go_at_call 48; refine (isLetter_any _ _).mono ?_; rintro e w' ⟨rfl, hww⟩; rw [hww]))
          go_round
          case rel => exact ⟨k + 1, by go_num, by omega, hres⟩
          case measure => simp [intOf]; omega
      · have hres : Hid ((s.data.toList.take (k + 1)).all Md.wordB = true) := nm_next hlt hA.out (by simp [Md.wordB, Md.byteI, hL])
        go_wp2_with (go_at_call 48; refine (isLetter_any _ _).mono ?_; rintro e w' ⟨rfl, hww⟩; rw [hww])
        go_round
        case rel => exact ⟨k + 1, by go_num, by omega, hres⟩
        case measure => simp [intOf]; omega
    · have hkI : ¬ (k : Int) < (s.size : Int) := by omega
      have hres : Hid (Md.nameB s.data.toList = true) := nm_done h00 (by omega) HD.out hA.out (by omega)
      go_wp2_with fail
      go_ret
      exact ⟨ret_bool hres.out.symm, rfl⟩
end Go.Proofs.YtdfbmfikhccajaaDoor

namespace Go.Proofs.YtdfbmfikhccajaaDoor
open Go.RowKit

/-- A slice of variables. -/
def VarsAt (w : World) (v : Value) (l : List Md.Vr) : Prop :=
  ∃ a cap, v = .slice a l.length cap ∧ l.length ≤ maxLen ∧ (∀ x ∈ l, x.name.size ≤ maxLen) ∧ (0 < l.length → ∃ b off, a = some ⟨b, off, none⟩ ∧ b < w.heap.size ∧
    ∀ j (h : j < l.length), w.cell? ⟨b, off + j * 3, none⟩ = some (.string l[j].name) ∧ w.cell? ⟨b, off + j * 3 + 1, none⟩ = some (.int .i64 l[j].lo) ∧ w.cell? ⟨b, off + j * 3 + 2, none⟩ = some (.int .i64 l[j].hi))
theorem VarsAt.below {w w' : World} {v : Value} {l : List Md.Vr} (h : VarsAt w v l) (hb : Below w.heap.size w w') : VarsAt w' v l := by
  obtain ⟨a, cap, hv, hl, hn, hc⟩ := h
  refine ⟨a, cap, hv, hl, hn, fun h0 => ?_⟩
  obtain ⟨b, off, ha, hbs, hcell⟩ := hc h0
  exact ⟨b, off, ha, Nat.lt_of_lt_of_le hbs hb.size, fun j hj => ⟨((bcell hb).1 _ _ hbs).trans (hcell j hj).1, ((bcell hb).1 _ _ hbs).trans (hcell j hj).2.1, ((bcell hb).1 _ _ hbs).trans (hcell j hj).2.2⟩⟩
theorem VarsAt.form {w : World} {v : Value} {l : List Md.Vr} (h : VarsAt w v l) : ∃ a cap, v = .slice a l.length cap ∧ l.length ≤ maxLen := by
  obtain ⟨a, cap, hv, hl, _⟩ := h
  exact ⟨a, cap, hv, hl⟩
/-- The first part of a slice. -/
theorem VarsAt.part {w : World} {a : Option Addr} {n cap : Nat} {l : List Md.Vr} (h : VarsAt w (.slice a n cap) l) (k cap' : Nat) (hk : k ≤ l.length) : VarsAt w (.slice a k cap') (l.take k) := by
  obtain ⟨a', c', hv, hl, hn, hc⟩ := h
  injection hv with e1 e2 e3
  subst e1
  have hlen : (l.take k).length = k := by simp; omega
  refine ⟨a, cap', by rw [hlen], by omega, fun x hx => hn x (List.mem_of_mem_take hx), fun h0 => ?_⟩
  obtain ⟨b, off, ha, hbs, hcell⟩ := hc (by omega)
  refine ⟨b, off, ha, hbs, fun j hj => ?_⟩
  rw [List.getElem_take]
  exact hcell j (by omega)
theorem Md.seen_next {l : List Md.Vr} {s : ByteArray} {k : Nat} (h : k < l.length) (ha : Md.seenB (l.take k) s = false) (hp : (l[k].name.toList == s.toList) = false) : Md.seenB (l.take (k + 1)) s = false := by
  unfold Md.seenB at *
  rw [Md.any_next h, ha, hp]; rfl

def vrVal (v : Md.Vr) : Value := .agg #[.string v.name, .int .i64 v.lo, .int .i64 v.hi]

set_option maxHeartbeats 400000 in
/-- Has it that name? -/
theorem clos91 (v : Md.Vr) (s : ByteArray) (p : Nat) (w : World) (hp : w.cell? ⟨p, 0, none⟩ = some (.string s)) (hpl : p < w.heap.size) :
    Calls Tryd.prog 30 #[vrVal v, .pointer (some ⟨p, 0, none⟩)] w fun e w' => e = .returned (.bool (v.name.toList == s.toList)) ∧ Below w.heap.size w w' := by
  obtain ⟨W, hW⟩ : ∃ W, w.alloc (.cells #[.string v.name, .int .i64 v.lo, .int .i64 v.hi] 39) = W := ⟨_, rfl⟩
  have hbW : Below w.heap.size w W := by rw [← hW]; exact (Below.refl _ _).alloc (Nat.le_refl _) _
  have c0 : W.cell? ⟨w.heap.size, 0, none⟩ = some (.string v.name) := by rw [← hW]; simp
  have c1 := (hbW.cell (p := ⟨p, 0, none⟩) hpl).trans hp
  have HB : Hid (Below w.heap.size w W) := hbW
  unfold vrVal
  clear hbW
  go_enter Tryd.func30, Tryd.ntmps30
  go_wp2
  go_ret
  exact ⟨rfl, HB.out⟩

set_option maxRecDepth 10000 in
set_option maxHeartbeats 1000000 in
theorem indexVars (va : Value) (l : List Md.Vr) (s : ByteArray) (p : Nat) (w : World) (hv : VarsAt w va l) (hp : w.cell? ⟨p, 0, none⟩ = some (.string s)) (hpl : p < w.heap.size) :
    Calls Tryd.prog 49 #[va, .func (.func 30) #[] #[.pointer (some ⟨p, 0, none⟩)]] w fun e w' => ∃ r : Int, e = .returned (.int .i64 r) ∧ decide (0 ≤ r) = Md.seenB l s ∧ Below w.heap.size w w' := by
  have HH : Hid (∀ (w' : World) (v : Md.Vr), Below w.heap.size w w' → Calls Tryd.prog 30 #[.agg #[.string v.name, .int .i64 v.lo, .int .i64 v.hi], .pointer (some ⟨p, 0, none⟩)] w' fun e w'' => e = .returned (.bool (v.name.toList == s.toList)) ∧ Below w'.heap.size w' w'') := fun w' v hb =>
    clos91 v s p w' ((hb.cell (p := ⟨p, 0, none⟩) hpl).trans hp) (Nat.lt_of_lt_of_le hpl hb.size)
  obtain ⟨a, cap, rfl, hm, _, hc⟩ := hv
  unfold maxLen at hm
  have HC : Hid (0 < l.length → ∃ b off, a = some ⟨b, off, none⟩ ∧ b < w.heap.size ∧ ∀ j (h : j < l.length), w.cell? ⟨b, off + j * 3, none⟩ = some (.string l[j].name) ∧ w.cell? ⟨b, off + j * 3 + 1, none⟩ = some (.int .i64 l[j].lo) ∧ w.cell? ⟨b, off + j * 3 + 2, none⟩ = some (.int .i64 l[j].hi)) := hc
  clear hc hp hpl
  go_enter Tryd.func49, Tryd.ntmps49
  go_wp2
  go_loopw [8] (fun iv wr => ∃ k : Nat, iv = .int .i64 (k : Int) ∧ k ≤ l.length ∧ Hid (Md.seenB (l.take k) s = false) ∧ Hid (Below w.heap.size w wr)) (fun iv _ => l.length - (intOf iv).toNat)
  case atStart => exact ⟨0, rfl, Nat.zero_le _, (show _ = _ by simp [Md.seenB]), Below.refl _ _⟩
  case round =>
    obtain ⟨k, rfl, hk, hA, hB⟩ := hrel
    by_cases hlt : k < l.length
    · have hkI : (k : Int) < (l.length : Int) := by omega
      obtain ⟨b, off, rfl, hb, hc⟩ := HC.out (by omega)
      obtain ⟨d0, d1, d2⟩ := hc k hlt
      have e0 := (hB.out.cell (p := ⟨b, off + k * 3, none⟩) hb).trans d0
      have e1 := (hB.out.cell (p := ⟨b, off + k * 3 + 1, none⟩) hb).trans d1
      have e2 := (hB.out.cell (p := ⟨b, off + k * 3 + 2, none⟩) hb).trans d2
      have HU : Hid (Calls Tryd.prog 30 #[.agg #[.string l[k].name, .int .i64 l[k].lo, .int .i64 l[k].hi], .pointer (some ⟨p, 0, none⟩)] wr fun e w'' => e = .returned (.bool (l[k].name.toList == s.toList)) ∧ Below wr.heap.size wr w'') := HH.out wr l[k] hB.out
      clear hc d0 d1 d2
      cases hp : (l[k].name.toList == s.toList)
      · have hnx : Hid (Md.seenB (l.take (k + 1)) s = false) := Md.seen_next hlt hA.out hp
        rw [hp] at HU
        clear hp
        generalize l[k] = x at *
        go_wp2_with (go_at_call 30; refine calls_at HU.out (by with_reducible rfl) (by with_reducible rfl) ?_; rintro e w2 ⟨rfl, hb2⟩)
        go_roundw
        case rel => exact ⟨k + 1, by go_num, by omega, hnx, hB.out.trans (hb2.mono hB.out.size)⟩
        case measure => simp [intOf]; omega
      · have hres : Hid (Md.seenB l s = true) := Md.any_stop hlt hp
        rw [hp] at HU
        clear hp
        generalize l[k] = x at *
        go_wp2_with (go_at_call 30; refine calls_at HU.out (by with_reducible rfl) (by with_reducible rfl) ?_; rintro e w2 ⟨rfl, hb2⟩)
        go_ret
        exact ⟨_, rfl, by rw [hres.out]; simp, hB.out.trans (hb2.mono hB.out.size)⟩
    · have hkI : ¬ (k : Int) < (l.length : Int) := by omega
      have hres : Hid (Md.seenB l s = false) := Md.any_done hA.out (by omega)
      go_wp2
      go_ret
      exact ⟨_, rfl, by rw [hres.out]; rfl, hB.out⟩
set_option maxHeartbeats 400000 in
theorem containsVars (va : Value) (l : List Md.Vr) (s : ByteArray) (p : Nat) (w : World) (hv : VarsAt w va l) (hp : w.cell? ⟨p, 0, none⟩ = some (.string s)) (hpl : p < w.heap.size) :
    Calls Tryd.prog 32 #[va, .func (.func 30) #[] #[.pointer (some ⟨p, 0, none⟩)]] w fun e w' => e = .returned (.bool (Md.seenB l s)) ∧ Below w.heap.size w w' := by
  have H : Hid (Calls Tryd.prog 49 #[va, .func (.func 30) #[] #[.pointer (some ⟨p, 0, none⟩)]] w fun e w' => ∃ r : Int, e = .returned (.int .i64 r) ∧ decide (0 ≤ r) = Md.seenB l s ∧ Below w.heap.size w w') := indexVars va l s p w hv hp hpl
  obtain ⟨a, cap, rfl, hm⟩ := hv.form
  clear hv hp hpl
  go_enter Tryd.func32, Tryd.ntmps32
  go_wp2_with (go_at_call 49; refine calls_at H.out (by with_reducible rfl) (by with_reducible rfl) ?_; rintro e w2 ⟨r, rfl, hr, hb2⟩; have HR : Hid (decide (0 ≤ r) = Md.seenB l s) := hr; clear hr)
  go_ret
  exact ⟨ret_bool HR.out, hb2⟩
end Go.Proofs.YtdfbmfikhccajaaDoor
