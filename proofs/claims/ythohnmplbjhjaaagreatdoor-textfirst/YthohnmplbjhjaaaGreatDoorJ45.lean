/-
  Put together: TfMath, TfCut.
-/
import Derived.Test.YthohnmplbjhjaaaGreatDoorJ44
namespace Go.Proofs.YthohnmplbjhjaaaGreatDoor
open Go Go.RowKit

/-- A text up to its n-th line's end. -/
def cutT : List UInt8 → Nat → List UInt8
  | [], _ => []
  | c :: s, n => if c = 10 then (if n = 1 then [] else c :: cutT s (n - 1)) else c :: cutT s n
theorem cut_lines : ∀ (s cur : List UInt8) (n : Nat), 1 ≤ n → linesT (cutT s n) cur = (linesT s cur).take n
  | [], cur, n, h => by
    obtain ⟨k, rfl⟩ : ∃ k, n = k + 1 := ⟨n - 1, by omega⟩
    simp [cutT, linesT]
  | c :: s, cur, n, h => by
    obtain ⟨k, rfl⟩ : ∃ k, n = k + 1 := ⟨n - 1, by omega⟩
    by_cases hc : c = 10
    · by_cases hk : k = 0
      · subst hk
        simp [cutT, hc, linesT]
      · have h1 : cutT (c :: s) (k + 1) = c :: cutT s k := by simp [cutT, hc, hk]
        rw [h1]
        simp only [linesT, if_pos hc, List.take_succ_cons]
        rw [cut_lines s [] k (by omega)]
    · have h1 : cutT (c :: s) (k + 1) = c :: cutT s (k + 1) := by simp [cutT, hc]
      rw [h1]
      simp only [linesT, if_neg hc]
      exact cut_lines s _ (k + 1) (by omega)
theorem cut_len : ∀ (s : List UInt8) (n : Nat), (cutT s n).length ≤ s.length
  | [], _ => Nat.le_refl _
  | c :: s, n => by
    unfold cutT
    split
    · split
      · simp
      · have := cut_len s (n - 1); simp; omega
    · have := cut_len s n; simp; omega
theorem lines_app : ∀ (s t cur : List UInt8), linesT (s ++ 10 :: t) cur = linesT s cur ++ linesT t []
  | [], t, cur => by simp [linesT]
  | c :: s, t, cur => by
    show (if c = 10 then cur :: linesT (s ++ 10 :: t) [] else linesT (s ++ 10 :: t) (cur ++ [c])) = (if c = 10 then cur :: linesT s [] else linesT s (cur ++ [c])) ++ linesT t []
    by_cases hc : c = 10
    · rw [if_pos hc, if_pos hc, lines_app s t []]; rfl
    · rw [if_neg hc, if_neg hc]; exact lines_app s t _
theorem goT_app : ∀ (A B : List (List UInt8)) (i : Nat) (m : Md.Mo) (r : Md.Mo × (Nat × Int)), goT A i m = (r.1, some r.2) → goT (A ++ B) i m = (r.1, some r.2)
  | [], B, i, m, r, h => by simp [goT] at h
  | l :: A, B, i, m, r, h => by
    show goT (l :: (A ++ B)) i m = _
    unfold goT at h ⊢
    split
    · rename_i h0
      rw [if_pos h0] at h
      exact goT_app A B _ _ r h
    · rename_i h0
      rw [if_neg h0] at h
      exact h
theorem goT_take : ∀ (L : List (List UInt8)) (i : Nat) (m m' : Md.Mo) (j : Nat) (e : Int), goT L i m = (m', some (j, e)) → i ≤ j ∧ j < i + L.length ∧ goT (L.take (j + 1 - i)) i m = (m', some (j, e)) ∧ e ≠ 0
  | [], i, m, m', j, e, h => by simp [goT] at h
  | l :: L, i, m, m', j, e, h => by
    unfold goT at h
    split at h
    · rename_i h0
      obtain ⟨h1, h2, h3, h4⟩ := goT_take L (i + 1) _ m' j e h
      refine ⟨by omega, by simp; omega, ?_, h4⟩
      obtain ⟨k, hk⟩ : ∃ k, j + 1 - i = k + 1 := ⟨j - i, by omega⟩
      have hk2 : j + 1 - (i + 1) = k := by omega
      rw [hk, List.take_succ_cons]
      unfold goT
      rw [if_pos h0, ← hk2]
      exact h3
    · rename_i h0
      simp only [Prod.mk.injEq, Option.some.injEq] at h
      obtain ⟨rfl, rfl, rfl⟩ := h
      refine ⟨Nat.le_refl _, by simp, ?_, h0⟩
      have hk : i + 1 - i = 0 + 1 := by omega
      rw [hk, List.take_succ_cons]
      unfold goT
      rw [if_neg h0]
/-- A text's fault, but for those that speak of the whole. -/
theorem first_fault {s : List UInt8} (h50 : (parseT s).2.2 ≠ 50) (h59 : (parseT s).2.2 ≠ 59) (h0 : (parseT s).2.2 ≠ 0) : ∃ (n : Nat) (m : Md.Mo), 1 ≤ n ∧ s.length ≤ 65536 ∧ parseT s = (zm, ((n : Int), (parseT s).2.2)) ∧ goT ((linesT s []).take n) 1 zm = (m, some (n, (parseT s).2.2)) := by
  by_cases hlong : 65536 < s.length
  · exact absurd (by unfold parseT; rw [if_pos hlong]) h50
  · have hp := parse_fin hlong
    obtain ⟨g, hg⟩ : ∃ g, goT (linesT s []) 1 zm = g := ⟨_, rfl⟩
    rw [hg] at hp
    obtain ⟨m, o⟩ := g
    cases o with
    | none =>
      exfalso
      have hp' : parseT s = if m.vars = [] then (zm, (((linesT s []).length : Int), 59)) else (m, (0, 0)) := hp
      by_cases hv : m.vars = []
      · rw [if_pos hv] at hp'; exact h59 (by rw [hp'])
      · rw [if_neg hv] at hp'; exact h0 (by rw [hp'])
    | some q =>
      obtain ⟨n, e⟩ := q
      have he : (parseT s).2.2 = e := by rw [hp]; rfl
      obtain ⟨h1, h2, h3, _⟩ := goT_take _ 1 zm m n e hg
      rw [he]
      refine ⟨n, m, h1, by omega, hp, ?_⟩
      have : n + 1 - 1 = n := by omega
      rw [this] at h3
      exact h3
theorem first_same {s t : List UInt8} {n : Nat} {m : Md.Mo} {e : Int} (h : goT ((linesT s []).take n) 1 zm = (m, some (n, e))) (hn : 1 ≤ n) (hs : s.length ≤ 65536) :
    parseT (cutT s n) = (zm, ((n : Int), e)) ∧ ((cutT s n ++ 10 :: t).length ≤ 65536 → parseT (cutT s n ++ 10 :: t) = (zm, ((n : Int), e))) := by
  have hc := cut_len s n
  constructor
  · rw [parse_fin (by omega), cut_lines s [] n hn, h]
    rfl
  · intro hl
    rw [parse_fin (by omega), lines_app, cut_lines s [] n hn, goT_app _ _ 1 zm (m, (n, e)) h]
    rfl
end Go.Proofs.YthohnmplbjhjaaaGreatDoor

namespace Go.Proofs.YthohnmplbjhjaaaGreatDoor
open Go Go.RowKit Go.Shelf Go.Lib

set_option maxRecDepth 10000 in
set_option maxHeartbeats 2000000 in
theorem cut_any (s : List UInt8) (n : Nat) (w : World) (hn : 1 ≤ n) (hs : s.length ≤ 1000000) (hn2 : n ≤ 10000000) : Calls Tryz.prog 18 #[.string (txtOf s), .int .i64 (n : Int)] w fun e w' => e = .returned (.string (txtOf (cutT s n))) ∧ w' = w := by
  obtain ⟨R, hR⟩ : ∃ R, cutT s n = R := ⟨_, rfl⟩
  have HR : Hid (s.take 0 ++ cutT (s.drop 0) n = R) := by show _ = _; simpa using hR
  rw [hR]
  clear hR
  obtain ⟨X, hX⟩ : ∃ X, txtOf s = X := ⟨_, rfl⟩
  have HX : Hid (txtOf s = X) := hX
  have hXs : X.size = s.length := by rw [← hX]; exact txt_size s
  have hXd : X.data.toList = s := by rw [← hX]; exact txt_list s
  rw [hX]
  clear hX
  go_enter Tryz.func18, Tryz.ntmps18
  go_wp2_with fail
  go_loopw [1, 5] (fun v1 v5 wr => ∃ (k i : Nat), v1 = .int .i64 (k : Int) ∧ v5 = .int .i64 (i : Int) ∧ 1 ≤ k ∧ k ≤ 10000000 ∧ i ≤ s.length ∧ Hid (s.take i ++ cutT (s.drop i) k = R) ∧ wr = w) (fun _ v5 _ => (s.length - RowKit.intOf v5).toNat)
  case atStart => exact ⟨n, 0, rfl, rfl, hn, hn2, by omega, HR.out, rfl⟩
  case round =>
    obtain ⟨k, i, rfl, rfl, hk, hk2, hi, HC, rfl⟩ := hrel
    by_cases hil : i < s.length
    · have h1 : decide ((i : Int) < (X.size : Int)) = true := decide_eq_true (by omega)
      have h1I : (i : Int) < (X.size : Int) := by omega
      have hdr : s.drop i = s[i] :: s.drop (i + 1) := List.drop_eq_getElem_cons hil
      have htk : s.take (i + 1) = s.take i ++ [s[i]] := by rw [List.take_succ_eq_append_getElem hil]
      have hXi : X[i] = s[i] := by
        have h2 : X.data.toList[i]? = some s[i] := by rw [hXd]; exact List.getElem?_eq_getElem hil
        have h3 : i < X.data.size := by have : X.size = X.data.size := rfl; omega
        have h4 : X.data[i]? = some s[i] := by simpa using h2
        have h5 := (Array.getElem?_eq_some_iff.1 h4).2
        exact h5
      by_cases hc : s[i] = 10
      · have hq : ((X[i].toNat : Int) == 10) = true := by rw [hXi, hc]; rfl
        by_cases hk1 : k = 1
        · subst hk1
          have hq2 : ((1 : Int) - 1 == 0) = true := rfl
          have HD : Hid (s.take i = R) := by
            show _ = _
            rw [← HC.out, hdr]
            simp [cutT, hc]
          clear hc hdr htk hXi HC
          go_wp2_with fail
          go_ret
          have hE : X.extract 0 i = txtOf (s.take i) := by
            rw [← HX.out]
            apply ByteArray.ext
            simp [txtOf]
          exact ⟨congrArg (fun z => Ending.returned (Value.string z)) (hE.trans (by rw [HD.out])), by first | rfl | trivial⟩
        · have hq2 : ((k : Int) - 1 == 0) = false := by simp; omega
          have HD : Hid (s.take (i + 1) ++ cutT (s.drop (i + 1)) (k - 1) = R) := by
            show _ = _
            have e1 : cutT (s[i] :: s.drop (i + 1)) k = s[i] :: cutT (s.drop (i + 1)) (k - 1) := by simp [cutT, hc, hk1]
            rw [← HC.out, htk, hdr, e1, List.append_assoc]
            rfl
          clear hc hdr htk hXi HC
          go_wp2_with fail
          go_roundw
          case measure => simp only [RowKit.intOf]; omega
          case rel => exact ⟨k - 1, i + 1, by congr 1; omega, by simp, by omega, by omega, by omega, HD.out, by first | rfl | trivial⟩
      · have hq : ((X[i].toNat : Int) == 10) = false := by
          rw [hXi]
          have : s[i].toNat ≠ 10 := fun e => hc (UInt8.toNat_inj.1 (by rw [e]; rfl))
          simp
          omega
        have HD : Hid (s.take (i + 1) ++ cutT (s.drop (i + 1)) k = R) := by
          show _ = _
          have e1 : cutT (s[i] :: s.drop (i + 1)) k = s[i] :: cutT (s.drop (i + 1)) k := by simp [cutT, hc]
          rw [← HC.out, htk, hdr, e1, List.append_assoc]
          rfl
        clear hc hdr htk hXi HC
        go_wp2_with fail
        go_roundw
        case measure => simp only [RowKit.intOf]; omega
        case rel => exact ⟨k, i + 1, rfl, by simp, by omega, by omega, by omega, HD.out, by first | rfl | trivial⟩
    · have hie : i = s.length := by omega
      have h1 : decide ((i : Int) < (X.size : Int)) = false := decide_eq_false (by omega)
      have HD : Hid (s = R) := by
        show _ = _
        rw [← HC.out, hie]
        simp [cutT]
      clear HC
      go_wp2_with fail
      go_ret
      exact ⟨congrArg (fun z => Ending.returned (Value.string z)) (HX.out.symm.trans (by rw [HD.out])), by first | rfl | trivial⟩
end Go.Proofs.YthohnmplbjhjaaaGreatDoor
