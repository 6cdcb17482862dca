/-
  Lines with their ends, as lists.
-/
import Derived.Test.YtpmiplhbppmboaaDoorLnRef
import Derived.Test.YtpmiplhbppmboaaDoorShelf
import Derived.Lib.IndexLaws
namespace Go.Proofs.YtpmiplhbppmboaaDoor
open Go Go.Lib

/-- The lines of what is left with their ends, cur being what the line has already. -/
def raws : List UInt8 → List UInt8 → List (List UInt8)
  | [], cur => if cur = [] then [] else [cur]
  | c :: t, cur => if c = 10 then (cur ++ [10]) :: raws t [] else raws t (cur ++ [c])

theorem raws_at : ∀ (r : List UInt8) (o : Nat) (cur : List UInt8), r[o]? = some 10 → (∀ k, k < o → r[k]? ≠ some 10) → raws r cur = (cur ++ r.take (o + 1)) :: raws (r.drop (o + 1)) []
  | [], o, cur, h, _ => by simp at h
  | b :: l, 0, cur, h, _ => by
    simp at h
    subst h
    simp [raws]
  | b :: l, o + 1, cur, h, hk => by
    have hb : b ≠ 10 := fun e => hk 0 (by omega) (by simp [e])
    have ih := raws_at l o (cur ++ [b]) (by simpa using h) (fun k hlt => by have := hk (k + 1) (by omega); simpa using this)
    simp only [raws, if_neg hb, ih, List.take_succ_cons, List.drop_succ_cons, List.append_assoc, List.singleton_append]
theorem raws_none : ∀ (r cur : List UInt8), (∀ (k : Nat), r[k]? ≠ some (10 : UInt8)) → cur ++ r ≠ [] → raws r cur = [cur ++ r]
  | [], cur, _, hc => by simp at hc; simp [raws, hc]
  | b :: l, cur, h, _ => by
    have hb : b ≠ 10 := fun e => h 0 (by simp [e])
    simp only [raws, if_neg hb]
    rw [raws_none l (cur ++ [b]) (fun k => by have := h (k + 1); simpa using this) (by simp), List.append_assoc]
    rfl
theorem trim_end (cur : List UInt8) : trimSuffix (cur ++ [10]) [10] = cur := by
  have : hasSuffix (cur ++ [10]) [10] = true := by simp [hasSuffix]
  simp [trimSuffix, this]
theorem trim_not (cur : List UInt8) (h : 10 ∉ cur) : trimSuffix cur [10] = cur := by
  unfold trimSuffix
  split
  · rename_i hs
    exfalso
    simp [hasSuffix] at hs
    obtain ⟨t, rfl⟩ := hs
    simp at h
  · rfl
theorem raws_trim : ∀ (r cur : List UInt8), 10 ∉ cur → (raws r cur).map (fun x => trimSuffix x [10]) = lns r cur
  | [], cur, h => by
    unfold raws lns
    split
    · rfl
    · simp [trim_not cur h]
  | b :: l, cur, h => by
    unfold raws lns
    split
    · simp [trim_end, raws_trim l [] (by simp)]
    · rename_i hb
      exact raws_trim l (cur ++ [b]) (by simp [h]; exact fun e => hb e.symm)
theorem raws_nil : raws [] [] = [] := rfl
/-- One line more. -/
theorem raws_some {r : List UInt8} {o : Nat} (h : indexByte r 10 = (o : Int)) : raws r [] = r.take (o + 1) :: raws (r.drop (o + 1)) [] ∧ o < r.length := by
  obtain ⟨h1, h2⟩ := indexByte_some h
  exact ⟨raws_at r o [] h1 h2, (List.getElem?_eq_some_iff.1 h1).1⟩
theorem raws_last {r : List UInt8} (h : indexByte r 10 = -1) (hr : r ≠ []) : raws r [] = [r] := raws_none r [] (indexByte_none h) (by simpa using hr)
theorem raws_len : ∀ (r cur x : List UInt8), x ∈ raws r cur → x.length ≤ cur.length + r.length
  | [], cur, x, h => by
    unfold raws at h
    split at h
    · cases h
    · simp at h; subst h; simp
  | b :: l, cur, x, h => by
    unfold raws at h
    split at h
    · rcases List.mem_cons.1 h with rfl | h
      · simp
      · have := raws_len l [] x h
        simp at this ⊢
        omega
    · have := raws_len l (cur ++ [b]) x h
      simp at this ⊢
      omega
theorem lns_count : ∀ (r cur : List UInt8), (lns r cur).length ≤ r.length + 1
  | [], cur => by unfold lns; split <;> simp
  | b :: l, cur => by
    unfold lns
    split
    · have := lns_count l []; simp; omega
    · have := lns_count l (cur ++ [b]); simp; omega
end Go.Proofs.YtpmiplhbppmboaaDoor
