/-
  The document's store: what it is asked.
-/
import Derived.Test.YtdfbmfikhccajaaGreatDoorJ28
import Derived.Test.YtdfbmfikhccajaaGreatDoorJ35
namespace Go.Proofs.YtdfbmfikhccajaaGreatDoor
open Go.RowKit
section
variable {B : Nat} {S : Nat → Prop} {r : Nat} {LL : List (List Int)} {MM : List (List (List Int))}
theorem isL_in {n q : Nat} (hq : q < n) : isL n (q : Int) = true := by simp [isL]; omega
set_option maxRecDepth 10000 in
set_option maxHeartbeats 400000 in
theorem rLo_in (q : Nat) (hq : q < LL.length) (hp : 0 < LL[q].length) (w : World) (h : RsAt B S w r LL MM) : Calls Tryz.prog 27 #[.pointer (some ⟨r, 0, none⟩), .int .i64 (q : Int)] w fun e w' => e = .returned (.int .i64 LL[q][0]) ∧ Below w.heap.size w w' := by
  have HIs : Hid (Calls Tryz.prog 40 #[.pointer (some ⟨r, 0, none⟩), .int .i64 (q : Int)] w fun e w' => e = .returned (.bool true) ∧ w' = w) := by
    have := rIs_any (q : Int) w h
    rw [isL_in hq] at this
    exact this
  obtain ⟨a, cap, hr⟩ := h.read
  obtain ⟨c0, hr⟩ := hr w (Below.refl _ _)
  obtain ⟨g, la, lc, rfl, c1, hl⟩ := hr q hq
  obtain ⟨gl, rfl, c2⟩ := hl 0 hp
  have hn := h.few.n
  have hqI : (q : Int) < (LL.length : Int) := by omega
  have hpI : (0 : Int) < (LL[q].length : Int) := by omega
  obtain ⟨y, hy⟩ : ∃ y, LL[q][0] = y := ⟨_, rfl⟩
  obtain ⟨n, hnn⟩ : ∃ n, LL[q].length = n := ⟨_, rfl⟩
  rw [hy] at c2 ⊢
  rw [hnn] at c1 hpI
  clear h hr hl hy hnn hp
  go_enter Tryz.func27, Tryz.ntmps27
  go_wp2_with fail
  refine calls_at HIs.out (by with_reducible rfl) (by with_reducible rfl) ?_
  rintro e w1 ⟨rfl, rfl⟩
  go_wp2_with fail
  go_ret
  exact ⟨rfl, Below.refl _ _⟩
set_option maxRecDepth 10000 in
set_option maxHeartbeats 1000000 in
theorem rHi_in (q : Nat) (hq : q < LL.length) (hp : 0 < LL[q].length) (w : World) (h : RsAt B S w r LL MM) : Calls Tryz.prog 26 #[.pointer (some ⟨r, 0, none⟩), .int .i64 (q : Int)] w fun e w' => e = .returned (.int .i64 LL[q][LL[q].length - 1]) ∧ Below w.heap.size w w' := by
  have HIs : Hid (Calls Tryz.prog 40 #[.pointer (some ⟨r, 0, none⟩), .int .i64 (q : Int)] w fun e w' => e = .returned (.bool true) ∧ w' = w) := by
    have := rIs_any (q : Int) w h
    rw [isL_in hq] at this
    exact this
  obtain ⟨a, cap, hr⟩ := h.read
  obtain ⟨c0, hr⟩ := hr w (Below.refl _ _)
  obtain ⟨g, la, lc, rfl, c1, hl⟩ := hr q hq
  obtain ⟨gl, rfl, c2⟩ := hl (LL[q].length - 1) (by omega)
  have hn := h.few.n
  have hl64 := h.few.ls _ (List.getElem_mem hq)
  have hqI : (q : Int) < (LL.length : Int) := by omega
  obtain ⟨y, hy⟩ : ∃ y, LL[q][LL[q].length - 1] = y := ⟨_, rfl⟩
  rw [hy] at c2 ⊢
  obtain ⟨n, hnn⟩ : ∃ n, LL[q].length = n + 1 := ⟨LL[q].length - 1, by omega⟩
  rw [hnn] at c1 c2 hl64
  rw [Nat.add_sub_cancel] at c2
  have e1 : IntKind.i64.wrap (((n + 1 : Nat) : Int) - 1) = (n : Int) := by rw [wrap_id (by omega) (by omega)]; omega
  have hnI : (n : Int) < ((n + 1 : Nat) : Int) := by omega
  clear h hr hl hy hnn hp
  go_enter Tryz.func26, Tryz.ntmps26
  go_wp2_with fail
  refine calls_at HIs.out (by with_reducible rfl) (by with_reducible rfl) ?_
  rintro e w1 ⟨rfl, rfl⟩
  go_wp2_with fail
  go_region
  go_wp2_with fail
  go_ret
  exact ⟨rfl, (Below.refl _ _).drew⟩
theorem ls_src {S : Nat → Prop} {w : World} {v : Value} {L : List Int} (h : LsR S w v L) : SrcAt w v L.length 1 (L.map (.int .i64)) := by
  obtain ⟨a, cap, rfl, hl⟩ := h.form
  refine ⟨a, cap, rfl, by simp, fun u hu => ?_, fun e => ?_, fun ad e j u hj => ?_⟩
  · obtain ⟨z, _, rfl⟩ := List.mem_map.1 hu
    rfl
  · rcases Nat.eq_zero_or_pos L.length with h0 | h0
    · exact h0
    · obtain ⟨g, e2, _⟩ := hl 0 h0
      rw [e] at e2
      cases e2
  · have hjl : j < L.length := by simpa using (List.getElem?_eq_some_iff.1 hj).1
    obtain ⟨g, e2, _, hc⟩ := hl j hjl
    rw [e] at e2
    injection e2 with e2
    subst e2
    rw [addr_none, Nat.zero_add, hc]
    simpa [hjl] using hj
set_option maxRecDepth 10000 in
set_option maxHeartbeats 400000 in
theorem rLo_no (x : Int) (hx : isL LL.length x = false) (w : World) (h : RsAt B S w r LL MM) : Calls Tryz.prog 27 #[.pointer (some ⟨r, 0, none⟩), .int .i64 x] w fun e w' => e = .returned (.int .i64 0) ∧ Below w.heap.size w w' := by
  have HIs : Hid (Calls Tryz.prog 40 #[.pointer (some ⟨r, 0, none⟩), .int .i64 x] w fun e w' => e = .returned (.bool false) ∧ w' = w) := by
    have := rIs_any x w h
    rw [hx] at this
    exact this
  clear h hx
  go_enter Tryz.func27, Tryz.ntmps27
  go_wp2_with fail
  refine calls_at HIs.out (by with_reducible rfl) (by with_reducible rfl) ?_
  rintro e w1 ⟨rfl, rfl⟩
  go_wp2_with fail
  go_ret
  exact ⟨rfl, Below.refl _ _⟩
set_option maxRecDepth 10000 in
set_option maxHeartbeats 400000 in
theorem rHi_no (x : Int) (hx : isL LL.length x = false) (w : World) (h : RsAt B S w r LL MM) : Calls Tryz.prog 26 #[.pointer (some ⟨r, 0, none⟩), .int .i64 x] w fun e w' => e = .returned (.int .i64 0) ∧ Below w.heap.size w w' := by
  have HIs : Hid (Calls Tryz.prog 40 #[.pointer (some ⟨r, 0, none⟩), .int .i64 x] w fun e w' => e = .returned (.bool false) ∧ w' = w) := by
    have := rIs_any x w h
    rw [hx] at this
    exact this
  clear h hx
  go_enter Tryz.func26, Tryz.ntmps26
  go_wp2_with fail
  refine calls_at HIs.out (by with_reducible rfl) (by with_reducible rfl) ?_
  rintro e w1 ⟨rfl, rfl⟩
  go_wp2_with fail
  go_ret
  exact ⟨rfl, Below.refl _ _⟩
/-- Which have more than one value. -/
def openR (LL : List (List Int)) (k : Nat) : List Int := ((List.range k).filter fun j => match LL[j]? with | some d => decide (1 < d.length) | none => false).map fun j : Nat => (j : Int)
theorem openR_succ (L : List (List Int)) (k : Nat) (hk : k < L.length) : openR L (k + 1) = openR L k ++ (if 1 < L[k].length then [(k : Int)] else []) := by
  unfold openR
  rw [List.range_succ, List.filter_append, List.map_append]
  refine congrArg (HAppend.hAppend _) ?_
  have e : L[k]? = some L[k] := List.getElem?_eq_getElem hk
  generalize L[k] = d at e
  by_cases hd : 1 < d.length
  · simp [e, hd]
  · simp [e, hd]
theorem openR_len (L : List (List Int)) (k : Nat) : (openR L k).length ≤ k := by
  unfold openR
  rw [List.length_map]
  exact Nat.le_trans (List.length_filter_le _ _) (by simp)
set_option maxRecDepth 10000 in
set_option maxHeartbeats 1000000 in
theorem rOpen_any (w : World) (h : RsAt B S w r LL MM) : Calls Tryz.prog 24 #[.pointer (some ⟨r, 0, none⟩)] w (VsOut (openR LL LL.length) w) := by
  obtain ⟨a, cap, hr⟩ := h.read
  have HA : Hid (∀ w', Below w.heap.size w w' → w'.cell? ⟨r, 0, none⟩ = some (.slice a LL.length cap) ∧ ∀ i (hi : i < LL.length), ∃ g la lc, a = some ⟨g, 0, none⟩ ∧ w'.cell? ⟨g, i, none⟩ = some (.slice la LL[i].length lc) ∧ ∀ j (hj : j < LL[i].length), ∃ gl, la = some ⟨gl, 0, none⟩ ∧ w'.cell? ⟨gl, j, none⟩ = some (.int .i64 LL[i][j])) := hr
  have hn := h.few.n
  have HLn := openR_len LL
  clear h hr
  go_enter Tryz.func24, Tryz.ntmps24
  go_wp2_with fail
  go_loopw [3, 4] (fun oq iv wr => ∃ (k : Nat) (ov : Value), oq = ov ∧ iv = .int .i64 (k : Int) ∧ k ≤ LL.length ∧ Hid (wr.ownsRow w.heap.size 3 1 ov (openR LL k).length ((openR LL k).map (.int .i64))) ∧ Hid (Below w.heap.size w wr)) (fun _ iv _ => LL.length - (intOf iv).toNat)
  case atStart => exact ⟨0, _, rfl, rfl, Nat.zero_le _, World.ownsRow_nil _ _ _ _, Below.refl _ _⟩
  case round =>
    obtain ⟨k, _, rfl, rfl, hk, HO, HBr⟩ := hrel
    obtain ⟨c0, hc⟩ := HA.out wr HBr.out
    by_cases hkn : k < LL.length
    · have hkI : (k : Int) < (LL.length : Int) := by omega
      have HV := openR_succ LL k hkn
      obtain ⟨g, la, lc, rfl, c1, _⟩ := hc k hkn
      have hlk := HLn k
      obtain ⟨n, hnn⟩ : ∃ n, LL[k].length = n := ⟨_, rfl⟩
      rw [hnn] at c1 HV
      clear hnn hc
      by_cases hd : 1 < n
      · have hdI : (1 : Int) < (n : Int) := by omega
        have HV1 : Hid (openR LL (k + 1) = openR LL k ++ [(k : Int)]) := by show _ = _; rw [HV, if_pos hd]
        clear HV
        go_wp2_with (first
          | (at_builtin; refine append_one wr (.int .i64 (k : Int)) rfl _ _ 38 3 (.int .i64 0) 8 rfl un38 inf3 rfl w.heap.size _ _ _ (by rfl) HO.out rfl _ rfl (by rfl) (by unfold maxLen; omega) (by omega) HBr.out.size ?_; intro v6 w6 ho6 hg6 hn6))
        have HO6 : Hid (w6.ownsRow w.heap.size 3 1 v6 (openR LL (k + 1)).length ((openR LL (k + 1)).map (.int .i64))) := by
          show World.ownsRow _ _ _ _ _ _ _
          rw [HV1.out, List.map_append, List.length_append]
          exact ho6
        have HB6 : Hid (Below w.heap.size w w6) := (HBr.out.alloc HBr.out.size _).grown hg6 (Nat.le_trans HBr.out.size (by simp)) (fun g hg => (HO.out.lt g hg).1)
        clear ho6 hg6 hn6
        go_wp2_with fail
        go_roundw
        case rel => exact ⟨k + 1, v6, rfl, by go_num, hkn, HO6, HB6⟩
        case measure => simp [intOf]; omega
      · have hdI : ¬ (1 : Int) < (n : Int) := by omega
        have HV1 : Hid (openR LL (k + 1) = openR LL k) := by show _ = _; rw [HV, if_neg hd, List.append_nil]
        clear HV
        go_wp2_with fail
        go_roundw
        case rel => exact ⟨k + 1, u3, rfl, by go_num, hkn, by rw [HV1.out]; exact HO, HBr⟩
        case measure => simp [intOf]; omega
    · have hke : k = LL.length := by omega
      subst hke
      have hkI : ¬ (LL.length : Int) < (LL.length : Int) := by omega
      go_wp2_with fail
      go_ret
      exact ⟨_, rfl, HO.out, HBr.out⟩
end
end Go.Proofs.YtdfbmfikhccajaaGreatDoor
