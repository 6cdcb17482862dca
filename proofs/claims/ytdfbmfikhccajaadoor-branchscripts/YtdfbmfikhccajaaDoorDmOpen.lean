/-
  Package dom: Open; the law's sameInts, does.
-/
import Derived.Test.YtdfbmfikhccajaaDoorDmNew
namespace Go.Proofs.YtdfbmfikhccajaaDoor
open Go.RowKit

/-- The variables that have more than one value. -/
def openL (L : List Dm) (k : Nat) : List Int := ((List.range k).filter fun j => match L[j]? with | some d => decide (1 < bSize d.a d.b) | none => false).map fun j : Nat => (j : Int)
theorem openL_succ (L : List Dm) (k : Nat) (hk : k < L.length) : openL L (k + 1) = openL L k ++ (if 1 < bSize L[k].a L[k].b then [(k : Int)] else []) := by
  unfold openL
  rw [List.range_succ, List.filter_append, List.map_append]
  refine congrArg (HAppend.hAppend _) ?_
  have e : L[k]? = some L[k] := List.getElem?_eq_getElem hk
  generalize L[k] = d at e
  by_cases h : 1 < bSize d.a d.b
  · rw [if_pos h, List.filter_cons_of_pos (by rw [e]; simpa using h)]; rfl
  · rw [if_neg h, List.filter_cons_of_neg (by rw [e]; simpa using h)]; rfl
theorem openL_len (L : List Dm) (k : Nat) : (openL L k).length ≤ k := by
  have := List.length_filter_le (fun j => match L[j]? with | some d => decide (1 < bSize d.a d.b) | none => false) (List.range k)
  simpa [openL] using this

set_option maxRecDepth 10000 in
set_option maxHeartbeats 1000000 in
theorem open_any (B p : Nat) (nv mv : Value) (s : St) (w : World) (h : StAt B w p nv mv s) : Calls Tryd.prog 16 #[.pointer (some ⟨p, 0, none⟩)] w (VsOut (openL s.now s.now.length) w) := by
  have c0 : w.cell? ⟨p, 0, none⟩ = some nv := cell_of h.o 0
  have hn := h.n32
  have HSz : Hid (∀ x, x < s.now.length → ∀ w', Below w.heap.size w w' → ∀ (hx : x < s.now.length), Calls Tryd.prog 26 #[.pointer (some ⟨p, 0, none⟩), .int .i64 (x : Int)] w' fun e w2 => e = .returned (.int .i64 (bSize s.now[x].a s.now[x].b)) ∧ Below w'.heap.size w' w2) := fun x _ w' hb hx => size_in B p nv mv s x hx w' (h.below hb)
  obtain ⟨a, cap, rfl, _⟩ := dm_form h.n
  clear h
  have HLen := openL_len s.now
  go_enter Tryd.func16, Tryd.ntmps16
  go_wp2_with fail
  go_loopw [3, 10] (fun oq iv wr => ∃ (k : Nat) (ov : Value), oq = ov ∧ iv = .int .i64 (k : Int) ∧ k ≤ s.now.length ∧ Hid (wr.ownsRow w.heap.size 3 1 ov (openL s.now k).length ((openL s.now k).map (.int .i64))) ∧ Hid (Below w.heap.size w wr)) (fun _ iv _ => s.now.length - (intOf iv).toNat)
  case atStart => exact ⟨0, _, rfl, rfl, Nat.zero_le _, World.ownsRow_nil _ _ _ _, Below.refl _ _⟩
  case round =>
    obtain ⟨k, _, rfl, rfl, hk, HOr, HBr⟩ := hrel
    by_cases hkn : k < s.now.length
    · have hkI : (k : Int) < (s.now.length : Int) := by omega
      have HS1 := HSz.out k hkn wr HBr.out hkn
      have HV := openL_succ s.now k hkn
      obtain ⟨z, hz⟩ : ∃ z, bSize s.now[k].a s.now[k].b = z := ⟨_, rfl⟩
      rw [hz] at HS1 HV
      have HS2 : Hid (Calls Tryd.prog 26 #[.pointer (some ⟨p, 0, none⟩), .int .i64 (k : Int)] wr fun e w2 => e = .returned (.int .i64 z) ∧ Below wr.heap.size wr w2) := HS1
      clear HS1 hz
      go_wp2_with fail
      refine calls_at HS2.out (by with_reducible rfl) (by with_reducible rfl) ?_
      rintro e w5 ⟨rfl, hb5⟩
      have HB5 : Hid (Below w.heap.size w w5) := bl_next HBr.out hb5
      have HO5 : Hid (w5.ownsRow w.heap.size 3 1 u3 (openL s.now k).length ((openL s.now k).map (.int .i64))) := own_below HOr.out hb5
      clear hb5
      by_cases hd : 1 < z
      · have HV1 : Hid (openL s.now (k + 1) = openL s.now k ++ [(k : Int)]) := by show _ = _; rw [HV, if_pos hd]
        clear HV
        have hlk := HLen k
        go_wp2_with (first
          | (at_builtin; refine append_one w5 (.int .i64 (k : Int)) rfl _ _ 22 3 (.int .i64 0) 8 rfl und53 info3 rfl w.heap.size _ _ _ (by rfl) HO5.out rfl _ rfl (by rfl) (by unfold maxLen; omega) (by omega) HB5.out.size ?_; intro v6 w6 ho6 hg6 hn6))
        have HO6 : Hid (w6.ownsRow w.heap.size 3 1 v6 (openL s.now (k + 1)).length ((openL s.now (k + 1)).map (.int .i64))) := by
          show World.ownsRow _ _ _ _ _ _ _
          rw [HV1.out, List.map_append, List.length_append]
          exact ho6
        have HB6 : Hid (Below w.heap.size w w6) := (HB5.out.alloc HB5.out.size _).grown hg6 (Nat.le_trans HB5.out.size (by simp)) (fun g hg => (HO5.out.lt g hg).1)
        clear ho6 hg6 hn6
        go_wp2_with fail
        go_roundw
        case rel => exact ⟨k + 1, v6, rfl, by go_num, hkn, HO6, HB6⟩
        case measure => simp [intOf]; omega
      · have HV1 : Hid (openL s.now (k + 1) = openL s.now k) := by show _ = _; rw [HV, if_neg hd, List.append_nil]
        clear HV
        go_wp2_with fail
        go_roundw
        case rel => exact ⟨k + 1, u3, rfl, by go_num, hkn, by rw [HV1.out]; exact HO5, HB5⟩
        case measure => simp [intOf]; omega
    · have hke : k = s.now.length := by omega
      subst hke
      go_wp2_with fail
      go_ret
      exact ⟨_, rfl, HOr.out, HBr.out⟩

end Go.Proofs.YtdfbmfikhccajaaDoor
