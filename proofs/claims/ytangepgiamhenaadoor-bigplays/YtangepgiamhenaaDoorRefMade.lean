/-
  The document's numbers: size, made.
-/
import Derived.Test.YtangepgiamhenaaDoorSettled
namespace Go.Proofs.YtangepgiamhenaaDoor
open Go.RowKit
open Bn (limbs)

set_option maxHeartbeats 400000 in
set_option maxRecDepth 100000 in
/-- The document's size: without noughts at the end. -/
theorem refSize_any (l : List Nat) (v : Value) (w : World) (h : IntsAt w v l) (hbd : ∀ d ∈ l, d < 1000000000) :
    Calls Tryd.prog 62 #[v] w fun e w' => ∃ v', e = .returned v' ∧ IntsAt w v' (trim l) ∧ w' = w ∧ v'.ownBlock = v.ownBlock := by
  rcases h with ⟨rfl, rfl⟩ | ⟨b, cap, rfl, hlt, hl, hm, hc⟩
  · go_enter Tryd.func62, Tryd.ntmps62
    go_wp2
    go_loop [3] (fun nv => nv = .int .i64 0) (fun _ => 0)
    case atStart => rfl
    case round =>
      obtain rfl := hrel
      go_wp2
      go_ret
      exact ⟨_, rfl, .inl ⟨rfl, rfl⟩, rfl, rfl⟩
  · have HC : Hid (∀ j (h : j < l.length), w.cell? ⟨b, j, none⟩ = some (.int .i64 ((l[j] : Nat) : Int))) := hc
    unfold maxLen at hm
    clear hc
    go_enter Tryd.func62, Tryd.ntmps62
    go_wp2
    go_loop [3] (fun nv => ∃ k : Nat, nv = .int .i64 (k : Int) ∧ k ≤ l.length ∧ Hid (trim (l.take k) = trim l)) (fun nv => (intOf nv).toNat)
    case atStart => exact ⟨l.length, rfl, Nat.le_refl _, by show _ = _; rw [List.take_length]⟩
    case round =>
      obtain ⟨k, rfl, hk, hH⟩ := hrel
      cases k with
      | zero =>
        have e : trim l = [] := by rw [← hH.out]; simp [trim]
        go_wp2
        go_ret
        exact ⟨_, rfl, .inr ⟨b, cap, rfl, hlt, by simp, by unfold maxLen; omega, fun j hj => by simp at hj⟩, rfl, rfl⟩
      | succ j =>
        have hj : j < l.length := by omega
        have h1 := HC.out j hj
        have h2 := hbd _ (List.getElem_mem hj)
        have HT := take_last l j hj
        have HZ : Hid (l[j] = 0 → trim (l.take j) = trim l) := by intro e; rw [← hH.out, HT, e, trim_zero]
        have HN : Hid (l[j] ≠ 0 → trim l = l.take (j + 1)) := by intro e; rw [← hH.out, HT, trim_last _ _ e]
        generalize l[j] = p at *
        have hji : (j : Int) < (l.length : Int) := by omega
        clear HT hH
        by_cases hp : p = 0
        · subst hp
          go_wp2
          go_round
          case rel => exact ⟨j, by go_num, by omega, HZ.out rfl⟩
          case measure => simp [intOf]
        · have hpb : ((p : Int) == 0) = false := by rw [beq_eq_false_iff_ne]; omega
          go_wp2
          go_ret
          have e := HN.out hp
          have e1 : (trim l).length = j + 1 := by rw [e, List.length_take]; omega
          refine ⟨_, rfl, .inr ⟨b, cap, by rw [e1]; rfl, hlt, by omega, by unfold maxLen; omega, fun i hi => ?_⟩, rfl, rfl⟩
          have h3 := HC.out i (by omega)
          rw [h3]
          congr 3
          simp [e]

theorem IntsAt.setCell {w : World} {v : Value} {l : List Nat} (h : IntsAt w v l) {p : Addr} (hp : v.ownBlock ≠ some p.block) (u : Value) : IntsAt (w.setCell p u) v l := by
  rcases h with h | ⟨b, cap, hv, hlt, hl, hm, hc⟩
  · exact .inl h
  · refine .inr ⟨b, cap, hv, by simp [World.setCell]; exact hlt, hl, hm, fun j hj => ?_⟩
    have hb : b ≠ p.block := fun e => hp (by rw [hv, ← e]; rfl)
    exact (World.cell?_of_block (w := w) (a := ⟨b, j, none⟩) (Below.heap_setCell w p u b hb)).trans (hc j hj)
theorem IntsAt.old {w : World} {v : Value} {l : List Nat} (h : IntsAt w v l) {k : Nat} (hk : w.heap.size ≤ k) : v.ownBlock ≠ some k := by
  rcases h with ⟨h, _⟩ | ⟨b, cap, hv, hlt, _⟩
  · rw [h]; simp [Value.ownBlock]
  · rw [hv]; simp only [Value.ownBlock]; intro e; injection e with e; omega

theorem made_neg (neg : Bool) (x : Nat) : decide (sg neg x < 0) = (neg && decide (0 < ((limbs x).length : Int))) := by
  rcases Nat.eq_zero_or_pos x with h | h
  · subst h; cases neg <;> rfl
  · have : 0 < (limbs x).length := by
      rcases Nat.eq_zero_or_pos (limbs x).length with e | e
      · have := Bn.limbs_eq_nil.1 (List.eq_nil_of_length_eq_zero e); omega
      · exact e
    rw [sg_neg neg x h]
    cases neg <;> simp; omega

set_option maxHeartbeats 400000 in
set_option maxRecDepth 100000 in
/-- made. -/
theorem refMade_any (neg : Bool) (l : List Nat) (v : Value) (w : World) (h : IntsAt w v l) (hbd : ∀ d ∈ l, d < 1000000000) :
    Calls Tryd.prog 38 #[.bool neg, v] w fun e w' => ∃ r, e = .returned r ∧ RefAt w' r (sg neg (Bn.val l)) ∧ Below w.heap.size w w' := by
  have hb0 : Below w.heap.size w (w.alloc (.cells #[.bool false, .slice none 0 0] 30)) := (Below.refl _ _).alloc (Nat.le_refl _) _
  have hI0 := h.below hb0
  have HE : Hid (trim l = limbs (Bn.val l)) := trim_eq l hbd
  have HI : Hid (IntsAt (w.alloc (.cells #[.bool false, .slice none 0 0] 30)) v l) := hI0
  have HO : Hid (v.ownBlock ≠ some w.heap.size) := h.old (Nat.le_refl _)
  obtain ⟨pa, ca, rfl, _⟩ := h.form
  clear h hI0
  go_enter Tryd.func38, Tryd.ntmps38
  go_wp2_with fail
  refine (refSize_any l _ _ HI.out hbd).mono ?_
  rintro e w1 ⟨v', rfl, hI', hw1, hob⟩
  rw [HE.out, ← hw1] at hI'
  have hb : Below (w.alloc (.cells #[.bool false, .slice none 0 0] 30)).heap.size (w.alloc (.cells #[.bool false, .slice none 0 0] 30)) w1 := by rw [hw1]; exact Below.refl _ _
  have hne : v'.ownBlock ≠ some w.heap.size := by rw [hob]; exact HO.out
  obtain ⟨pb, cb, rfl, _⟩ := hI'.form
  obtain ⟨hc, hfz⟩ := bcell hb
  have hfin := hb0.trans (hb.mono (by simp))
  have HR : Hid (RefAt ((w1.setCell ⟨w.heap.size, 0, none⟩ (.bool (decide (sg neg (Bn.val l) < 0)))).setCell ⟨w.heap.size, 1, none⟩ (.slice pb (limbs (Bn.val l)).length cb)) (.agg #[.bool (decide (sg neg (Bn.val l) < 0)), .slice pb (limbs (Bn.val l)).length cb]) (sg neg (Bn.val l))) :=
    ⟨_, rfl, by rw [sg_abs]; exact (hI'.setCell (p := ⟨w.heap.size, 0, none⟩) hne _).setCell (p := ⟨w.heap.size, 1, none⟩) hne _⟩
  have HD : Hid (decide (sg neg (Bn.val l) < 0) = (neg && decide (0 < ((limbs (Bn.val l)).length : Int)))) := made_neg neg _
  generalize decide (sg neg (Bn.val l) < 0) = d at *
  clear hw1 hob hI' hb HI HO HE
  cases neg with
  | false =>
    obtain rfl : d = false := by rw [HD.out]; rfl
    go_wp2
    exact bodyPost_ret (v := .agg #[.bool false, .slice pb (limbs (Bn.val l)).length cb]) (by simp [results, Tryd.results38, go_sem, hc]) rfl ⟨_, rfl, HR.out, (hfin.setCell (by simp) _).setCell (by simp) _⟩
  | true =>
    by_cases h0 : (0 : Int) < ((limbs (Bn.val l)).length : Int)
    · obtain rfl : d = true := by rw [HD.out]; simpa using h0
      have hdn : decide (0 < (limbs (Bn.val l)).length) = true := by simp; omega
      go_wp2
      exact bodyPost_ret (v := .agg #[.bool true, .slice pb (limbs (Bn.val l)).length cb]) (by simp [results, Tryd.results38, go_sem, hc]) rfl ⟨_, rfl, HR.out, (hfin.setCell (by simp) _).setCell (by simp) _⟩
    · obtain rfl : d = false := by rw [HD.out]; simpa using h0
      have hdn : decide (0 < (limbs (Bn.val l)).length) = false := by simp only [decide_eq_false_iff_not]; omega
      go_wp2
      exact bodyPost_ret (v := .agg #[.bool false, .slice pb (limbs (Bn.val l)).length cb]) (by simp [results, Tryd.results38, go_sem, hc]) rfl ⟨_, rfl, HR.out, (hfin.setCell (by simp) _).setCell (by simp) _⟩

end Go.Proofs.YtangepgiamhenaaDoor
