/-
  Put together: TrVal, TrName.
-/
import Derived.Test.YthohnmplbjhjaaaGreatDoorTrWhole
import Derived.Test.YthohnmplbjhjaaaGreatDoorJ25
namespace Go.Proofs.YthohnmplbjhjaaaGreatDoor
open Go Go.RowKit

theorem next_word {s : St} {n : Nat} (h : s.1.length ≤ n) : (nextT s).1.length ≤ n ∧ (nextT s).2.1.length ≤ s.1.length := by
  unfold nextT
  cases ht : takeT s with
  | none => exact ⟨Nat.zero_le _, by rw [fail_rest]; exact Nat.le_refl _⟩
  | some p => exact ⟨Nat.le_trans (take_len ht).2.1 h, Nat.le_of_lt (take_len ht).1⟩

set_option maxHeartbeats 1000000 in
theorem whole_any {w0 : World} {V : List Md.Vr} {va : Value} {b : Nat} {s : St} (x : List UInt8) (w : World) (h : Ln w0 V va b s w) (hx : x.length ≤ 70000) : Calls Tryz.prog 167 #[.pointer (some ⟨b, 0, none⟩), .string (txtOf x)] w (RO w0 V va b (.int .i64 (rdWhole x s).1) (rdWhole x s).2 w) := by
  have HW : Hid (Calls Tryz.prog 185 #[.string (txtOf x)] w fun e w' => e = .returned (.tuple #[.int .i64 (wholeT x).1, .bool (wholeT x).2]) ∧ w' = w) := wholeOf_any x w hx
  have HF : Hid (Calls Tryz.prog 109 #[.pointer (some ⟨b, 0, none⟩), .int .i64 53] w (RO w0 V va b (.tuple #[]) (failT 53 s) w)) := fail_any 53 w h
  have HL : Hid (Ln w0 V va b s w) := h
  unfold rdWhole
  clear h
  cases hk : (wholeT x).2 with
  | true =>
    rw [hk] at HW
    go_enter Tryz.func167, Tryz.ntmps167
    go_wp2_with fail
    refine calls_at HW.out (by with_reducible rfl) (by with_reducible rfl) ?_
    rintro e w' ⟨rfl, hww⟩
    rw [hww]
    clear hww
    go_wp2_with fail
    go_ret
    exact ⟨rfl, HL.out, Ofw.refl _ _⟩
  | false =>
    rw [hk] at HW
    go_enter Tryz.func167, Tryz.ntmps167
    go_wp2_with fail
    refine calls_at HW.out (by with_reducible rfl) (by with_reducible rfl) ?_
    rintro e w' ⟨rfl, hww⟩
    rw [hww]
    clear hww
    go_wp2_with fail
    refine calls_at HF.out (by with_reducible rfl) (by with_reducible rfl) ?_
    rintro e w1 ⟨rfl, h1, h2⟩
    go_wp2_with fail
    go_ret
    exact ⟨rfl, h1, h2⟩

set_option maxHeartbeats 1000000 in
theorem value_any {w0 : World} {V : List Md.Vr} {va : Value} {b : Nat} {s : St} (x : List UInt8) (w : World) (h : Ln w0 V va b s w) (hx : x.length ≤ 70000) : Calls Tryz.prog 130 #[.pointer (some ⟨b, 0, none⟩), .string (txtOf x)] w (RO w0 V va b (.int .i64 (rdValue x s).1) (rdValue x s).2 w) := by
  have HW : Hid (Calls Tryz.prog 167 #[.pointer (some ⟨b, 0, none⟩), .string (txtOf x)] w (RO w0 V va b (.int .i64 (rdWhole x s).1) (rdWhole x s).2 w)) := whole_any x w h hx
  have HF : Hid (∀ w', Ln w0 V va b (rdWhole x s).2 w' → Calls Tryz.prog 109 #[.pointer (some ⟨b, 0, none⟩), .int .i64 46] w' (RO w0 V va b (.tuple #[]) (failT 46 (rdWhole x s).2) w')) := fun w' h' => fail_any 46 w' h'
  unfold rdValue
  obtain ⟨n, hn⟩ : ∃ n, (rdWhole x s).1 = n := ⟨_, rfl⟩
  obtain ⟨t, ht⟩ : ∃ t, (rdWhole x s).2 = t := ⟨_, rfl⟩
  rw [hn, ht] at HW ⊢
  rw [ht] at HF
  clear h hn ht
  by_cases h1 : n < -1000000000
  · have e1 : decide (n < -1000000000) = true := decide_eq_true h1
    rw [if_pos (.inl h1)]
    clear h1
    go_enter Tryz.func130, Tryz.ntmps130
    go_wp2_with fail
    refine calls_at HW.out (by with_reducible rfl) (by with_reducible rfl) ?_
    rintro e w1 ⟨rfl, h1, o1⟩
    go_wp2_with fail
    refine calls_at (HF.out w1 h1) (by with_reducible rfl) (by with_reducible rfl) ?_
    rintro e w2 ⟨rfl, h2, o2⟩
    go_wp2_with fail
    go_ret
    exact ⟨rfl, h2, o1.trans o2⟩
  · have e1 : decide (n < -1000000000) = false := decide_eq_false h1
    by_cases h2 : 1000000000 < n
    · have e2 : decide (1000000000 < n) = true := decide_eq_true h2
      rw [if_pos (.inr h2)]
      clear h1 h2
      go_enter Tryz.func130, Tryz.ntmps130
      go_wp2_with fail
      refine calls_at HW.out (by with_reducible rfl) (by with_reducible rfl) ?_
      rintro e w1 ⟨rfl, h1, o1⟩
      go_wp2_with fail
      refine calls_at (HF.out w1 h1) (by with_reducible rfl) (by with_reducible rfl) ?_
      rintro e w2 ⟨rfl, h2, o2⟩
      go_wp2_with fail
      go_ret
      exact ⟨rfl, h2, o1.trans o2⟩
    · have e2 : decide (1000000000 < n) = false := decide_eq_false h2
      rw [if_neg (fun e => e.elim h1 h2)]
      clear h1 h2
      go_enter Tryz.func130, Tryz.ntmps130
      go_wp2_with fail
      refine calls_at HW.out (by with_reducible rfl) (by with_reducible rfl) ?_
      rintro e w1 ⟨rfl, h1, o1⟩
      go_wp2_with fail
      go_ret
      exact ⟨rfl, h1, o1⟩

set_option maxHeartbeats 1000000 in
theorem number_any {w0 : World} {V : List Md.Vr} {va : Value} {b : Nat} {s : St} (w : World) (h : Ln w0 V va b s w) : Calls Tryz.prog 81 #[.pointer (some ⟨b, 0, none⟩)] w (RO w0 V va b (.int .i64 (rdNumber s).1) (rdNumber s).2 w) := by
  have HN : Hid (Calls Tryz.prog 124 #[.pointer (some ⟨b, 0, none⟩)] w (RO w0 V va b (.string (txtOf (nextT s).1)) (nextT s).2 w)) := next_any w h
  have HV : Hid (∀ w', Ln w0 V va b (nextT s).2 w' → Calls Tryz.prog 130 #[.pointer (some ⟨b, 0, none⟩), .string (txtOf (nextT s).1)] w' (RO w0 V va b (.int .i64 (rdNumber s).1) (rdNumber s).2 w')) := fun w' h' => value_any _ w' h' (next_word h.n).1
  clear h
  go_enter Tryz.func81, Tryz.ntmps81
  go_wp2_with fail
  refine calls_at HN.out (by with_reducible rfl) (by with_reducible rfl) ?_
  rintro e w1 ⟨rfl, h1, o1⟩
  go_wp2_with fail
  refine calls_at (HV.out w1 h1) (by with_reducible rfl) (by with_reducible rfl) ?_
  rintro e w2 ⟨rfl, h2, o2⟩
  go_wp2_with fail
  go_ret
  exact ⟨rfl, h2, o1.trans o2⟩

/-- A variable that is right. -/
def rightV (v : Md.Vr) : Bool := Md.nameB v.name.data.toList && Md.boundsB v.lo v.hi
theorem check_one (v : Md.Vr) : ((Md.check ⟨[v], [], false, []⟩).2 == 0) = rightV v := by
  have hf : Md.vFault [v] 0 = Md.varFault v [] := rfl
  have hq : Md.varFault v [] = if !Md.nameB v.name.data.toList then 41 else if !Md.boundsB v.lo v.hi then 42 else 0 := by
    unfold Md.varFault Md.seenB
    simp
  unfold rightV
  cases h1 : Md.nameB v.name.data.toList with
  | false =>
    have e : Md.varFault v [] = 41 := by rw [hq, h1]; rfl
    have : Md.check ⟨[v], [], false, []⟩ = (0, 41) := by
      rw [ck_var (m := ⟨[v], [], false, []⟩) (i := 0) rfl (by simp) (by rw [hf, e]; decide) (fun j hj => by omega)]
      show (((0 : Nat) : Int), Md.vFault [v] 0) = _
      rw [hf, e]; rfl
    rw [this]; rfl
  | true =>
    cases h2 : Md.boundsB v.lo v.hi with
    | false =>
      have e : Md.varFault v [] = 42 := by rw [hq, h1, h2]; rfl
      have : Md.check ⟨[v], [], false, []⟩ = (0, 42) := by
        rw [ck_var (m := ⟨[v], [], false, []⟩) (i := 0) rfl (by simp) (by rw [hf, e]; decide) (fun j hj => by omega)]
        show (((0 : Nat) : Int), Md.vFault [v] 0) = _
        rw [hf, e]; rfl
      rw [this]; rfl
    | true =>
      have e : Md.varFault v [] = 0 := by rw [hq, h1, h2]; rfl
      have : Md.check ⟨[v], [], false, []⟩ = (0, 0) := by
        refine ck_ok (m := ⟨[v], [], false, []⟩) rfl (fun j hj => ?_) (by simp) (fun j hj => by simp at hj) rfl
        have hj0 : j = 0 := by simp at hj; omega
        subst hj0
        exact hf.trans e
      rw [this]; rfl

set_option maxHeartbeats 1000000 in
theorem isRight_any (v : Md.Vr) (w : World) (hs : v.name.size ≤ maxLen) : Calls Tryz.prog 168 #[.agg #[.string v.name, .int .i64 v.lo, .int .i64 v.hi]] w fun e w' => e = .returned (.bool (rightV v)) ∧ Below w.heap.size w w' := by
  obtain ⟨W1, hW1⟩ : ∃ W1, w.alloc (.cells #[.string v.name, .int .i64 v.lo, .int .i64 v.hi] 56) = W1 := ⟨_, rfl⟩
  obtain ⟨W2, hW2⟩ : ∃ W2, W1.alloc (.cells #[.string v.name, .int .i64 v.lo, .int .i64 v.hi] 56) = W2 := ⟨_, rfl⟩
  have hb1 : Below w.heap.size w W1 := by rw [← hW1]; exact (Below.refl _ _).alloc (Nat.le_refl _) _
  have hb2 : Below W1.heap.size W1 W2 := by rw [← hW2]; exact (Below.refl _ _).alloc (Nat.le_refl _) _
  have HB : Hid (Below w.heap.size w W2) := bl_next hb1 hb2
  have hl1 : W1.heap[w.heap.size]? = some (.cells #[.string v.name, .int .i64 v.lo, .int .i64 v.hi] 56) := by rw [← hW1]; exact heap_alloc_new w _
  have hl2 : W2.heap[W1.heap.size]? = some (.cells #[.string v.name, .int .i64 v.lo, .int .i64 v.hi] 56) := by rw [← hW2]; exact heap_alloc_new W1 _
  have c0 : W1.cell? ⟨w.heap.size, 0, none⟩ = some (.string v.name) := by rw [cell_of hl1 0]; rfl
  have c1 : W1.cell? ⟨w.heap.size, 1, none⟩ = some (.int .i64 v.lo) := by rw [cell_of hl1 1]; rfl
  have c2 : W1.cell? ⟨w.heap.size, 2, none⟩ = some (.int .i64 v.hi) := by rw [cell_of hl1 2]; rfl
  have hv : VarsAt W2 (.slice (some ⟨W1.heap.size, 0, none⟩) 1 1) [v] := by
    refine ⟨_, 1, rfl, by unfold maxLen; simp, fun x hx => by rw [List.mem_singleton.1 hx]; exact hs, fun _ => ⟨_, 0, rfl, (Array.getElem?_eq_some_iff.1 hl2).1, fun j hj => ?_⟩⟩
    have hj0 : j = 0 := by simp at hj; omega
    subst hj0
    refine ⟨?_, ?_, ?_⟩ <;> simp [cell_of hl2]
  have HC : Hid (Calls Tryz.prog 15 #[.agg #[.slice (some ⟨W1.heap.size, 0, none⟩) 1 1, .slice none 0 0, .bool false, .slice none 0 0]] W2 fun e w' => e = .returned (.tuple #[.int .i64 (Md.check ⟨[v], [], false, []⟩).1, .int .i64 (Md.check ⟨[v], [], false, []⟩).2]) ∧ Below W2.heap.size W2 w') :=
    check_any ⟨[v], [], false, []⟩ _ _ _ W2 ⟨hv, fun a n cp e => by injection e with _ e1 e2; omega, ⟨none, 0, rfl, Nat.zero_le _, fun h => by simp at h⟩, ⟨none, 0, rfl, Nat.zero_le _, fun h => by simp at h⟩⟩
  have HK : Hid (((Md.check ⟨[v], [], false, []⟩).2 == 0) = rightV v) := check_one v
  obtain ⟨p, hp⟩ : ∃ p, Md.check ⟨[v], [], false, []⟩ = p := ⟨_, rfl⟩
  rw [hp] at HC HK
  clear hb1 hb2 hl1 hl2 hv hs hp
  go_enter Tryz.func168, Tryz.ntmps168
  go_wp2_with fail
  refine calls_at HC.out (by with_reducible rfl) (by with_reducible rfl) ?_
  rintro e w' ⟨rfl, hb⟩
  go_wp2_with fail
  go_ret
  exact ⟨ret_bool HK.out, bl_next HB.out hb⟩
end Go.Proofs.YthohnmplbjhjaaaGreatDoor

namespace Go.Proofs.YthohnmplbjhjaaaGreatDoor
open Go Go.RowKit

theorem place_next {V : List Md.Vr} {x : List UInt8} {k : Nat} (h : k < V.length) (ha : (V.take k).findIdx? (fun v => v.name.data.toList == x) = none) (hp : (V[k].name.data.toList == x) = false) : (V.take (k + 1)).findIdx? (fun v => v.name.data.toList == x) = none := by
  rw [List.take_succ_eq_append_getElem h, List.findIdx?_append, ha]
  simp [hp]
theorem place_hit {V : List Md.Vr} {x : List UInt8} {k : Nat} (h : k < V.length) (ha : (V.take k).findIdx? (fun v => v.name.data.toList == x) = none) (hp : (V[k].name.data.toList == x) = true) : placeT V x = (k : Int) := by
  have e : V = V.take k ++ V[k] :: V.drop (k + 1) := by rw [List.getElem_cons_drop, List.take_append_drop]
  have hl : (V.take k).length = k := by rw [List.length_take]; omega
  have hf : (V.take k ++ V[k] :: V.drop (k + 1)).findIdx? (fun v => v.name.data.toList == x) = some k := by
    rw [List.findIdx?_append, ha, List.findIdx?_cons, hp, hl]
    simp
  rw [← e] at hf
  unfold placeT
  rw [hf]
theorem place_none {V : List Md.Vr} {x : List UInt8} (h : V.findIdx? (fun v => v.name.data.toList == x) = none) : placeT V x = -1 := by unfold placeT; rw [h]

theorem VarsAt.mono_low {w w' : World} {v : Value} {l : List Md.Vr} (h : VarsAt w v l) (hb : Below w.heap.size w w') : VarsAt w' v l := h.below hb

set_option maxHeartbeats 400000 in
theorem clos183 (v : Md.Vr) (s : ByteArray) (p : Nat) (w : World) (hp : w.cell? ⟨p, 0, none⟩ = some (.string s)) (hpl : p < w.heap.size) :
    Calls Tryz.prog 183 #[vrVal v, .pointer (some ⟨p, 0, none⟩)] w fun e w' => e = .returned (.bool (v.name.toList == s.toList)) ∧ Below w.heap.size w w' := by
  obtain ⟨W, hW⟩ : ∃ W, w.alloc (.cells #[.string v.name, .int .i64 v.lo, .int .i64 v.hi] 56) = W := ⟨_, rfl⟩
  have hbW : Below w.heap.size w W := by rw [← hW]; exact (Below.refl _ _).alloc (Nat.le_refl _) _
  have c0 : W.cell? ⟨w.heap.size, 0, none⟩ = some (.string v.name) := by rw [← hW]; simp
  have c1 := (hbW.cell (p := ⟨p, 0, none⟩) hpl).trans hp
  have HB : Hid (Below w.heap.size w W) := hbW
  unfold vrVal
  clear hbW
  go_enter Tryz.func183, Tryz.ntmps183
  go_wp2
  go_ret
  exact ⟨rfl, HB.out⟩

set_option maxRecDepth 10000 in
set_option maxHeartbeats 1000000 in
theorem findVars (va : Value) (l : List Md.Vr) (x : List UInt8) (p : Nat) (w : World) (hv : VarsAt w va l) (hp : w.cell? ⟨p, 0, none⟩ = some (.string (txtOf x))) (hpl : p < w.heap.size) :
    Calls Tryz.prog 113 #[va, .func (.func 183) #[] #[.pointer (some ⟨p, 0, none⟩)]] w fun e w' => e = .returned (.int .i64 (placeT l x)) ∧ Below w.heap.size w w' := by
  obtain ⟨s, hs⟩ : ∃ s, txtOf x = s := ⟨_, rfl⟩
  have hsx : ∀ t : ByteArray, (t.toList == s.toList) = (t.data.toList == x) := fun t => by rw [← hs, Lib.toList_data, Lib.toList_data, txt_list]
  rw [hs] at hp
  have HH : Hid (∀ (w' : World) (v : Md.Vr), Below w.heap.size w w' → Calls Tryz.prog 183 #[.agg #[.string v.name, .int .i64 v.lo, .int .i64 v.hi], .pointer (some ⟨p, 0, none⟩)] w' fun e w'' => e = .returned (.bool (v.name.data.toList == x)) ∧ Below w'.heap.size w' w'') := fun w' v hb => by
    have := clos183 v s p w' ((hb.cell (p := ⟨p, 0, none⟩) hpl).trans hp) (Nat.lt_of_lt_of_le hpl hb.size)
    rw [hsx] at this
    exact this
  obtain ⟨a, cap, rfl, hm, _, hc⟩ := hv
  unfold maxLen at hm
  have HC : Hid (0 < l.length → ∃ b off, a = some ⟨b, off, none⟩ ∧ b < w.heap.size ∧ ∀ j (h : j < l.length), w.cell? ⟨b, off + j * 3, none⟩ = some (.string l[j].name) ∧ w.cell? ⟨b, off + j * 3 + 1, none⟩ = some (.int .i64 l[j].lo) ∧ w.cell? ⟨b, off + j * 3 + 2, none⟩ = some (.int .i64 l[j].hi)) := hc
  clear hc hp hpl hs hsx
  go_enter Tryz.func113, Tryz.ntmps113
  go_wp2
  go_loopw [8] (fun iv wr => ∃ k : Nat, iv = .int .i64 (k : Int) ∧ k ≤ l.length ∧ Hid ((l.take k).findIdx? (fun v => v.name.data.toList == x) = none) ∧ Hid (Below w.heap.size w wr)) (fun iv _ => l.length - (intOf iv).toNat)
  case atStart => exact ⟨0, rfl, Nat.zero_le _, (show _ = _ by simp), Below.refl _ _⟩
  case round =>
    obtain ⟨k, rfl, hk, hA, hB⟩ := hrel
    by_cases hlt : k < l.length
    · have hkI : (k : Int) < (l.length : Int) := by omega
      obtain ⟨b, off, rfl, hb, hc⟩ := HC.out (by omega)
      obtain ⟨d0, d1, d2⟩ := hc k hlt
      have e0 := (hB.out.cell (p := ⟨b, off + k * 3, none⟩) hb).trans d0
      have e1 := (hB.out.cell (p := ⟨b, off + k * 3 + 1, none⟩) hb).trans d1
      have e2 := (hB.out.cell (p := ⟨b, off + k * 3 + 2, none⟩) hb).trans d2
      have HU : Hid (Calls Tryz.prog 183 #[.agg #[.string l[k].name, .int .i64 l[k].lo, .int .i64 l[k].hi], .pointer (some ⟨p, 0, none⟩)] wr fun e w'' => e = .returned (.bool (l[k].name.data.toList == x)) ∧ Below wr.heap.size wr w'') := HH.out wr l[k] hB.out
      clear hc d0 d1 d2
      cases hp : (l[k].name.data.toList == x)
      · have hnx : Hid ((l.take (k + 1)).findIdx? (fun v => v.name.data.toList == x) = none) := place_next hlt hA.out hp
        rw [hp] at HU
        clear hp
        generalize l[k] = y at *
        go_wp2_with (go_at_call 183; refine calls_at HU.out (by with_reducible rfl) (by with_reducible rfl) ?_; rintro e w2 ⟨rfl, hb2⟩)
        go_roundw
        case rel => exact ⟨k + 1, by go_num, by omega, hnx, hB.out.trans (hb2.mono hB.out.size)⟩
        case measure => simp [intOf]; omega
      · have hres : Hid (placeT l x = (k : Int)) := place_hit hlt hA.out hp
        rw [hp] at HU
        clear hp
        generalize l[k] = y at *
        go_wp2_with (go_at_call 183; refine calls_at HU.out (by with_reducible rfl) (by with_reducible rfl) ?_; rintro e w2 ⟨rfl, hb2⟩)
        go_ret
        exact ⟨ret_int hres.out.symm, hB.out.trans (hb2.mono hB.out.size)⟩
    · have hkI : ¬ (k : Int) < (l.length : Int) := by omega
      have hres : Hid (placeT l x = -1) := place_none (by have := hA.out; rwa [List.take_of_length_le (by omega)] at this)
      go_wp2
      go_ret
      exact ⟨ret_int hres.out.symm, hB.out⟩

set_option maxHeartbeats 1000000 in
theorem placeL_any {w0 : World} {V : List Md.Vr} {va : Value} {b : Nat} {s : St} (x : List UInt8) (w : World) (h : Ln w0 V va b s w) : Calls Tryz.prog 164 #[.pointer (some ⟨b, 0, none⟩), .string (txtOf x)] w fun e w' => e = .returned (.int .i64 (placeT V x)) ∧ Below w.heap.size w w' := by
  obtain ⟨W1, hW1⟩ : ∃ W1, w.alloc (.cells #[.string (txtOf x)] 9) = W1 := ⟨_, rfl⟩
  have hb1 : Below w.heap.size w W1 := by rw [← hW1]; exact (Below.refl _ _).alloc (Nat.le_refl _) _
  have hs1 : W1.heap.size = w.heap.size + 1 := by rw [← hW1]; simp
  have hln := h.below hb1
  have c0 := hln.c0
  have cx : W1.cell? ⟨w.heap.size, 0, none⟩ = some (.string (txtOf x)) := by rw [← hW1, cell_of (heap_alloc_new w _) 0]; rfl
  have HC : Hid (Calls Tryz.prog 113 #[va, .func (.func 183) #[] #[.pointer (some ⟨w.heap.size, 0, none⟩)]] W1 fun e w' => e = .returned (.int .i64 (placeT V x)) ∧ Below W1.heap.size W1 w') := findVars va V x w.heap.size W1 (hln.V.mono_low hln.way.low) cx (by omega)
  have HB : Hid (Below w.heap.size w W1) := hb1
  clear hb1 hs1 hln h
  go_enter Tryz.func164, Tryz.ntmps164
  go_wp2_with fail
  refine calls_at HC.out (by with_reducible rfl) (by with_reducible rfl) ?_
  rintro e w' ⟨rfl, hb⟩
  go_wp2_with fail
  go_ret
  exact ⟨rfl, bl_next HB.out hb⟩

set_option maxHeartbeats 1000000 in
theorem isNameT_any (x : List UInt8) (w : World) (hx : x.length ≤ 70000) : Calls Tryz.prog 165 #[.string (txtOf x)] w fun e w' => e = .returned (.bool (Md.nameB x)) ∧ Below w.heap.size w w' := by
  have HR : Hid (Calls Tryz.prog 168 #[.agg #[.string (txtOf x), .int .i64 0, .int .i64 0]] w fun e w' => e = .returned (.bool (Md.nameB x)) ∧ Below w.heap.size w w') := by
    have := isRight_any ⟨txtOf x, 0, 0⟩ w (by show (txtOf x).size ≤ _; rw [txt_size]; unfold maxLen; omega)
    have e : rightV ⟨txtOf x, 0, 0⟩ = Md.nameB x := by
      show (Md.nameB (txtOf x).data.toList && Md.boundsB 0 0) = _
      rw [txt_list]
      simp [Md.boundsB, Md.numB]
    rw [e] at this
    exact this
  go_enter Tryz.func165, Tryz.ntmps165
  go_wp2_with fail
  refine calls_at HR.out (by with_reducible rfl) (by with_reducible rfl) ?_
  rintro e w' ⟨rfl, hb⟩
  go_wp2_with fail
  go_ret
  exact ⟨rfl, hb⟩

set_option maxHeartbeats 2000000 in
theorem known_at {w0 : World} {V : List Md.Vr} {va : Value} {b : Nat} {s : St} (x : List UInt8) (w : World) (h : Ln w0 V va b s w) (hx : x.length ≤ 70000) : Calls Tryz.prog 123 #[.pointer (some ⟨b, 0, none⟩), .string (txtOf x)] w (RO w0 V va b (.int .i64 (knownT V x s).1) (knownT V x s).2 w) := by
  have HP : Hid (Calls Tryz.prog 164 #[.pointer (some ⟨b, 0, none⟩), .string (txtOf x)] w fun e w' => e = .returned (.int .i64 (placeT V x)) ∧ Below w.heap.size w w') := placeL_any x w h
  have HI : Hid (∀ w', Calls Tryz.prog 165 #[.string (txtOf x)] w' fun e w2 => e = .returned (.bool (Md.nameB x)) ∧ Below w'.heap.size w' w2) := fun w' => isNameT_any x w' hx
  have HF : Hid (∀ (e : Int) (t : St) w', Ln w0 V va b t w' → Calls Tryz.prog 109 #[.pointer (some ⟨b, 0, none⟩), .int .i64 e] w' (RO w0 V va b (.tuple #[]) (failT e t) w')) := fun e t w' h' => fail_any e w' h'
  have HL : Hid (Ln w0 V va b s w) := h
  unfold knownT
  obtain ⟨p, hp⟩ : ∃ p, placeT V x = p := ⟨_, rfl⟩
  rw [hp] at HP ⊢
  clear h hp
  cases hn : Md.nameB x <;> by_cases h0 : p < 0
  all_goals
    rw [hn] at HI
    first | rw [if_pos h0] | rw [if_neg h0]
    simp only [if_true, if_false, Bool.false_eq_true]
    go_enter Tryz.func123, Tryz.ntmps123
    go_wp2_with fail
    refine calls_at HP.out (by with_reducible rfl) (by with_reducible rfl) ?_
    rintro e w1 ⟨rfl, hb1⟩
    have HL1 : Hid (Ln w0 V va b s w1) := HL.out.below hb1
    have HO1 : Hid (Ofw (fun k => k = b) w w1) := Ofw.of_below hb1
    clear hb1
    go_wp2_with fail
    refine calls_at (HI.out w1) (by with_reducible rfl) (by with_reducible rfl) ?_
    rintro e w2 ⟨rfl, hb2⟩
    have HL2 : Hid (Ln w0 V va b s w2) := HL1.out.below hb2
    have HO2 : Hid (Ofw (fun k => k = b) w w2) := HO1.out.trans (Ofw.of_below hb2)
    clear hb2
    go_wp2_with fail
  · refine calls_at (HF.out 54 s w2 HL2.out) (by with_reducible rfl) (by with_reducible rfl) ?_
    rintro e w3 ⟨rfl, h3, o3⟩
    go_wp2_with fail
    refine calls_at (HF.out 56 _ w3 h3) (by with_reducible rfl) (by with_reducible rfl) ?_
    rintro e w4 ⟨rfl, h4, o4⟩
    go_wp2_with fail
    go_ret
    exact ⟨rfl, h4, (HO2.out.trans o3).trans o4⟩
  · refine calls_at (HF.out 54 s w2 HL2.out) (by with_reducible rfl) (by with_reducible rfl) ?_
    rintro e w3 ⟨rfl, h3, o3⟩
    go_wp2_with fail
    go_ret
    exact ⟨rfl, h3, HO2.out.trans o3⟩
  · refine calls_at (HF.out 56 s w2 HL2.out) (by with_reducible rfl) (by with_reducible rfl) ?_
    rintro e w3 ⟨rfl, h3, o3⟩
    go_wp2_with fail
    go_ret
    exact ⟨rfl, h3, HO2.out.trans o3⟩
  · go_ret
    exact ⟨rfl, HL2.out, HO2.out⟩

set_option maxHeartbeats 1000000 in
theorem name_any {w0 : World} {V : List Md.Vr} {va : Value} {b : Nat} {s : St} (w : World) (h : Ln w0 V va b s w) : Calls Tryz.prog 71 #[.pointer (some ⟨b, 0, none⟩)] w (RO w0 V va b (.int .i64 (nameT V s).1) (nameT V s).2 w) := by
  have HN : Hid (Calls Tryz.prog 124 #[.pointer (some ⟨b, 0, none⟩)] w (RO w0 V va b (.string (txtOf (nextT s).1)) (nextT s).2 w)) := next_any w h
  have HV : Hid (∀ w', Ln w0 V va b (nextT s).2 w' → Calls Tryz.prog 123 #[.pointer (some ⟨b, 0, none⟩), .string (txtOf (nextT s).1)] w' (RO w0 V va b (.int .i64 (nameT V s).1) (nameT V s).2 w')) := fun w' h' => known_at _ w' h' (next_word h.n).1
  clear h
  go_enter Tryz.func71, Tryz.ntmps71
  go_wp2_with fail
  refine calls_at HN.out (by with_reducible rfl) (by with_reducible rfl) ?_
  rintro e w1 ⟨rfl, h1, o1⟩
  go_wp2_with fail
  refine calls_at (HV.out w1 h1) (by with_reducible rfl) (by with_reducible rfl) ?_
  rintro e w2 ⟨rfl, h2, o2⟩
  go_wp2_with fail
  go_ret
  exact ⟨rfl, h2, o1.trans o2⟩

set_option maxHeartbeats 1000000 in
theorem cloneT_any (s : ByteArray) (w : World) (hs : s.size ≤ 9000000) : Calls Tryz.prog 166 #[.string s] w fun e w' => e = .returned (.string s) ∧ Below w.heap.size w w' := by
  have HC : Hid (Calls Tryz.prog 184 #[.string s] w fun e w' => e = .returned (.string s) ∧ Below w.heap.size w w') := Tryz.stringslite_Clone s w (by omega)
  go_enter Tryz.func166, Tryz.ntmps166
  go_wp2_with fail
  refine calls_at HC.out (by with_reducible rfl) (by with_reducible rfl) ?_
  rintro e w1 ⟨rfl, h1⟩
  go_wp2_with fail
  go_ret
  exact ⟨rfl, h1⟩

set_option maxHeartbeats 2000000 in
theorem new_name {w0 : World} {V : List Md.Vr} {va : Value} {b : Nat} {s : St} (w : World) (h : Ln w0 V va b s w) : Calls Tryz.prog 126 #[.pointer (some ⟨b, 0, none⟩)] w (RO w0 V va b (.string (txtOf (newT V s).1)) (newT V s).2 w) := by
  have HN : Hid (Calls Tryz.prog 124 #[.pointer (some ⟨b, 0, none⟩)] w (RO w0 V va b (.string (txtOf (nextT s).1)) (nextT s).2 w)) := next_any w h
  have hl := (next_word h.n).1
  unfold newT
  obtain ⟨x, hx⟩ : ∃ x, (nextT s).1 = x := ⟨_, rfl⟩
  obtain ⟨t, ht⟩ : ∃ t, (nextT s).2 = t := ⟨_, rfl⟩
  rw [hx, ht] at HN ⊢
  rw [hx] at hl
  have HP : Hid (∀ (t' : St) w', Ln w0 V va b t' w' → Calls Tryz.prog 164 #[.pointer (some ⟨b, 0, none⟩), .string (txtOf x)] w' fun e w2 => e = .returned (.int .i64 (placeT V x)) ∧ Below w'.heap.size w' w2) := fun t' w' h' => placeL_any x w' h'
  have HI : Hid (∀ w', Calls Tryz.prog 165 #[.string (txtOf x)] w' fun e w2 => e = .returned (.bool (Md.nameB x)) ∧ Below w'.heap.size w' w2) := fun w' => isNameT_any x w' hl
  have HF : Hid (∀ (e : Int) (t : St) w', Ln w0 V va b t w' → Calls Tryz.prog 109 #[.pointer (some ⟨b, 0, none⟩), .int .i64 e] w' (RO w0 V va b (.tuple #[]) (failT e t) w')) := fun e t w' h' => fail_any e w' h'
  have HC : Hid (∀ w', Calls Tryz.prog 166 #[.string (txtOf x)] w' fun e w2 => e = .returned (.string (txtOf x)) ∧ Below w'.heap.size w' w2) := fun w' => cloneT_any _ w' (by rw [txt_size]; omega)
  obtain ⟨p, hp⟩ : ∃ p, placeT V x = p := ⟨_, rfl⟩
  rw [hp] at HP ⊢
  clear h hp hx ht hl
  have tail : ∀ (t1 : St) w2, Ln w0 V va b t1 w2 → Ofw (fun k => k = b) w w2 → True := fun _ _ _ _ => trivial
  clear tail
  cases hn : Md.nameB x <;> by_cases h0 : 0 ≤ p
  all_goals
    rw [hn] at HI
    first | rw [if_pos h0] | rw [if_neg h0]
    simp only [if_true, if_false, Bool.false_eq_true]
    go_enter Tryz.func126, Tryz.ntmps126
    go_wp2_with fail
    refine calls_at HN.out (by with_reducible rfl) (by with_reducible rfl) ?_
    rintro e w1 ⟨rfl, h1, o1⟩
    have HL1 : Hid (Ln w0 V va b t w1) := h1
    have HO1 : Hid (Ofw (fun k => k = b) w w1) := o1
    clear h1 o1
    go_wp2_with fail
    refine calls_at (HI.out w1) (by with_reducible rfl) (by with_reducible rfl) ?_
    rintro e w2 ⟨rfl, hb2⟩
    have HL2 : Hid (Ln w0 V va b t w2) := HL1.out.below hb2
    have HO2 : Hid (Ofw (fun k => k = b) w w2) := HO1.out.trans (Ofw.of_below hb2)
    clear hb2
    go_wp2_with fail
  · refine calls_at (HF.out 54 t w2 HL2.out) (by with_reducible rfl) (by with_reducible rfl) ?_
    rintro e w3 ⟨rfl, h3, o3⟩
    have H3 : Hid (Ln w0 V va b (failT 54 t) w3 ∧ Ofw (fun k => k = b) w w3) := ⟨h3, HO2.out.trans o3⟩
    clear h3 o3
    go_wp2_with fail
    refine calls_at (HP.out _ w3 H3.out.1) (by with_reducible rfl) (by with_reducible rfl) ?_
    rintro e w4 ⟨rfl, hb4⟩
    have H4 : Hid (Ln w0 V va b (failT 54 t) w4 ∧ Ofw (fun k => k = b) w w4) := ⟨H3.out.1.below hb4, H3.out.2.trans (Ofw.of_below hb4)⟩
    clear hb4
    go_wp2_with fail
    refine calls_at (HF.out 55 _ w4 H4.out.1) (by with_reducible rfl) (by with_reducible rfl) ?_
    rintro e w5 ⟨rfl, h5, o5⟩
    have H5 : Hid (Ln w0 V va b (failT 55 (failT 54 t)) w5 ∧ Ofw (fun k => k = b) w w5) := ⟨h5, H4.out.2.trans o5⟩
    clear h5 o5
    go_wp2_with fail
    refine calls_at (HC.out w5) (by with_reducible rfl) (by with_reducible rfl) ?_
    rintro e w6 ⟨rfl, hb6⟩
    go_wp2_with fail
    go_ret
    exact ⟨rfl, H5.out.1.below hb6, H5.out.2.trans (Ofw.of_below hb6)⟩
  · refine calls_at (HF.out 54 t w2 HL2.out) (by with_reducible rfl) (by with_reducible rfl) ?_
    rintro e w3 ⟨rfl, h3, o3⟩
    have H3 : Hid (Ln w0 V va b (failT 54 t) w3 ∧ Ofw (fun k => k = b) w w3) := ⟨h3, HO2.out.trans o3⟩
    clear h3 o3
    go_wp2_with fail
    refine calls_at (HP.out _ w3 H3.out.1) (by with_reducible rfl) (by with_reducible rfl) ?_
    rintro e w4 ⟨rfl, hb4⟩
    have H4 : Hid (Ln w0 V va b (failT 54 t) w4 ∧ Ofw (fun k => k = b) w w4) := ⟨H3.out.1.below hb4, H3.out.2.trans (Ofw.of_below hb4)⟩
    clear hb4
    go_wp2_with fail
    refine calls_at (HC.out w4) (by with_reducible rfl) (by with_reducible rfl) ?_
    rintro e w6 ⟨rfl, hb6⟩
    go_wp2_with fail
    go_ret
    exact ⟨rfl, H4.out.1.below hb6, H4.out.2.trans (Ofw.of_below hb6)⟩
  · refine calls_at (HP.out _ w2 HL2.out) (by with_reducible rfl) (by with_reducible rfl) ?_
    rintro e w4 ⟨rfl, hb4⟩
    have H4 : Hid (Ln w0 V va b t w4 ∧ Ofw (fun k => k = b) w w4) := ⟨HL2.out.below hb4, HO2.out.trans (Ofw.of_below hb4)⟩
    clear hb4
    go_wp2_with fail
    refine calls_at (HF.out 55 _ w4 H4.out.1) (by with_reducible rfl) (by with_reducible rfl) ?_
    rintro e w5 ⟨rfl, h5, o5⟩
    have H5 : Hid (Ln w0 V va b (failT 55 t) w5 ∧ Ofw (fun k => k = b) w w5) := ⟨h5, H4.out.2.trans o5⟩
    clear h5 o5
    go_wp2_with fail
    refine calls_at (HC.out w5) (by with_reducible rfl) (by with_reducible rfl) ?_
    rintro e w6 ⟨rfl, hb6⟩
    go_wp2_with fail
    go_ret
    exact ⟨rfl, H5.out.1.below hb6, H5.out.2.trans (Ofw.of_below hb6)⟩
  · refine calls_at (HP.out _ w2 HL2.out) (by with_reducible rfl) (by with_reducible rfl) ?_
    rintro e w4 ⟨rfl, hb4⟩
    have H4 : Hid (Ln w0 V va b t w4 ∧ Ofw (fun k => k = b) w w4) := ⟨HL2.out.below hb4, HO2.out.trans (Ofw.of_below hb4)⟩
    clear hb4
    go_wp2_with fail
    refine calls_at (HC.out w4) (by with_reducible rfl) (by with_reducible rfl) ?_
    rintro e w6 ⟨rfl, hb6⟩
    go_wp2_with fail
    go_ret
    exact ⟨rfl, H4.out.1.below hb6, H4.out.2.trans (Ofw.of_below hb6)⟩
end Go.Proofs.YthohnmplbjhjaaaGreatDoor
