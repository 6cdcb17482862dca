/-
  Put together: BrMath, BrPick, BrKnown, DtBegin.
-/
import Derived.Test.YtdfbmfikhccajaaGreatDoorJ47
import Derived.Test.YtdfbmfikhccajaaGreatDoorJ40
import Derived.Test.YtdfbmfikhccajaaGreatDoorJ03
import Derived.Test.YtdfbmfikhccajaaGreatDoorBrScript
namespace Go.Proofs.YtdfbmfikhccajaaGreatDoor
open Go.RowKit

theorem open_at {L : List Dm} {i : Nat} (hi : i < (openL L L.length).length) : ∃ (x : Nat) (hx : x < L.length), (openL L L.length)[i] = (x : Int) ∧ 1 < bSize L[x].a L[x].b := by
  have hm : (openL L L.length)[i] ∈ openL L L.length := List.getElem_mem hi
  generalize (openL L L.length)[i] = y at hm
  unfold openL at hm
  obtain ⟨x, hx, rfl⟩ := List.mem_map.1 hm
  obtain ⟨h1, h2⟩ := List.mem_filter.1 hx
  have hxl : x < L.length := List.mem_range.1 h1
  refine ⟨x, hxl, rfl, ?_⟩
  rw [List.getElem?_eq_getElem hxl] at h2
  simpa using h2
theorem lo_hi {d : Dm} (h : d.Ok) (ha : d.Any) (hz : 1 < bSize d.a d.b) : d.lo < d.hi := by
  have hf := fine_of h ha
  have h1 := hf.most _ hf.loIn
  have h2 : d.lo ≠ d.hi := fun e => by
    have := hf.one.2 e
    unfold Dm.one Dm.size at this
    have := of_decide_eq_true this
    omega
  omega
theorem tk1 (k u : Int) : (!takesB 1 k u) = decide (k ≤ u) := by
  by_cases h : u < k
  · simp [takesB, h]
  · simp [takesB, h]; omega
theorem tk2 (k u : Int) : (!takesB 2 k u) = decide (u ≤ k) := by
  by_cases h : k < u
  · simp [takesB, h]
  · simp [takesB, h]; omega
/-- A part that takes something and leaves something. -/
theorem part_of {s : St} (ha : Alls s) {x : Nat} (hx : x < s.now.length) (kd k : Int) (h1 : ∃ v ∈ s.now[x].all, (!takesB kd k v) = true) (h2 : ∃ v ∈ s.now[x].all, (!takesB kd k v) = false) :
    s.went kd x k = true ∧ s.may kd x k = true ∧ ∃ hx' : x < (s.cut kd x k).now.length, ((s.cut kd x k).now[x].size = ((lft kd k s.now[x].all).length : Int)) ∧ 1 ≤ (s.cut kd x k).now[x].size ∧ ∀ v ∈ s.now[x].all, (s.cut kd x k).now[x].has v = !takesB kd k v := by
  obtain ⟨ho, hA⟩ := ha _ (List.getElem_mem hx)
  obtain ⟨w1, w2, w3⟩ := went_is ho hA kd k
  have e1 : (lft kd k s.now[x].all).isEmpty = false := by
    obtain ⟨v, hv, hp⟩ := h1
    have : v ∈ lft kd k s.now[x].all := List.mem_filter.2 ⟨hv, hp⟩
    cases hE : lft kd k s.now[x].all with
    | nil => rw [hE] at this; cases this
    | cons a l => rfl
  have e2 : (lft kd k s.now[x].all).length < s.now[x].all.length := by
    obtain ⟨v, hv, hp⟩ := h2
    exact List.length_filter_lt_length_iff_exists.2 ⟨v, hv, by rw [hp]; simp⟩
  rw [e1] at w1 w2 w3
  simp only [Bool.not_false, Bool.true_and, Bool.false_eq_true, if_false] at w1 w2 w3
  rw [decide_eq_true e2] at w1
  rw [w1] at w3
  simp only [if_true] at w3
  obtain ⟨c1, c2, c3⟩ := cut_yes (k := kd) (v := k) hx
  rw [w1] at c1 c2
  rw [w2] at c3
  simp only [if_true] at c1
  have hx' : x < (s.cut kd x k).now.length := by rw [(cut_len s kd x k).1]; exact hx
  have hd : (s.cut kd x k).now[x] = s.now[x].cut kd k := by simp [c1]
  obtain ⟨ho', hA'⟩ := alls_cut ha kd x k _ (List.getElem_mem hx')
  rw [hd] at ho' hA'
  have hf' := fine_of ho' hA'
  refine ⟨c2, c3, hx', ?_, ?_, fun v hv => ?_⟩
  · rw [hd, ← all_len ho' hA', w3]
  · rw [hd]; exact hf'.sz
  · rw [hd]
    have h4 : v ∈ (s.now[x].cut kd k).all ↔ (!takesB kd k v) = true := by
      rw [w3]
      constructor
      · exact fun h => (List.mem_filter.1 h).2
      · exact fun h => List.mem_filter.2 ⟨hv, h⟩
    have h5 := (hf'.all v).symm.trans h4
    cases hh : (s.now[x].cut kd k).has v with
    | true => exact (h5.1 hh).symm
    | false =>
      cases ht : (!takesB kd k v) with
      | true => rw [h5.2 ht] at hh; cases hh
      | false => rfl
/-- Both parts. -/
structure Parts (s a b : St) (x : Nat) : Prop where
  ex : ∃ (hx : x < s.now.length) (hA : x < a.now.length) (hB : x < b.now.length), a.now[x].size + b.now[x].size = s.now[x].size ∧ 1 ≤ a.now[x].size ∧ 1 ≤ b.now[x].size ∧ s.now[x].size ≤ 64 ∧ ∀ v ∈ s.now[x].all, a.now[x].has v = !b.now[x].has v
theorem parts_of {s : St} (ha : Alls s) {x : Nat} (hx : x < s.now.length) (k : Int) (h1 : s.now[x].lo < k) (h2 : k ≤ s.now[x].hi) :
    (s.went 2 x (k - 1) = true ∧ s.may 2 x (k - 1) = true) ∧ (s.went 1 x k = true ∧ s.may 1 x k = true) ∧ Parts s (s.cut 2 x (k - 1)) (s.cut 1 x k) x := by
  obtain ⟨ho, hA⟩ := ha _ (List.getElem_mem hx)
  have hf := fine_of ho hA
  have ml := (hf.all _).2 hf.loIn
  have mh := (hf.all _).2 hf.hiIn
  obtain ⟨a1, a2, a3, a4, a5, a6⟩ := part_of ha hx 2 (k - 1) ⟨_, ml, by rw [tk2]; simp; omega⟩ ⟨_, mh, by rw [tk2]; simp; omega⟩
  obtain ⟨b1, b2, b3, b4, b5, b6⟩ := part_of ha hx 1 k ⟨_, mh, by rw [tk1]; simp; omega⟩ ⟨_, ml, by rw [tk1]; simp; omega⟩
  refine ⟨⟨a1, a2⟩, ⟨b1, b2⟩, hx, a3, b3, ?_, a5, b5, ?_, fun v hv => ?_⟩
  · rw [a4, b4, ← all_len ho hA]
    have e : lft 1 k s.now[x].all = s.now[x].all.filter fun u => !(!takesB 2 (k - 1) u) := by
      unfold lft
      refine List.filter_congr fun u _ => ?_
      rw [tk1, tk2, ← decide_not]
      exact decide_eq_decide.2 (by omega)
    have e2 := List.length_eq_countP_add_countP (fun u => !takesB 2 (k - 1) u) (l := s.now[x].all)
    rw [e]
    unfold lft
    rw [← List.countP_eq_length_filter, ← List.countP_eq_length_filter]
    have e3 : List.countP (fun a => decide ¬(!takesB 2 (k - 1) a) = true) s.now[x].all = List.countP (fun u => !(!takesB 2 (k - 1) u)) s.now[x].all := by
      refine List.countP_congr fun u _ => ?_
      cases (takesB 2 (k - 1) u) <;> simp
    rw [e3] at e2
    omega
  · have := all_len64 ho hA
    have := all_len ho hA
    omega
  · rw [a6 v hv, b6 v hv, tk1, tk2, ← decide_not]
    exact decide_eq_decide.2 (by omega)
end Go.Proofs.YtdfbmfikhccajaaGreatDoor

namespace Go.Proofs.YtdfbmfikhccajaaGreatDoor
open Go.RowKit

set_option maxRecDepth 10000 in
set_option maxHeartbeats 1000000 in
theorem pick_walk (p : Nat) (n : Int) (F : List Int) (i : Nat) (x lo hi : Int) (w : World) (hF : F.length ≤ 32) (hi0 : i < F.length) (hx : F[i] = x) (hr : dvR n (F.length : Int) = (i : Int)) (b1 : -1000000000 ≤ lo) (b2 : lo < hi) (b3 : hi ≤ 2000000000)
    (hO : Calls Tryz.prog 10 #[.pointer (some ⟨p, 0, none⟩)] w (VsOut F w)) (hH : ∀ w', Below w.heap.size w w' → Calls Tryz.prog 16 #[.pointer (some ⟨p, 0, none⟩), .int .i64 x] w' fun e w2 => e = .returned (.int .i64 hi) ∧ Below w'.heap.size w' w2) (hL : ∀ w', Below w.heap.size w w' → Calls Tryz.prog 17 #[.pointer (some ⟨p, 0, none⟩), .int .i64 x] w' fun e w2 => e = .returned (.int .i64 lo) ∧ Below w'.heap.size w' w2) :
    Calls Tryz.prog 8 #[.pointer (some ⟨p, 0, none⟩), .int .i64 n] w fun e w' => e = .returned (.tuple #[.int .i64 x, .int .i64 (lo + 1 + dvR (dvQ n (F.length : Int)) (hi - lo)), .bool true]) ∧ Below w.heap.size w w' := by
  have HO : Hid (Calls Tryz.prog 10 #[.pointer (some ⟨p, 0, none⟩)] w (VsOut F w)) := hO
  have HH : Hid (∀ w', Below w.heap.size w w' → Calls Tryz.prog 16 #[.pointer (some ⟨p, 0, none⟩), .int .i64 x] w' fun e w2 => e = .returned (.int .i64 hi) ∧ Below w'.heap.size w' w2) := hH
  have HL : Hid (∀ w', Below w.heap.size w w' → Calls Tryz.prog 17 #[.pointer (some ⟨p, 0, none⟩), .int .i64 x] w' fun e w2 => e = .returned (.int .i64 lo) ∧ Below w'.heap.size w' w2) := hL
  obtain ⟨q, hq⟩ : ∃ q, dvQ n (F.length : Int) = q := ⟨_, rfl⟩
  have HD1 : Hid (∀ w', Calls Tryz.prog 23 #[.int .i64 n, .int .i64 (F.length : Int)] w' fun e w2 => e = .returned (.tuple #[.int .i64 q, .int .i64 (i : Int)]) ∧ Below w'.heap.size w' w2) := fun w' => by
    have := divide_any n (F.length : Int) (by omega) (by omega) w'
    rw [hr, hq] at this
    exact this
  rw [hq]
  obtain ⟨r, hrr⟩ : ∃ r, dvR q (hi - lo) = r := ⟨_, rfl⟩
  obtain ⟨u, hu⟩ : ∃ u, dvQ q (hi - lo) = u := ⟨_, rfl⟩
  have hr2 := dvR_in q (b := hi - lo) (by omega)
  rw [hrr] at hr2
  have HD2 : Hid (∀ w', Calls Tryz.prog 23 #[.int .i64 q, .int .i64 (hi - lo)] w' fun e w2 => e = .returned (.tuple #[.int .i64 u, .int .i64 r]) ∧ Below w'.heap.size w' w2) := fun w' => by
    have := divide_any q (hi - lo) (by omega) (by omega) w'
    rw [hrr, hu] at this
    exact this
  rw [hrr]
  have e1 : IntKind.i64.wrap (hi - lo) = hi - lo := wrap_id (by omega) (by omega)
  have e2 : IntKind.i64.wrap (IntKind.i64.wrap (lo + 1) + r) = lo + 1 + r := by rw [wrap_id (n := lo + 1) (by omega) (by omega), wrap_id (by omega) (by omega)]
  have hiI : (i : Int) < (F.length : Int) := by omega
  have h0I : ¬ ((F.length : Int) = 0) := by omega
  clear hO hH hL hr hq hrr hu
  go_enter Tryz.func8, Tryz.ntmps8
  go_wp2_with fail
  refine calls_at HO.out (by with_reducible rfl) (by with_reducible rfl) ?_
  rintro e w1 ⟨v1, rfl, ho1, hb1⟩
  have HB1 : Hid (Below w.heap.size w w1) := hb1
  obtain ⟨a, cap, rfl, hc⟩ := row_form ho1
  obtain ⟨g, rfl, hg1, hg2, hcx⟩ := hc i hi0
  rw [hx] at hcx
  have HX : Hid (∀ w', Below w1.heap.size w1 w' → w'.cell? ⟨g, i, none⟩ = some (.int .i64 x)) := fun w' hb => (hb.cell (p := ⟨g, i, none⟩) hg2).trans hcx
  clear ho1 hb1 hc hcx
  go_wp2_with fail
  refine calls_at (HD1.out _) (by with_reducible rfl) (by with_reducible rfl) ?_
  rintro e w2 ⟨rfl, hb2⟩
  have HB2 : Hid (Below w.heap.size w w2) := bl_next HB1.out hb2
  have c0 : w2.cell? ⟨g, i, none⟩ = some (.int .i64 x) := HX.out w2 hb2
  clear hb2
  go_wp2_with fail
  refine calls_at (HH.out _ HB2.out) (by with_reducible rfl) (by with_reducible rfl) ?_
  rintro e w3 ⟨rfl, hb3⟩
  have HB3 : Hid (Below w.heap.size w w3) := bl_next HB2.out hb3
  clear hb3
  go_wp2_with fail
  refine calls_at (HL.out _ HB3.out) (by with_reducible rfl) (by with_reducible rfl) ?_
  rintro e w4 ⟨rfl, hb4⟩
  have HB4 : Hid (Below w.heap.size w w4) := bl_next HB3.out hb4
  clear hb4
  go_wp2_with fail
  refine calls_at (HD2.out _) (by with_reducible rfl) (by with_reducible rfl) ?_
  rintro e w5 ⟨rfl, hb5⟩
  have HB5 : Hid (Below w.heap.size w w5) := bl_next HB4.out hb5
  clear hb5
  go_wp2_with fail
  refine calls_at (HL.out _ HB5.out) (by with_reducible rfl) (by with_reducible rfl) ?_
  rintro e w6 ⟨rfl, hb6⟩
  have HB6 : Hid (Below w.heap.size w w6) := bl_next HB5.out hb6
  clear hb6
  go_wp2_with fail
  go_ret3
  exact ⟨rfl, HB6.out⟩

set_option maxRecDepth 10000 in
set_option maxHeartbeats 1000000 in
theorem rPick_walk (p : Nat) (n : Int) (F : List Int) (i : Nat) (x lo hi : Int) (w : World) (hF : F.length ≤ 32) (hi0 : i < F.length) (hx : F[i] = x) (hr : dvR n (F.length : Int) = (i : Int)) (b1 : -1000000000 ≤ lo) (b2 : lo < hi) (b3 : hi ≤ 2000000000)
    (hO : Calls Tryz.prog 24 #[.pointer (some ⟨p, 0, none⟩)] w (VsOut F w)) (hH : ∀ w', Below w.heap.size w w' → Calls Tryz.prog 26 #[.pointer (some ⟨p, 0, none⟩), .int .i64 x] w' fun e w2 => e = .returned (.int .i64 hi) ∧ Below w'.heap.size w' w2) (hL : ∀ w', Below w.heap.size w w' → Calls Tryz.prog 27 #[.pointer (some ⟨p, 0, none⟩), .int .i64 x] w' fun e w2 => e = .returned (.int .i64 lo) ∧ Below w'.heap.size w' w2) :
    Calls Tryz.prog 9 #[.pointer (some ⟨p, 0, none⟩), .int .i64 n] w fun e w' => e = .returned (.tuple #[.int .i64 x, .int .i64 (lo + 1 + dvR (dvQ n (F.length : Int)) (hi - lo)), .bool true]) ∧ Below w.heap.size w w' := by
  have HO : Hid (Calls Tryz.prog 24 #[.pointer (some ⟨p, 0, none⟩)] w (VsOut F w)) := hO
  have HH : Hid (∀ w', Below w.heap.size w w' → Calls Tryz.prog 26 #[.pointer (some ⟨p, 0, none⟩), .int .i64 x] w' fun e w2 => e = .returned (.int .i64 hi) ∧ Below w'.heap.size w' w2) := hH
  have HL : Hid (∀ w', Below w.heap.size w w' → Calls Tryz.prog 27 #[.pointer (some ⟨p, 0, none⟩), .int .i64 x] w' fun e w2 => e = .returned (.int .i64 lo) ∧ Below w'.heap.size w' w2) := hL
  obtain ⟨q, hq⟩ : ∃ q, dvQ n (F.length : Int) = q := ⟨_, rfl⟩
  have HD1 : Hid (∀ w', Calls Tryz.prog 25 #[.int .i64 n, .int .i64 (F.length : Int)] w' fun e w2 => e = .returned (.tuple #[.int .i64 (i : Int), .int .i64 q]) ∧ Below w'.heap.size w' w2) := fun w' => by
    have := modulo_any n (F.length : Int) (by omega) (by omega) w'
    rw [hr, hq] at this
    exact this
  rw [hq]
  obtain ⟨r, hrr⟩ : ∃ r, dvR q (hi - lo) = r := ⟨_, rfl⟩
  obtain ⟨u, hu⟩ : ∃ u, dvQ q (hi - lo) = u := ⟨_, rfl⟩
  have hr2 := dvR_in q (b := hi - lo) (by omega)
  rw [hrr] at hr2
  have HD2 : Hid (∀ w', Calls Tryz.prog 25 #[.int .i64 q, .int .i64 (hi - lo)] w' fun e w2 => e = .returned (.tuple #[.int .i64 r, .int .i64 u]) ∧ Below w'.heap.size w' w2) := fun w' => by
    have := modulo_any q (hi - lo) (by omega) (by omega) w'
    rw [hrr, hu] at this
    exact this
  rw [hrr]
  have e1 : IntKind.i64.wrap (hi - lo) = hi - lo := wrap_id (by omega) (by omega)
  have e2 : IntKind.i64.wrap (IntKind.i64.wrap (lo + 1) + r) = lo + 1 + r := by rw [wrap_id (n := lo + 1) (by omega) (by omega), wrap_id (by omega) (by omega)]
  have hiI : (i : Int) < (F.length : Int) := by omega
  have h0I : ¬ ((F.length : Int) = 0) := by omega
  clear hO hH hL hr hq hrr hu
  go_enter Tryz.func9, Tryz.ntmps9
  go_wp2_with fail
  refine calls_at HO.out (by with_reducible rfl) (by with_reducible rfl) ?_
  rintro e w1 ⟨v1, rfl, ho1, hb1⟩
  have HB1 : Hid (Below w.heap.size w w1) := hb1
  obtain ⟨a, cap, rfl, hc⟩ := row_form ho1
  obtain ⟨g, rfl, hg1, hg2, hcx⟩ := hc i hi0
  rw [hx] at hcx
  have HX : Hid (∀ w', Below w1.heap.size w1 w' → w'.cell? ⟨g, i, none⟩ = some (.int .i64 x)) := fun w' hb => (hb.cell (p := ⟨g, i, none⟩) hg2).trans hcx
  clear ho1 hb1 hc hcx
  go_wp2_with fail
  refine calls_at (HD1.out _) (by with_reducible rfl) (by with_reducible rfl) ?_
  rintro e w2 ⟨rfl, hb2⟩
  have HB2 : Hid (Below w.heap.size w w2) := bl_next HB1.out hb2
  have c0 : w2.cell? ⟨g, i, none⟩ = some (.int .i64 x) := HX.out w2 hb2
  clear hb2
  go_wp2_with fail
  refine calls_at (HH.out _ HB2.out) (by with_reducible rfl) (by with_reducible rfl) ?_
  rintro e w3 ⟨rfl, hb3⟩
  have HB3 : Hid (Below w.heap.size w w3) := bl_next HB2.out hb3
  clear hb3
  go_wp2_with fail
  refine calls_at (HL.out _ HB3.out) (by with_reducible rfl) (by with_reducible rfl) ?_
  rintro e w4 ⟨rfl, hb4⟩
  have HB4 : Hid (Below w.heap.size w w4) := bl_next HB3.out hb4
  clear hb4
  go_wp2_with fail
  refine calls_at (HD2.out _) (by with_reducible rfl) (by with_reducible rfl) ?_
  rintro e w5 ⟨rfl, hb5⟩
  have HB5 : Hid (Below w.heap.size w w5) := bl_next HB4.out hb5
  clear hb5
  go_wp2_with fail
  refine calls_at (HL.out _ HB5.out) (by with_reducible rfl) (by with_reducible rfl) ?_
  rintro e w6 ⟨rfl, hb6⟩
  have HB6 : Hid (Below w.heap.size w w6) := bl_next HB5.out hb6
  clear hb6
  go_wp2_with fail
  go_ret3
  exact ⟨rfl, HB6.out⟩

set_option maxRecDepth 10000 in
set_option maxHeartbeats 400000 in
theorem pick_no (p : Nat) (n : Int) (w : World) (hO : Calls Tryz.prog 10 #[.pointer (some ⟨p, 0, none⟩)] w (VsOut [] w)) : Calls Tryz.prog 8 #[.pointer (some ⟨p, 0, none⟩), .int .i64 n] w fun e w' => e = .returned (.tuple #[.int .i64 0, .int .i64 0, .bool false]) ∧ Below w.heap.size w w' := by
  have HO : Hid (Calls Tryz.prog 10 #[.pointer (some ⟨p, 0, none⟩)] w (VsOut [] w)) := hO
  clear hO
  go_enter Tryz.func8, Tryz.ntmps8
  go_wp2_with fail
  refine calls_at HO.out (by with_reducible rfl) (by with_reducible rfl) ?_
  rintro e w1 ⟨v1, rfl, ho1, hb1⟩
  have HB1 : Hid (Below w.heap.size w w1) := hb1
  obtain ⟨a, cap, rfl, hc⟩ := row_form ho1
  clear ho1 hb1 hc
  go_wp2_with fail
  go_ret3
  exact ⟨rfl, HB1.out⟩

set_option maxRecDepth 10000 in
set_option maxHeartbeats 400000 in
theorem rPick_no (p : Nat) (n : Int) (w : World) (hO : Calls Tryz.prog 24 #[.pointer (some ⟨p, 0, none⟩)] w (VsOut [] w)) : Calls Tryz.prog 9 #[.pointer (some ⟨p, 0, none⟩), .int .i64 n] w fun e w' => e = .returned (.tuple #[.int .i64 0, .int .i64 0, .bool false]) ∧ Below w.heap.size w w' := by
  have HO : Hid (Calls Tryz.prog 24 #[.pointer (some ⟨p, 0, none⟩)] w (VsOut [] w)) := hO
  clear hO
  go_enter Tryz.func9, Tryz.ntmps9
  go_wp2_with fail
  refine calls_at HO.out (by with_reducible rfl) (by with_reducible rfl) ?_
  rintro e w1 ⟨v1, rfl, ho1, hb1⟩
  have HB1 : Hid (Below w.heap.size w w1) := hb1
  obtain ⟨a, cap, rfl, hc⟩ := row_form ho1
  clear ho1 hb1 hc
  go_wp2_with fail
  go_ret3
  exact ⟨rfl, HB1.out⟩

/-- What Pick answers of a store. -/
def pkX (s : St) (n : Int) : Int := (openL s.now s.now.length).getD (dvR n ((openL s.now s.now.length).length : Int)).toNat 0
def pkK (s : St) (n : Int) : Int := match s.now[(pkX s n).toNat]? with
  | some d => d.lo + 1 + dvR (dvQ n ((openL s.now s.now.length).length : Int)) (d.hi - d.lo)
  | none => 0
def pkV (s : St) (n : Int) : Value := if (openL s.now s.now.length).length = 0 then .tuple #[.int .i64 0, .int .i64 0, .bool false] else .tuple #[.int .i64 (pkX s n), .int .i64 (pkK s n), .bool true]
/-- Where it is, if there is any. -/
theorem pk_at {s : St} (ha : Alls s) (n : Int) (h : 0 < (openL s.now s.now.length).length) : ∃ (i x : Nat) (hi : i < (openL s.now s.now.length).length) (hx : x < s.now.length), (openL s.now s.now.length)[i] = (x : Int) ∧ dvR n ((openL s.now s.now.length).length : Int) = (i : Int) ∧ pkX s n = (x : Int) ∧ s.now[x].lo < s.now[x].hi ∧ pkK s n = s.now[x].lo + 1 + dvR (dvQ n ((openL s.now s.now.length).length : Int)) (s.now[x].hi - s.now[x].lo) ∧ s.now[x].lo < pkK s n ∧ pkK s n ≤ s.now[x].hi ∧ -1000000000 ≤ s.now[x].lo ∧ s.now[x].hi ≤ 2000000000 := by
  obtain ⟨r1, r2⟩ := dvR_in n (b := ((openL s.now s.now.length).length : Int)) (by omega)
  obtain ⟨i, hi⟩ : ∃ i : Nat, dvR n ((openL s.now s.now.length).length : Int) = (i : Int) := ⟨(dvR n ((openL s.now s.now.length).length : Int)).toNat, by omega⟩
  have hil : i < (openL s.now s.now.length).length := by omega
  obtain ⟨x, hx, e1, e2⟩ := open_at hil
  obtain ⟨ho, hA⟩ := ha _ (List.getElem_mem hx)
  have hf := fine_of ho hA
  have hlt := lo_hi ho hA e2
  have eX : pkX s n = (x : Int) := by
    unfold pkX
    rw [hi, Int.toNat_natCast, List.getD_eq_getElem?_getD, List.getElem?_eq_getElem hil, e1]
    rfl
  have eK : pkK s n = s.now[x].lo + 1 + dvR (dvQ n ((openL s.now s.now.length).length : Int)) (s.now[x].hi - s.now[x].lo) := by
    unfold pkK
    rw [eX, Int.toNat_natCast, List.getElem?_eq_getElem hx]
  obtain ⟨q1, q2⟩ := dvR_in (dvQ n ((openL s.now s.now.length).length : Int)) (b := s.now[x].hi - s.now[x].lo) (by omega)
  exact ⟨i, x, hil, hx, e1, hi, eX, hlt, eK, by omega, by omega, hf.b1, hf.b2⟩
theorem pick_any {B p : Nat} {nv mv : Value} {s : St} {w : World} (n : Int) (h : StAt B w p nv mv s) (ha : Alls s) (hT : Tz w) : Calls Tryz.prog 8 #[.pointer (some ⟨p, 0, none⟩), .int .i64 n] w fun e w' => e = .returned (pkV s n) ∧ Below w.heap.size w w' := by
  have hs : 0 < w.heap.size := Nat.lt_of_le_of_lt (Nat.zero_le _) h.lt
  have hO := open_any B p nv mv s w h
  unfold pkV
  by_cases h0 : (openL s.now s.now.length).length = 0
  · rw [if_pos h0]
    rw [List.length_eq_zero_iff.1 h0] at hO
    exact pick_no p n w hO
  · rw [if_neg h0]
    obtain ⟨i, x, hi, hx, e1, e2, e3, e4, e5, _, _, e6, e7⟩ := pk_at ha n (by omega)
    rw [e3, e5]
    exact pick_walk p n _ i (x : Int) _ _ w (Nat.le_trans (openL_len _ _) h.n32) hi e1 e2 e6 e4 e7 hO (fun w' hb => hi_in B p nv mv s x hx w' (h.below hb)) (fun w' hb => lo_in B p nv mv s x hx w' (h.below hb) (hT.below hb hs))
theorem rPick_any {B r : Nat} {S : Nat → Prop} {s : St} {MM : List (List (List Int))} {w : World} (n : Int) (h : RsAt B S w r (s.now.map Dm.all) MM) (ha : Alls s) : Calls Tryz.prog 9 #[.pointer (some ⟨r, 0, none⟩), .int .i64 n] w fun e w' => e = .returned (pkV s n) ∧ Below w.heap.size w w' := by
  have hO := rOpen_any w h
  rw [open_rel ha _ (by simp)] at hO
  rw [List.length_map] at hO
  unfold pkV
  by_cases h0 : (openL s.now s.now.length).length = 0
  · rw [if_pos h0]
    rw [List.length_eq_zero_iff.1 h0] at hO
    exact rPick_no r n w hO
  · rw [if_neg h0]
    obtain ⟨i, x, hi, hx, e1, e2, e3, e4, e5, _, _, e6, e7⟩ := pk_at ha n (by omega)
    rw [e3, e5]
    obtain ⟨ho, hA⟩ := ha _ (List.getElem_mem hx)
    have hqm : x < (s.now.map Dm.all).length := by rw [List.length_map]; exact hx
    have f0 : (s.now.map Dm.all)[x] = s.now[x].all := List.getElem_map _
    have hp : 0 < (s.now.map Dm.all)[x].length := by rw [f0]; exact all_pos ho hA
    have f1 : (s.now.map Dm.all)[x][0] = s.now[x].lo := by simp only [f0]; exact all_first ho hA
    have f2 : (s.now.map Dm.all)[x][(s.now.map Dm.all)[x].length - 1] = s.now[x].hi := by simp only [f0]; exact all_last ho hA
    have hn := h.few.n
    rw [List.length_map] at hn
    refine rPick_walk r n _ i (x : Int) _ _ w (Nat.le_trans (openL_len _ _) hn) hi e1 e2 e6 e4 e7 hO (fun w' hb => ?_) (fun w' hb => ?_)
    · have := rHi_in x hqm hp w' (h.below hb)
      rw [f2] at this
      exact this
    · have := rLo_in x hqm hp w' (h.below hb)
      rw [f1] at this
      exact this
end Go.Proofs.YtdfbmfikhccajaaGreatDoor

namespace Go.Proofs.YtdfbmfikhccajaaGreatDoor
open Go.RowKit

/-- The example's problem, and its store. -/
def kM : Md.Mo := ⟨[⟨⟨#[120]⟩, 0, 3⟩, ⟨⟨#[121]⟩, 7, 7⟩, ⟨⟨#[122]⟩, 1, 2⟩], [], false, []⟩
def k0 : St := ⟨[⟨0, 15, 0⟩, ⟨7, 1, 0⟩, ⟨1, 3, 0⟩], [], 0⟩
theorem kn0 : newS kM = k0 := by kernel_rfl
theorem kp1 : pkV k0 (-2) = .tuple #[.int .i64 0, .int .i64 3, .bool true] := by kernel_rfl
theorem kp2 : pkV k0 5 = .tuple #[.int .i64 2, .int .i64 2, .bool true] := by kernel_rfl
theorem kM_at {W : World} {N : Nat} (h : W.heap[N]? = some (.cells #[.string ⟨#[120]⟩, .int .i64 0, .int .i64 3, .string ⟨#[121]⟩, .int .i64 7, .int .i64 7, .string ⟨#[122]⟩, .int .i64 1, .int .i64 2] 51 (0, 0))) : MoAt W kM (.slice (some ⟨N, 0, none⟩) 3 3) (.slice none 0 0) (.slice none 0 0) := by
  refine ⟨⟨_, 3, rfl, by unfold maxLen; decide, ?_, fun _ => ⟨N, 0, rfl, (Array.getElem?_eq_some_iff.1 h).1, fun j hj => ?_⟩⟩, ?_, ⟨none, 0, rfl, Nat.zero_le _, fun h0 => absurd h0 (Nat.not_lt_zero _)⟩, ?_⟩
  · intro x hx
    have : x.name.size = 1 := by
      simp only [kM, List.mem_cons, List.not_mem_nil, or_false] at hx
      rcases hx with rfl | rfl | rfl <;> rfl
    rw [this]
    unfold maxLen
    decide
  · match j, hj with
    | 0, _ => exact ⟨cell_of h 0, cell_of h 1, cell_of h 2⟩
    | 1, _ => exact ⟨cell_of h 3, cell_of h 4, cell_of h 5⟩
    | 2, _ => exact ⟨cell_of h 6, cell_of h 7, cell_of h 8⟩
  · intro a n cp e
    injection e with _ e1 e2
    omega
  · exact ⟨none, 0, rfl, Nat.zero_le _, fun h0 => absurd h0 (Nat.not_lt_zero _)⟩
theorem lit_ints {W : World} {N : Nat} {L : List Int} {cs : Array Value} {t : TypeId} (h : W.heap[N]? = some (.cells cs t (0, 0))) (hc : cs = (L.map (.int .i64)).toArray) (hl : L.length ≤ 1000) : IntsAt W (.slice (some ⟨N, 0, none⟩) L.length L.length) L := by
  subst hc
  refine ⟨_, _, rfl, by unfold maxLen; omega, fun _ => ⟨N, 0, rfl, (Array.getElem?_eq_some_iff.1 h).1, fun j hj => ?_⟩⟩
  rw [Nat.zero_add, cell_of h]
  simp [hj]
section
variable {B p : Nat} {nv mv : Value} {w : World} {O : Nat → Prop}
theorem k_pick1 (h : StAt B w p nv mv k0) (ha : Alls k0) (hT : Tz w) : Calls Tryz.prog 8 #[.pointer (some ⟨p, 0, none⟩), .int .i64 (-2)] w fun e w' => e = .returned (.tuple #[.int .i64 0, .int .i64 3, .bool true]) ∧ Below w.heap.size w w' := by
  have := pick_any (-2) h ha hT
  rw [kp1] at this
  exact this
theorem k_pick2 (h : StAt B w p nv mv k0) (ha : Alls k0) (hT : Tz w) : Calls Tryz.prog 8 #[.pointer (some ⟨p, 0, none⟩), .int .i64 5] w fun e w' => e = .returned (.tuple #[.int .i64 2, .int .i64 2, .bool true]) ∧ Below w.heap.size w w' := by
  have := pick_any 5 h ha hT
  rw [kp2] at this
  exact this
theorem k_next {x : Int} {L M : List Int} (hL : L.headD 0 = x ∧ L.tail = M) (h : ScAt B O w p L) : Calls Tryz.prog 20 #[.pointer (some ⟨p, 0, none⟩)] w fun e w' => e = .returned (.int .i64 x) ∧ ScAt B O w' p M ∧ Off (fun k => k = p) w w' ∧ ∀ C, C ≤ p → Below C w w' := by
  obtain ⟨rfl, rfl⟩ := hL
  exact scNext_any B O p L w h
end
/-- What New leaves of the example. -/
theorem k_new {W w' : World} {e : Ending} (h : NewOut kM W e w') : ∃ p nv mv, e = .returned (.pointer (some ⟨p, 0, none⟩)) ∧ StAt W.heap.size w' p nv mv k0 ∧ Below W.heap.size W w' := by
  obtain ⟨p, nv, mv, h1, h2, h3⟩ := h
  rw [kn0] at h2
  exact ⟨p, nv, mv, h1, h2, h3⟩
set_option maxRecDepth 10000 in
set_option maxHeartbeats 2000000 in
theorem known_any (w : World) (hT : Tz w) (hs : 0 < w.heap.size) : Calls Tryz.prog 5 #[] w fun e w' => e = .returned (.bool true) ∧ Below w.heap.size w w' := by
  obtain ⟨W, hW⟩ : ∃ W, w.alloc (.cells #[.string ⟨#[120]⟩, .int .i64 0, .int .i64 3, .string ⟨#[121]⟩, .int .i64 7, .int .i64 7, .string ⟨#[122]⟩, .int .i64 1, .int .i64 2] 51) = W := ⟨_, rfl⟩
  have hb0 : Below w.heap.size w W := by rw [← hW]; exact (Below.refl _ _).alloc (Nat.le_refl _) _
  have g0 : W.heap[w.heap.size]? = some (.cells #[.string ⟨#[120]⟩, .int .i64 0, .int .i64 3, .string ⟨#[121]⟩, .int .i64 7, .int .i64 7, .string ⟨#[122]⟩, .int .i64 1, .int .i64 2] 51 (0, 0)) := by rw [← hW]; exact heap_alloc_new w _
  have hsW : 0 < W.heap.size := Nat.lt_of_lt_of_le hs hb0.size
  have HB : Hid (Below w.heap.size w W) := hb0
  have HTz : Hid (∀ w', Below W.heap.size W w' → Tz w') := fun w' hb => (hT.below hb0 hs).below hb hsW
  have HNew : Hid (Calls Tryz.prog 18 #[.agg #[.slice (some ⟨w.heap.size, 0, none⟩) 3 3, .slice none 0 0, .bool false, .slice none 0 0]] W (fun e w' => ∃ p nv mv, e = .returned (.pointer (some ⟨p, 0, none⟩)) ∧ StAt W.heap.size w' p nv mv k0 ∧ Below W.heap.size W w')) := (new_any kM _ _ _ W (kM_at g0) hsW).mono fun e w' h => k_new h
  have HAl : Hid (Alls k0) := by rw [← kn0]; exact alls_new kM
  clear hb0 g0 hT
  go_enter Tryz.func5, Tryz.ntmps5
  go_wp2_with fail
  refine calls_at HNew.out (by with_reducible rfl) (by with_reducible rfl) ?_
  rintro e w1 ⟨p, nv, mv, rfl, hA1, hb1⟩
  have HA1 : Hid (StAt W.heap.size w1 p nv mv k0) := hA1
  have HB1 : Hid (Below W.heap.size W w1) := hb1
  clear hA1 hb1 hW
  obtain ⟨X, hX⟩ : ∃ X, w1.alloc (.cells #[.int .i64 4, .int .i64 5] 3) = X := ⟨_, rfl⟩
  have hbX : Below w1.heap.size w1 X := by rw [← hX]; exact (Below.refl _ _).alloc (Nat.le_refl _) _
  have gX : X.heap[w1.heap.size]? = some (.cells #[.int .i64 4, .int .i64 5] 3 (0, 0)) := by rw [← hX]; exact heap_alloc_new w1 _
  have HA2 : Hid (StAt W.heap.size X p nv mv k0) := HA1.out.below hbX
  have HB2 : Hid (Below W.heap.size W X) := bl_next HB1.out hbX
  have HSc : Hid (Calls Tryz.prog 19 #[.slice (some ⟨w1.heap.size, 0, none⟩) 2 2] X (ScOut [4, 5] X)) := scNew_any _ [4, 5] X (lit_ints (L := [4, 5]) gX rfl (by decide)) (by decide)
  clear hbX gX
  go_wp2_with fail
  refine calls_at HSc.out (by with_reducible rfl) (by with_reducible rfl) ?_
  rintro e w3 ⟨q, O, rfl, hS3, hb3⟩
  have HA3 : Hid (StAt W.heap.size w3 p nv mv k0) := HA2.out.below hb3
  have HB3 : Hid (Below W.heap.size W w3) := bl_next HB2.out hb3
  have HS3 : Hid (ScAt X.heap.size O w3 q [4, 5]) := hS3
  have HQ : Hid (∀ k, Own p nv mv k → k ≠ q) := fun k hk e => by
    have h1 := own_lt HA2.out hk
    have h2 := hS3.lo q hS3.op
    omega
  have HQB : Hid (W.heap.size ≤ q) := Nat.le_trans HB2.out.size (hS3.lo q hS3.op)
  clear hS3 hb3 hX
  go_wp2_with fail
  refine calls_at (k_next (x := 4) (M := [5]) ⟨rfl, rfl⟩ HS3.out) (by with_reducible rfl) (by with_reducible rfl) ?_
  rintro e w4 ⟨rfl, hS4, ho4, hc4⟩
  have HA4 : Hid (StAt W.heap.size w4 p nv mv k0) := HA3.out.keep fun k hk hO => ho4.block k hk (HQ.out k hO)
  have HB4 : Hid (Below W.heap.size W w4) := HB3.out.trans (hc4 _ HQB.out)
  have HS4 : Hid (ScAt X.heap.size O w4 q [5]) := hS4
  clear hS4 ho4 hc4
  go_wp2_with fail
  refine calls_at (k_next (x := 5) (M := []) ⟨rfl, rfl⟩ HS4.out) (by with_reducible rfl) (by with_reducible rfl) ?_
  rintro e w5 ⟨rfl, hS5, ho5, hc5⟩
  have HA5 : Hid (StAt W.heap.size w5 p nv mv k0) := HA4.out.keep fun k hk hO => ho5.block k hk (HQ.out k hO)
  have HB5 : Hid (Below W.heap.size W w5) := HB4.out.trans (hc5 _ HQB.out)
  have HS5 : Hid (ScAt X.heap.size O w5 q []) := hS5
  clear hS5 ho5 hc5
  go_wp2_with fail
  refine calls_at (k_next (x := 0) (M := []) ⟨rfl, rfl⟩ HS5.out) (by with_reducible rfl) (by with_reducible rfl) ?_
  rintro e w6 ⟨rfl, hS6, ho6, hc6⟩
  have HA6 : Hid (StAt W.heap.size w6 p nv mv k0) := HA5.out.keep fun k hk hO => ho6.block k hk (HQ.out k hO)
  have HB6 : Hid (Below W.heap.size W w6) := HB5.out.trans (hc6 _ HQB.out)
  clear hS6 ho6 hc6
  go_wp2_with fail
  refine calls_at (k_pick1 HA6.out HAl.out (HTz.out _ HB6.out)) (by with_reducible rfl) (by with_reducible rfl) ?_
  rintro e w7 ⟨rfl, hb7⟩
  have HA7 : Hid (StAt W.heap.size w7 p nv mv k0) := HA6.out.below hb7
  have HB7 : Hid (Below W.heap.size W w7) := bl_next HB6.out hb7
  clear hb7
  go_wp2_with fail
  refine calls_at (k_pick2 HA7.out HAl.out (HTz.out _ HB7.out)) (by with_reducible rfl) (by with_reducible rfl) ?_
  rintro e w8 ⟨rfl, hb8⟩
  have HB8 : Hid (Below W.heap.size W w8) := bl_next HB7.out hb8
  clear hb8
  go_wp2_with fail
  go_ret
  exact ⟨rfl, HB.out.trans (HB8.out.mono HB.out.size)⟩
end Go.Proofs.YtdfbmfikhccajaaGreatDoor

namespace Go.Proofs.YtdfbmfikhccajaaGreatDoor
open Go.RowKit

def BgOut (m : Md.Mo) (w : World) (e : Ending) (w' : World) : Prop := ∃ P O, e = .returned (.pointer (some ⟨P, 0, none⟩)) ∧ PaAt w.heap.size P O w' (newS m) ∧ Below w.heap.size w w'
end Go.Proofs.YtdfbmfikhccajaaGreatDoor
