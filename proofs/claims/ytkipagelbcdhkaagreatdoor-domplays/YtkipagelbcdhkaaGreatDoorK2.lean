/-
  Put together: DtM2, DtReads, DtLike.
-/
import Derived.Test.YtkipagelbcdhkaaGreatDoorJ44
import Derived.Test.YtkipagelbcdhkaaGreatDoorDmBack
import Derived.Test.YtkipagelbcdhkaaGreatDoorDrReads
import Derived.Test.YtkipagelbcdhkaaGreatDoorJ39
namespace Go.Proofs.YtkipagelbcdhkaaGreatDoor
open Go.RowKit

theorem all_bits {d : Dm} (h : d.Ok) (ha : d.Any) : d.all = ((List.range 64).filter (bt d.a d.b)).map fun k : Nat => d.f + (k : Int) := by
  have hf := fine_of h ha
  refine up_ext hf.up ?_ fun v => ?_
  · rw [List.pairwise_map]
    exact ((List.pairwise_lt_range (n := 64)).filter _).imp fun hlt => by omega
  · rw [hf.all, Dm.has_is h, List.mem_map]
    constructor
    · rintro ⟨k, hk, rfl, hb⟩
      exact ⟨k, List.mem_filter.2 ⟨List.mem_range.2 hk, hb⟩, rfl⟩
    · rintro ⟨k, hk, rfl⟩
      obtain ⟨h1, h2⟩ := List.mem_filter.1 hk
      exact ⟨k, List.mem_range.1 h1, rfl, h2⟩
theorem all_len {d : Dm} (h : d.Ok) (ha : d.Any) : (d.all.length : Int) = d.size := by
  rw [all_bits h ha, List.length_map, ← List.countP_eq_length_filter]
  exact (bSize_is h.a h.b).symm
theorem all_len64 {d : Dm} (h : d.Ok) (ha : d.Any) : d.all.length ≤ 64 := by
  rw [all_bits h ha, List.length_map]
  exact Nat.le_trans (List.length_filter_le _ _) (by simp)
theorem all_pos {d : Dm} (h : d.Ok) (ha : d.Any) : 0 < d.all.length := List.length_pos_iff.2 (all_ne (fine_of h ha))
theorem up_first : ∀ {L : List Int} (h : 0 < L.length) {x : Int}, L.Pairwise (· < ·) → x ∈ L → (∀ v ∈ L, x ≤ v) → L[0] = x
  | l :: L, _, x, hu, hx, hm => by
    rcases List.mem_cons.1 hx with e | e
    · exact e.symm
    · have h1 := (List.pairwise_cons.1 hu).1 x e
      have h2 := hm l (by simp)
      omega
theorem up_last {L : List Int} (h : 0 < L.length) {x : Int} (hu : L.Pairwise (· < ·)) (hx : x ∈ L) (hm : ∀ v ∈ L, v ≤ x) : L[L.length - 1] = x := by
  obtain ⟨i, hi, rfl⟩ := List.mem_iff_getElem.1 hx
  have h1 := hm L[L.length - 1] (List.getElem_mem _)
  by_cases e : i = L.length - 1
  · simp [e]
  · have := List.pairwise_iff_getElem.1 hu i (L.length - 1) hi (by omega) (by omega)
    omega
theorem all_first {d : Dm} (h : d.Ok) (ha : d.Any) : d.all[0]'(all_pos h ha) = d.lo := by
  have hf := fine_of h ha
  exact up_first _ hf.up ((hf.all _).2 hf.loIn) fun v hv => hf.least v ((hf.all v).1 hv)
theorem all_last {d : Dm} (h : d.Ok) (ha : d.Any) : d.all[d.all.length - 1]'(by have := all_pos h ha; omega) = d.hi := by
  have hf := fine_of h ha
  exact up_last (all_pos h ha) hf.up ((hf.all _).2 hf.hiIn) fun v hv => hf.most v ((hf.all v).1 hv)
theorem all_has {d : Dm} (h : d.Ok) (ha : d.Any) (v : Int) : d.has v = d.all.any (fun u => u == v) := by
  have hf := fine_of h ha
  cases hh : d.has v with
  | true =>
    symm
    rw [List.any_eq_true]
    exact ⟨v, (hf.all v).2 hh, by simp⟩
  | false =>
    symm
    rw [List.any_eq_false]
    intro u hu e
    have : u = v := by simpa using e
    subst this
    rw [(hf.all u).1 hu] at hh
    cases hh

/-- Marks. -/
theorem mks_mark {s : St} (hl : s.noted.length = s.marks * s.now.length) : mksOf s.mark = mksOf s ++ [s.now.map Dm.all] := by
  unfold mksOf St.mark
  simp only
  rw [List.range_succ, List.map_append]
  congr 1
  · refine List.map_congr_left fun i hi => ?_
    have hi := List.mem_range.1 hi
    have : (i + 1) * s.now.length ≤ s.marks * s.now.length := Nat.mul_le_mul_right _ hi
    rw [Nat.succ_mul] at this
    rw [List.drop_append_of_le_length (by omega), List.take_append_of_le_length (by rw [List.length_drop]; omega)]
  · simp only [List.map_cons, List.map_nil]
    rw [List.drop_append, List.drop_eq_nil_of_le (by omega), hl]
    simp
theorem mks_back {s : St} {k : Int} (hl : s.noted.length = s.marks * s.now.length) (hk : s.backB k = true) : mksOf (s.back k) = (mksOf s).take k.toNat ∧ ∃ h : k.toNat < (mksOf s).length, (s.back k).now.map Dm.all = (mksOf s)[k.toNat] := by
  have hk2 : 0 ≤ k ∧ k < (s.marks : Int) := by
    unfold St.backB at hk
    simpa using hk
  have hkm : k.toNat < s.marks := by omega
  have h1 : (k.toNat + 1) * s.now.length ≤ s.marks * s.now.length := Nat.mul_le_mul_right _ hkm
  rw [Nat.succ_mul] at h1
  have hn : ((s.noted.drop (k.toNat * s.now.length)).take s.now.length).length = s.now.length := by
    rw [List.length_take, List.length_drop]; omega
  unfold St.back
  rw [if_pos hk]
  refine ⟨?_, by simp [mksOf]; omega, by simp [mksOf]⟩
  unfold mksOf
  simp only [hn]
  rw [← List.map_take]
  have hr : (List.range s.marks).take k.toNat = List.range k.toNat := by
    rw [List.take_range]; congr 1; omega
  rw [hr]
  refine List.map_congr_left fun i hi => ?_
  have hi := List.mem_range.1 hi
  have h2 : (i + 1) * s.now.length ≤ k.toNat * s.now.length := Nat.mul_le_mul_right _ hi
  rw [Nat.succ_mul] at h2
  rw [List.drop_take, List.take_take]
  congr 2
  omega
end Go.Proofs.YtkipagelbcdhkaaGreatDoor

namespace Go.Proofs.YtkipagelbcdhkaaGreatDoor
open Go.RowKit
section
variable {B p : Nat} {nv mv : Value} {s : St}
set_option maxRecDepth 10000 in
set_option maxHeartbeats 400000 in
theorem lo_no (x : Int) (hx : isB s.now.length x = false) (w : World) (h : StAt B w p nv mv s) : Calls Tryz.prog 20 #[.pointer (some ⟨p, 0, none⟩), .int .i64 x] w fun e w' => e = .returned (.int .i64 0) ∧ Below w.heap.size w w' := by
  have HIs : Hid (Calls Tryz.prog 43 #[.pointer (some ⟨p, 0, none⟩), .int .i64 x] w fun e w' => e = .returned (.bool false) ∧ w' = w) := by
    have := is_any B p nv mv s x w h
    rw [hx] at this
    exact this
  clear h hx
  go_enter Tryz.func20, Tryz.ntmps20
  go_wp2_with fail
  refine calls_at HIs.out (by with_reducible rfl) (by with_reducible rfl) ?_
  rintro e w1 ⟨rfl, rfl⟩
  go_wp2_with fail
  go_ret
  exact ⟨rfl, Below.refl _ _⟩
set_option maxRecDepth 10000 in
set_option maxHeartbeats 400000 in
theorem hi_no (x : Int) (hx : isB s.now.length x = false) (w : World) (h : StAt B w p nv mv s) : Calls Tryz.prog 19 #[.pointer (some ⟨p, 0, none⟩), .int .i64 x] w fun e w' => e = .returned (.int .i64 0) ∧ Below w.heap.size w w' := by
  have HIs : Hid (Calls Tryz.prog 43 #[.pointer (some ⟨p, 0, none⟩), .int .i64 x] w fun e w' => e = .returned (.bool false) ∧ w' = w) := by
    have := is_any B p nv mv s x w h
    rw [hx] at this
    exact this
  clear h hx
  go_enter Tryz.func19, Tryz.ntmps19
  go_wp2_with fail
  refine calls_at HIs.out (by with_reducible rfl) (by with_reducible rfl) ?_
  rintro e w1 ⟨rfl, rfl⟩
  go_wp2_with fail
  go_ret
  exact ⟨rfl, Below.refl _ _⟩
set_option maxRecDepth 10000 in
set_option maxHeartbeats 400000 in
theorem size_no (x : Int) (hx : isB s.now.length x = false) (w : World) (h : StAt B w p nv mv s) : Calls Tryz.prog 14 #[.pointer (some ⟨p, 0, none⟩), .int .i64 x] w fun e w' => e = .returned (.int .i64 0) ∧ Below w.heap.size w w' := by
  have HIs : Hid (Calls Tryz.prog 43 #[.pointer (some ⟨p, 0, none⟩), .int .i64 x] w fun e w' => e = .returned (.bool false) ∧ w' = w) := by
    have := is_any B p nv mv s x w h
    rw [hx] at this
    exact this
  clear h hx
  go_enter Tryz.func14, Tryz.ntmps14
  go_wp2_with fail
  refine calls_at HIs.out (by with_reducible rfl) (by with_reducible rfl) ?_
  rintro e w1 ⟨rfl, rfl⟩
  go_wp2_with fail
  go_ret
  exact ⟨rfl, Below.refl _ _⟩
set_option maxRecDepth 10000 in
set_option maxHeartbeats 400000 in
theorem vals_no (x : Int) (hx : isB s.now.length x = false) (w : World) (h : StAt B w p nv mv s) : Calls Tryz.prog 17 #[.pointer (some ⟨p, 0, none⟩), .int .i64 x] w fun e w' => e = .returned (.slice none 0 0) ∧ Below w.heap.size w w' := by
  have HIs : Hid (Calls Tryz.prog 43 #[.pointer (some ⟨p, 0, none⟩), .int .i64 x] w fun e w' => e = .returned (.bool false) ∧ w' = w) := by
    have := is_any B p nv mv s x w h
    rw [hx] at this
    exact this
  clear h hx
  go_enter Tryz.func17, Tryz.ntmps17
  go_wp2_with fail
  refine calls_at HIs.out (by with_reducible rfl) (by with_reducible rfl) ?_
  rintro e w1 ⟨rfl, rfl⟩
  go_wp2_with fail
  go_ret
  exact ⟨rfl, Below.refl _ _⟩
set_option maxRecDepth 10000 in
set_option maxHeartbeats 400000 in
theorem has_no (x : Int) (hx : isB s.now.length x = false) (v : Int) (w : World) (h : StAt B w p nv mv s) : Calls Tryz.prog 21 #[.pointer (some ⟨p, 0, none⟩), .int .i64 x, .int .i64 v] w fun e w' => e = .returned (.bool false) ∧ Below w.heap.size w w' := by
  have HIs : Hid (Calls Tryz.prog 43 #[.pointer (some ⟨p, 0, none⟩), .int .i64 x] w fun e w' => e = .returned (.bool false) ∧ w' = w) := by
    have := is_any B p nv mv s x w h
    rw [hx] at this
    exact this
  clear h hx
  go_enter Tryz.func21, Tryz.ntmps21
  go_wp2_with fail
  refine calls_at HIs.out (by with_reducible rfl) (by with_reducible rfl) ?_
  rintro e w1 ⟨rfl, rfl⟩
  go_wp2_with fail
  go_ret
  exact ⟨rfl, Below.refl _ _⟩
end
/-- What is asked of a place, of both. -/
structure Asks (p r : Nat) (x : Int) (lo hi sz : Int) (L : List Int) (hs : Int → Bool) (w : World) : Prop where
  lo1 : Calls Tryz.prog 20 #[.pointer (some ⟨p, 0, none⟩), .int .i64 x] w fun e w' => e = .returned (.int .i64 lo) ∧ Below w.heap.size w w'
  lo2 : Calls Tryz.prog 30 #[.pointer (some ⟨r, 0, none⟩), .int .i64 x] w fun e w' => e = .returned (.int .i64 lo) ∧ Below w.heap.size w w'
  hi1 : Calls Tryz.prog 19 #[.pointer (some ⟨p, 0, none⟩), .int .i64 x] w fun e w' => e = .returned (.int .i64 hi) ∧ Below w.heap.size w w'
  hi2 : Calls Tryz.prog 31 #[.pointer (some ⟨r, 0, none⟩), .int .i64 x] w fun e w' => e = .returned (.int .i64 hi) ∧ Below w.heap.size w w'
  sz1 : Calls Tryz.prog 14 #[.pointer (some ⟨p, 0, none⟩), .int .i64 x] w fun e w' => e = .returned (.int .i64 sz) ∧ Below w.heap.size w w'
  sz2 : Calls Tryz.prog 32 #[.pointer (some ⟨r, 0, none⟩), .int .i64 x] w fun e w' => e = .returned (.int .i64 sz) ∧ Below w.heap.size w w'
  vs1 : Calls Tryz.prog 17 #[.pointer (some ⟨p, 0, none⟩), .int .i64 x] w (VsOut L w)
  vs2 : Calls Tryz.prog 33 #[.pointer (some ⟨r, 0, none⟩), .int .i64 x] w (VsOut L w)
  hs1 : ∀ v, Calls Tryz.prog 21 #[.pointer (some ⟨p, 0, none⟩), .int .i64 x, .int .i64 v] w fun e w' => e = .returned (.bool (hs v)) ∧ Below w.heap.size w w'
  hs2 : ∀ v, Calls Tryz.prog 34 #[.pointer (some ⟨r, 0, none⟩), .int .i64 x, .int .i64 v] w fun e w' => e = .returned (.bool (hs v)) ∧ Below w.heap.size w w'
theorem vs_none {w : World} : ∀ e w', (e = .returned (.slice none 0 0) ∧ Below w.heap.size w w') → VsOut [] w e w' := fun _ _ h => ⟨_, h.1, World.ownsRow_nil _ _ _ _, h.2⟩
theorem asks_at {B Bs p r : Nat} {nv mv : Value} {s : St} {S : Nat → Prop} {MM : List (List (List Int))} {w : World} (x : Int) (h2 : StAt Bs w p nv mv s) (h3 : RsAt B S w r (s.now.map Dm.all) MM) (ha : Alls s) : ∃ lo hi sz L hs, (-1000000000 ≤ lo ∧ lo ≤ hi ∧ hi ≤ 2000000000 ∧ L.length ≤ 64) ∧ ∀ w', Below w.heap.size w w' → Tz w' → Asks p r x lo hi sz L hs w' := by
  cases hi : isB s.now.length x with
  | false =>
    have hi2 : isL (s.now.map Dm.all).length x = false := by rw [List.length_map]; exact hi
    exact ⟨0, 0, 0, [], fun _ => false, ⟨by omega, by omega, by omega, Nat.zero_le _⟩, fun w' hb hT => ⟨lo_no x hi w' (h2.below hb), rLo_no x hi2 w' (h3.below hb), hi_no x hi w' (h2.below hb), rHi_no x hi2 w' (h3.below hb), size_no x hi w' (h2.below hb), rSize_no x hi2 w' (h3.below hb), (vals_no x hi w' (h2.below hb)).mono vs_none, (rVals_no x hi2 w' (h3.below hb)).mono vs_none, fun v => has_no x hi v w' (h2.below hb), fun v => rHas_no x hi2 v w' (h3.below hb)⟩⟩
  | true =>
    obtain ⟨q, rfl, hq⟩ : ∃ q : Nat, x = (q : Int) ∧ q < s.now.length := by
      simp [isB] at hi
      exact ⟨x.toNat, by omega, by omega⟩
    obtain ⟨ho, hA⟩ := ha _ (List.getElem_mem hq)
    have hf := fine_of ho hA
    have hqm : q < (s.now.map Dm.all).length := by rw [List.length_map]; exact hq
    have e0 : (s.now.map Dm.all)[q] = s.now[q].all := List.getElem_map _
    have hp : 0 < (s.now.map Dm.all)[q].length := by rw [e0]; exact all_pos ho hA
    have e1 : (s.now.map Dm.all)[q][0] = s.now[q].lo := by simp only [e0]; exact all_first ho hA
    have e2 : (s.now.map Dm.all)[q][(s.now.map Dm.all)[q].length - 1] = s.now[q].hi := by simp only [e0]; exact all_last ho hA
    have e3 : ((s.now.map Dm.all)[q].length : Int) = s.now[q].size := by rw [e0]; exact all_len ho hA
    refine ⟨s.now[q].lo, s.now[q].hi, s.now[q].size, s.now[q].all, s.now[q].has, ⟨hf.b1, hf.most _ hf.loIn, hf.b2, all_len64 ho hA⟩, fun w' hb hT => ⟨lo_in _ p _ _ s q hq w' (h2.below hb) hT, ?_, hi_in _ p _ _ s q hq w' (h2.below hb), ?_, size_in _ p _ _ s q hq w' (h2.below hb), ?_, values_in _ p _ _ s q hq w' (h2.below hb) hT, ?_, fun v => has_in _ p _ _ s q hq v w' (h2.below hb), fun v => ?_⟩⟩
    · have := rLo_in q hqm hp w' (h3.below hb)
      rw [e1] at this
      exact this
    · have := rHi_in q hqm hp w' (h3.below hb)
      rw [e2] at this
      exact this
    · have := rSize_in q hqm w' (h3.below hb)
      rw [e3] at this
      exact this
    · have := rVals_in q hqm w' (h3.below hb)
      rw [e0] at this
      exact this
    · have := rHas_in q hqm v w' (h3.below hb)
      rw [e0, ← all_has ho hA v] at this
      exact this
theorem open_rel {s : St} (ha : Alls s) : ∀ k, k ≤ s.now.length → openR (s.now.map Dm.all) k = openL s.now k
  | 0, _ => rfl
  | k + 1, hk => by
    have hkl : k < s.now.length := hk
    obtain ⟨ho, hA⟩ := ha _ (List.getElem_mem hkl)
    rw [openR_succ _ _ (by rw [List.length_map]; exact hkl), openL_succ _ _ hkl, open_rel ha k (by omega)]
    refine congrArg (HAppend.hAppend _) ?_
    have e : ((s.now.map Dm.all)[k]'(by rw [List.length_map]; exact hkl)).length = s.now[k].all.length := by rw [List.getElem_map]
    have e3 : (s.now[k].all.length : Int) = bSize s.now[k].a s.now[k].b := all_len ho hA
    rw [e]
    by_cases h1 : 1 < s.now[k].all.length
    · rw [if_pos h1, if_pos (by omega)]
    · rw [if_neg h1, if_neg (by omega)]
end Go.Proofs.YtkipagelbcdhkaaGreatDoor

namespace Go.Proofs.YtkipagelbcdhkaaGreatDoor
open Go.RowKit

set_option maxRecDepth 10000 in
set_option maxHeartbeats 4000000 in
theorem like_any {B P : Nat} {O : Nat → Prop} {s : St} (w : World) (h : PaAt B P O w s) (hT : Tz w) (hs : 0 < w.heap.size) : Calls Tryz.prog 8 #[.pointer (some ⟨P, 0, none⟩)] w fun e w' => e = .returned (.bool true) ∧ Below w.heap.size w w' := by
  obtain ⟨p, nv, mv, r, S, Bs, h1, h2, h3, _⟩ := h.ex
  have hPl := h.lt P h.op
  have HS : Hid (∀ w', Below w.heap.size w w' → w'.cell? ⟨P, 0, none⟩ = some (.pointer (some ⟨p, 0, none⟩)) ∧ w'.cell? ⟨P, 1, none⟩ = some (.pointer (some ⟨r, 0, none⟩)) ∧ Below w.heap.size w w') := fun w' hb => by
    have f := (hb.block P hPl).trans h1
    exact ⟨cell_of f 0, cell_of f 1, hb⟩
  have hn := h2.n32
  have HV1 : Hid (∀ w', Below w.heap.size w w' → Calls Tryz.prog 13 #[.pointer (some ⟨p, 0, none⟩)] w' fun e w2 => e = .returned (.int .i64 (s.now.length : Int)) ∧ Below w'.heap.size w' w2) := fun w' hb => (vars_any _ p _ _ s w' (h2.below hb)).mono fun e w2 hq => ⟨hq.1, by rw [hq.2]; exact Below.refl _ _⟩
  have HV2 : Hid (∀ w', Below w.heap.size w w' → Calls Tryz.prog 28 #[.pointer (some ⟨r, 0, none⟩)] w' fun e w2 => e = .returned (.int .i64 (s.now.length : Int)) ∧ Below w'.heap.size w' w2) := fun w' hb => (rVars_any w' (h3.below hb)).mono fun e w2 hq => ⟨by rw [hq.1, List.length_map], by rw [hq.2]; exact Below.refl _ _⟩
  have HO1 : Hid (∀ w', Below w.heap.size w w' → Calls Tryz.prog 23 #[.pointer (some ⟨p, 0, none⟩)] w' (VsOut (openL s.now s.now.length) w')) := fun w' hb => open_any _ p _ _ s w' (h2.below hb)
  have HO2 : Hid (∀ w', Below w.heap.size w w' → Calls Tryz.prog 29 #[.pointer (some ⟨r, 0, none⟩)] w' (VsOut (openL s.now s.now.length) w')) := fun w' hb => by
    have := rOpen_any w' (h3.below hb)
    rw [List.length_map, open_rel h.al _ (Nat.le_refl _)] at this
    exact this
  have HA : Hid (∀ x : Int, ∃ lo hi sz L hs, (-1000000000 ≤ lo ∧ lo ≤ hi ∧ hi ≤ 2000000000 ∧ L.length ≤ 64) ∧ ∀ w', Below w.heap.size w w' → Asks p r x lo hi sz L hs w') := fun x => by
    obtain ⟨lo, hi, sz, L, hs', q1, q2⟩ := asks_at x h2 h3 h.al
    exact ⟨lo, hi, sz, L, hs', q1, fun w' hb => q2 w' hb (hT.below hb hs)⟩
  obtain ⟨OL, hOL⟩ : ∃ OL, openL s.now s.now.length = OL := ⟨_, rfl⟩
  have hol : OL.length ≤ 1000 := by rw [← hOL]; have := openL_len s.now s.now.length; omega
  rw [hOL] at HO1 HO2
  obtain ⟨n, hnn⟩ : ∃ n, s.now.length = n := ⟨_, rfl⟩
  rw [hnn] at HV1 HV2 hn
  clear h h1 h2 h3 hPl hT hOL hnn
  go_enter Tryz.func8, Tryz.ntmps8
  go_wp2_with fail
  go_region_held3 (fun w' => w'.cell? ⟨P, 0, none⟩ = some (.pointer (some ⟨p, 0, none⟩)) ∧ w'.cell? ⟨P, 1, none⟩ = some (.pointer (some ⟨r, 0, none⟩)) ∧ Below w.heap.size w w')
    (first | exact HS.out _ (Below.refl _ _).drew | exact HS.out _ (bl_next (And.right (And.right (by assumption))) (by assumption)) | assumption)
    (first
      | (go_at_call 13; refine calls_at (HV1.out _ (And.right (And.right (by assumption)))) (by with_reducible rfl) (by with_reducible rfl) ?_; rintro e w1 ⟨rfl, hb1⟩)
      | (go_at_call 28; refine calls_at (HV2.out _ (And.right (And.right (by assumption)))) (by with_reducible rfl) (by with_reducible rfl) ?_; rintro e w2 ⟨rfl, hb2⟩)
      | (go_at_call 23; refine calls_at (HO1.out _ (And.right (And.right (by assumption)))) (by with_reducible rfl) (by with_reducible rfl) ?_; rintro e w3 ⟨v3, rfl, ho3, hb3⟩)
      | (go_at_call 29; refine calls_at (HO2.out _ (And.right (And.right (by assumption)))) (by with_reducible rfl) (by with_reducible rfl) ?_; rintro e w4 ⟨v4, rfl, ho4, hb4⟩; (have HI4 : Hid (Calls Tryz.prog 16 #[v3, v4] w4 fun e w' => e = .returned (.bool true) ∧ Below w4.heap.size w4 w') := ints_same _ _ v3 v4 OL w4 (own_below ho3 hb4) ho4 hol); clear ho3 ho4)
      | (go_at_call 16; refine calls_at HI4.out (by with_reducible rfl) (by with_reducible rfl) ?_; rintro e w5 ⟨rfl, hb5⟩))
  have HB5 : Hid (Below w.heap.size w w5) := And.right (And.right (by assumption))
  go_wp2_with fail
  go_loopw [3] (fun iv wr => ∃ k : Nat, iv = .int .i64 ((k : Int) - 1) ∧ k ≤ n + 2 ∧ Hid (Below w.heap.size w wr)) (fun iv _ => ((n : Int) + 2 - intOf iv).toNat)
  case atStart => exact ⟨0, rfl, Nat.zero_le _, HB5⟩
  case round =>
    obtain ⟨k, rfl, hk, HBr⟩ := hrel
    obtain ⟨y0, y1, _⟩ := HS.out wr HBr.out
    go_wp2_with fail
    refine calls_at (HV2.out wr HBr.out) (by with_reducible rfl) (by with_reducible rfl) ?_
    rintro e w6 ⟨rfl, hb6⟩
    have HB6 : Hid (Below w.heap.size w w6) := bl_next HBr.out hb6
    clear hb6 y0 y1
    by_cases hkn : k < n + 2
    · have hkI : (k : Int) - 1 ≤ (n : Int) := by omega
      obtain ⟨lo, hi, sz, L, hs', hbd, hq⟩ := HA.out ((k : Int) - 1)
      have HQ : Hid (∀ w', Below w.heap.size w w' → Asks p r ((k : Int) - 1) lo hi sz L hs' w') := hq
      obtain ⟨hb1, hb2, hb3, hb4⟩ := hbd
      have hL1 : L.length ≤ 1000 := by omega
      have hlo : (lo == lo) = true := by simp
      have hhi : (hi == hi) = true := by simp
      have hsz : (sz == sz) = true := by simp
      clear hq
      go_wp2_with fail
      go_cut [97] from 39 to 130 (fun s97 wx => s97 = .bool false ∧ Hid (Below w.heap.size w wx))
      case first =>
        go_region_held3 (fun w' => w'.cell? ⟨P, 0, none⟩ = some (.pointer (some ⟨p, 0, none⟩)) ∧ w'.cell? ⟨P, 1, none⟩ = some (.pointer (some ⟨r, 0, none⟩)) ∧ Below w.heap.size w w')
          (first | exact HS.out _ HB6.out.drew | exact HS.out _ (bl_next (And.right (And.right (by assumption))) (by assumption)) | assumption)
          (first
            | (go_at_call 20; refine calls_at (HQ.out _ (And.right (And.right (by assumption)))).lo1 (by with_reducible rfl) (by with_reducible rfl) ?_; rintro e w7 ⟨rfl, hbw7⟩)
            | (go_at_call 30; refine calls_at (HQ.out _ (And.right (And.right (by assumption)))).lo2 (by with_reducible rfl) (by with_reducible rfl) ?_; rintro e w8 ⟨rfl, hbw8⟩)
            | (go_at_call 19; refine calls_at (HQ.out _ (And.right (And.right (by assumption)))).hi1 (by with_reducible rfl) (by with_reducible rfl) ?_; rintro e w9 ⟨rfl, hbw9⟩)
            | (go_at_call 31; refine calls_at (HQ.out _ (And.right (And.right (by assumption)))).hi2 (by with_reducible rfl) (by with_reducible rfl) ?_; rintro e w10 ⟨rfl, hbw10⟩)
            | (go_at_call 14; refine calls_at (HQ.out _ (And.right (And.right (by assumption)))).sz1 (by with_reducible rfl) (by with_reducible rfl) ?_; rintro e w11 ⟨rfl, hbw11⟩)
            | (go_at_call 32; refine calls_at (HQ.out _ (And.right (And.right (by assumption)))).sz2 (by with_reducible rfl) (by with_reducible rfl) ?_; rintro e w12 ⟨rfl, hbw12⟩)
            | (go_at_call 17; refine calls_at (HQ.out _ (And.right (And.right (by assumption)))).vs1 (by with_reducible rfl) (by with_reducible rfl) ?_; rintro e w13 ⟨v3, rfl, ho3, hb13⟩)
            | (go_at_call 33; refine calls_at (HQ.out _ (And.right (And.right (by assumption)))).vs2 (by with_reducible rfl) (by with_reducible rfl) ?_; rintro e w14 ⟨v4, rfl, ho4, hb14⟩; (have HI4 : Hid (Calls Tryz.prog 16 #[v3, v4] w14 fun e w' => e = .returned (.bool true) ∧ Below w14.heap.size w14 w') := ints_same _ _ v3 v4 L w14 (own_below ho3 hb14) ho4 hL1); clear ho3 ho4)
            | (go_at_call 16; refine calls_at HI4.out (by with_reducible rfl) (by with_reducible rfl) ?_; rintro e w15 ⟨rfl, hb15⟩))
        have HB15 : Hid (Below w.heap.size w w15) := And.right (And.right (by assumption))
        go_wp2_with fail
        go_meet
        exact ⟨by simp, HB15⟩
      case rest =>
      obtain ⟨rfl, HBx⟩ := hcut
      rename World => wx
      obtain ⟨y0, y1, _⟩ := HS.out wx HBx.out
      have el : IntKind.i64.wrap (lo - 2) = lo - 2 := wrap_id (by omega) (by omega)
      go_wp2_with fail
      refine calls_at (HQ.out wx HBx.out).lo2 (by with_reducible rfl) (by with_reducible rfl) ?_
      rintro e w16 ⟨rfl, hb16⟩
      have HB16 : Hid (Below w.heap.size w w16) := bl_next HBx.out hb16
      clear hb16 y0 y1
      go_wp2_with fail
      go_loopw [4] (fun iv wz => ∃ j : Nat, iv = .int .i64 (lo - 2 + (j : Int)) ∧ (j : Int) ≤ hi - lo + 5 ∧ Hid (Below w.heap.size w wz)) (fun iv _ => (hi + 3 - intOf iv).toNat)
      case atStart => exact ⟨0, by simp, by omega, HB16⟩
      case round =>
        obtain ⟨j, rfl, hj, HBz⟩ := hrel
        rename World => wz
        obtain ⟨y0, y1, _⟩ := HS.out wz HBz.out
        go_wp2_with fail
        refine calls_at (HQ.out wz HBz.out).hi2 (by with_reducible rfl) (by with_reducible rfl) ?_
        rintro e w17 ⟨rfl, hb17⟩
        have HB17 : Hid (Below w.heap.size w w17) := bl_next HBz.out hb17
        clear hb17 y0 y1
        have eh : IntKind.i64.wrap (hi + 2) = hi + 2 := wrap_id (by omega) (by omega)
        by_cases hjn : lo - 2 + (j : Int) ≤ hi + 2
        · obtain ⟨v, hv⟩ : ∃ v, lo - 2 + (j : Int) = v := ⟨_, rfl⟩
          have hbb : (hs' v == hs' v) = true := by simp
          have HV3 : Hid (lo - 2 + (j : Int) = v) := hv
          rw [hv] at hjn
          rw [hv]
          have hvb : -1000000002 ≤ v ∧ v ≤ 2000000002 := by omega
          clear hv
          go_wp2_with fail
          go_cut [130] from 116 to 130 (fun s130 wx => s130 = .bool false ∧ Hid (Below w.heap.size w wx))
          case first =>
            go_region_held3 (fun w' => w'.cell? ⟨P, 0, none⟩ = some (.pointer (some ⟨p, 0, none⟩)) ∧ w'.cell? ⟨P, 1, none⟩ = some (.pointer (some ⟨r, 0, none⟩)) ∧ Below w.heap.size w w')
              (first | exact HS.out _ HB17.out.drew | exact HS.out _ (bl_next (And.right (And.right (by assumption))) (by assumption)) | assumption)
              (first
                | (go_at_call 21; refine calls_at ((HQ.out _ (And.right (And.right (by assumption)))).hs1 v) (by with_reducible rfl) (by with_reducible rfl) ?_; rintro e w18 ⟨rfl, hb18⟩)
                | (go_at_call 34; refine calls_at ((HQ.out _ (And.right (And.right (by assumption)))).hs2 v) (by with_reducible rfl) (by with_reducible rfl) ?_; rintro e w19 ⟨rfl, hb19⟩))
            have HB19 : Hid (Below w.heap.size w w19) := And.right (And.right (by assumption))
            go_wp2_with fail
            go_meet
            exact ⟨by simp, HB19⟩
          case rest =>
          obtain ⟨rfl, HBy⟩ := hcut
          have ev : IntKind.i64.wrap (v + 1) = v + 1 := wrap_id (by omega) (by omega)
          go_wp2_with fail
          go_roundw
          case rel => exact ⟨j + 1, by have e3 := HV3.out; simp; omega, by have := HV3.out; omega, HBy⟩
          case measure => (have e3 := HV3.out; simp only [intOf]; omega)
        · have hjn' : hi + 2 < lo - 2 + (j : Int) := by omega
          go_wp2_with fail
          go_roundw
          case rel => exact ⟨k + 1, by first | rfl | go_num | (simp; omega), by omega, HB17⟩
          case measure => simp [intOf]; omega
    · have hkI : (n : Int) < (k : Int) - 1 := by omega
      go_wp2_with fail
      go_ret
      exact ⟨rfl, HB6.out⟩
end Go.Proofs.YtkipagelbcdhkaaGreatDoor
