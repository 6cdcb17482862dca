/-
  Package branch: Pick; the document's.
-/
import Derived.Test.YtdfbmfikhccajaaDoorJ04
import Derived.Test.YtdfbmfikhccajaaDoorJ44
namespace Go.Proofs.YtdfbmfikhccajaaDoor
open Go.RowKit

set_option maxRecDepth 10000 in
set_option maxHeartbeats 1000000 in
theorem pick_walk (p : Nat) (n : Int) (F : List Int) (i : Nat) (x lo hi : Int) (w : World) (hF : F.length ≤ 32) (hi0 : i < F.length) (hx : F[i] = x) (hr : dvR n (F.length : Int) = (i : Int)) (b1 : -1000000000 ≤ lo) (b2 : lo < hi) (b3 : hi ≤ 2000000000)
    (hO : Calls Tryd.prog 16 #[.pointer (some ⟨p, 0, none⟩)] w (VsOut F w)) (hH : ∀ w', Below w.heap.size w w' → Calls Tryd.prog 18 #[.pointer (some ⟨p, 0, none⟩), .int .i64 x] w' fun e w2 => e = .returned (.int .i64 hi) ∧ Below w'.heap.size w' w2) (hL : ∀ w', Below w.heap.size w w' → Calls Tryd.prog 19 #[.pointer (some ⟨p, 0, none⟩), .int .i64 x] w' fun e w2 => e = .returned (.int .i64 lo) ∧ Below w'.heap.size w' w2) :
    Calls Tryd.prog 12 #[.pointer (some ⟨p, 0, none⟩), .int .i64 n] w fun e w' => e = .returned (.tuple #[.int .i64 x, .int .i64 (lo + 1 + dvR (dvQ n (F.length : Int)) (hi - lo)), .bool true]) ∧ Below w.heap.size w w' := by
  have HO : Hid (Calls Tryd.prog 16 #[.pointer (some ⟨p, 0, none⟩)] w (VsOut F w)) := hO
  have HH : Hid (∀ w', Below w.heap.size w w' → Calls Tryd.prog 18 #[.pointer (some ⟨p, 0, none⟩), .int .i64 x] w' fun e w2 => e = .returned (.int .i64 hi) ∧ Below w'.heap.size w' w2) := hH
  have HL : Hid (∀ w', Below w.heap.size w w' → Calls Tryd.prog 19 #[.pointer (some ⟨p, 0, none⟩), .int .i64 x] w' fun e w2 => e = .returned (.int .i64 lo) ∧ Below w'.heap.size w' w2) := hL
  obtain ⟨q, hq⟩ : ∃ q, dvQ n (F.length : Int) = q := ⟨_, rfl⟩
  have HD1 : Hid (∀ w', Calls Tryd.prog 17 #[.int .i64 n, .int .i64 (F.length : Int)] w' fun e w2 => e = .returned (.tuple #[.int .i64 q, .int .i64 (i : Int)]) ∧ Below w'.heap.size w' w2) := fun w' => by
    have := divide_any n (F.length : Int) (by omega) (by omega) w'
    rw [hr, hq] at this
    exact this
  rw [hq]
  obtain ⟨r, hrr⟩ : ∃ r, dvR q (hi - lo) = r := ⟨_, rfl⟩
  obtain ⟨u, hu⟩ : ∃ u, dvQ q (hi - lo) = u := ⟨_, rfl⟩
  have hr2 := dvR_in q (b := hi - lo) (by omega)
  rw [hrr] at hr2
  have HD2 : Hid (∀ w', Calls Tryd.prog 17 #[.int .i64 q, .int .i64 (hi - lo)] w' fun e w2 => e = .returned (.tuple #[.int .i64 u, .int .i64 r]) ∧ Below w'.heap.size w' w2) := fun w' => by
    have := divide_any q (hi - lo) (by omega) (by omega) w'
    rw [hrr, hu] at this
    exact this
  rw [hrr]
  have e1 : IntKind.i64.wrap (hi - lo) = hi - lo := wrap_id (by omega) (by omega)
  have e2 : IntKind.i64.wrap (IntKind.i64.wrap (lo + 1) + r) = lo + 1 + r := by rw [wrap_id (n := lo + 1) (by omega) (by omega), wrap_id (by omega) (by omega)]
  have hiI : (i : Int) < (F.length : Int) := by omega
  have h0I : ¬ ((F.length : Int) = 0) := by omega
  clear hO hH hL hr hq hrr hu
  go_enter Tryd.func12, Tryd.ntmps12
  go_wp2_with fail
  refine calls_at HO.out (by with_reducible rfl) (by with_reducible rfl) ?_
  rintro e w1 ⟨v1, rfl, ho1, hb1⟩
  have HB1 : Hid (Below w.heap.size w w1) := hb1
  obtain ⟨a, cap, rfl, hc⟩ := row_form ho1
  obtain ⟨g, rfl, hg1, hg2, hcx⟩ := hc i hi0
  rw [hx] at hcx
  have HX : Hid (∀ w', Below w1.heap.size w1 w' → w'.cell? ⟨g, i, none⟩ = some (.int .i64 x)) := fun w' hb => (hb.cell (p := ⟨g, i, none⟩) hg2).trans hcx
  clear ho1 hb1 hc hcx
  go_wp2_with fail
  refine calls_at (HD1.out _) (by with_reducible rfl) (by with_reducible rfl) ?_
  rintro e w2 ⟨rfl, hb2⟩
  have HB2 : Hid (Below w.heap.size w w2) := bl_next HB1.out hb2
  have c0 : w2.cell? ⟨g, i, none⟩ = some (.int .i64 x) := HX.out w2 hb2
  clear hb2
  go_wp2_with fail
  refine calls_at (HH.out _ HB2.out) (by with_reducible rfl) (by with_reducible rfl) ?_
  rintro e w3 ⟨rfl, hb3⟩
  have HB3 : Hid (Below w.heap.size w w3) := bl_next HB2.out hb3
  clear hb3
  go_wp2_with fail
  refine calls_at (HL.out _ HB3.out) (by with_reducible rfl) (by with_reducible rfl) ?_
  rintro e w4 ⟨rfl, hb4⟩
  have HB4 : Hid (Below w.heap.size w w4) := bl_next HB3.out hb4
  clear hb4
  go_wp2_with fail
  refine calls_at (HD2.out _) (by with_reducible rfl) (by with_reducible rfl) ?_
  rintro e w5 ⟨rfl, hb5⟩
  have HB5 : Hid (Below w.heap.size w w5) := bl_next HB4.out hb5
  clear hb5
  go_wp2_with fail
  refine calls_at (HL.out _ HB5.out) (by with_reducible rfl) (by with_reducible rfl) ?_
  rintro e w6 ⟨rfl, hb6⟩
  have HB6 : Hid (Below w.heap.size w w6) := bl_next HB5.out hb6
  clear hb6
  go_wp2_with fail
  go_ret3
  exact ⟨rfl, HB6.out⟩

set_option maxRecDepth 10000 in
set_option maxHeartbeats 400000 in
theorem pick_no (p : Nat) (n : Int) (w : World) (hO : Calls Tryd.prog 16 #[.pointer (some ⟨p, 0, none⟩)] w (VsOut [] w)) : Calls Tryd.prog 12 #[.pointer (some ⟨p, 0, none⟩), .int .i64 n] w fun e w' => e = .returned (.tuple #[.int .i64 0, .int .i64 0, .bool false]) ∧ Below w.heap.size w w' := by
  have HO : Hid (Calls Tryd.prog 16 #[.pointer (some ⟨p, 0, none⟩)] w (VsOut [] w)) := hO
  clear hO
  go_enter Tryd.func12, Tryd.ntmps12
  go_wp2_with fail
  refine calls_at HO.out (by with_reducible rfl) (by with_reducible rfl) ?_
  rintro e w1 ⟨v1, rfl, ho1, hb1⟩
  have HB1 : Hid (Below w.heap.size w w1) := hb1
  obtain ⟨a, cap, rfl, hc⟩ := row_form ho1
  clear ho1 hb1 hc
  go_wp2_with fail
  go_ret3
  exact ⟨rfl, HB1.out⟩

/-- What Pick answers of a store. -/
def pkX (s : St) (n : Int) : Int := (openL s.now s.now.length).getD (dvR n ((openL s.now s.now.length).length : Int)).toNat 0
def pkK (s : St) (n : Int) : Int := match s.now[(pkX s n).toNat]? with
  | some d => d.lo + 1 + dvR (dvQ n ((openL s.now s.now.length).length : Int)) (d.hi - d.lo)
  | none => 0
def pkV (s : St) (n : Int) : Value := if (openL s.now s.now.length).length = 0 then .tuple #[.int .i64 0, .int .i64 0, .bool false] else .tuple #[.int .i64 (pkX s n), .int .i64 (pkK s n), .bool true]
/-- Where it is, if there is any. -/
theorem pk_at {s : St} (ha : Alls s) (n : Int) (h : 0 < (openL s.now s.now.length).length) : ∃ (i x : Nat) (hi : i < (openL s.now s.now.length).length) (hx : x < s.now.length), (openL s.now s.now.length)[i] = (x : Int) ∧ dvR n ((openL s.now s.now.length).length : Int) = (i : Int) ∧ pkX s n = (x : Int) ∧ s.now[x].lo < s.now[x].hi ∧ pkK s n = s.now[x].lo + 1 + dvR (dvQ n ((openL s.now s.now.length).length : Int)) (s.now[x].hi - s.now[x].lo) ∧ s.now[x].lo < pkK s n ∧ pkK s n ≤ s.now[x].hi ∧ -1000000000 ≤ s.now[x].lo ∧ s.now[x].hi ≤ 2000000000 := by
  obtain ⟨r1, r2⟩ := dvR_in n (b := ((openL s.now s.now.length).length : Int)) (by omega)
  obtain ⟨i, hi⟩ : ∃ i : Nat, dvR n ((openL s.now s.now.length).length : Int) = (i : Int) := ⟨(dvR n ((openL s.now s.now.length).length : Int)).toNat, by omega⟩
  have hil : i < (openL s.now s.now.length).length := by omega
  obtain ⟨x, hx, e1, e2⟩ := open_at hil
  obtain ⟨ho, hA⟩ := ha _ (List.getElem_mem hx)
  have hf := fine_of ho hA
  have hlt := lo_hi ho hA e2
  have eX : pkX s n = (x : Int) := by
    unfold pkX
    rw [hi, Int.toNat_natCast, List.getD_eq_getElem?_getD, List.getElem?_eq_getElem hil, e1]
    rfl
  have eK : pkK s n = s.now[x].lo + 1 + dvR (dvQ n ((openL s.now s.now.length).length : Int)) (s.now[x].hi - s.now[x].lo) := by
    unfold pkK
    rw [eX, Int.toNat_natCast, List.getElem?_eq_getElem hx]
  obtain ⟨q1, q2⟩ := dvR_in (dvQ n ((openL s.now s.now.length).length : Int)) (b := s.now[x].hi - s.now[x].lo) (by omega)
  exact ⟨i, x, hil, hx, e1, hi, eX, hlt, eK, by omega, by omega, hf.b1, hf.b2⟩
theorem pick_any {B p : Nat} {nv mv : Value} {s : St} {w : World} (n : Int) (h : StAt B w p nv mv s) (ha : Alls s) (hT : Tz w) : Calls Tryd.prog 12 #[.pointer (some ⟨p, 0, none⟩), .int .i64 n] w fun e w' => e = .returned (pkV s n) ∧ Below w.heap.size w w' := by
  have hs : 0 < w.heap.size := Nat.lt_of_le_of_lt (Nat.zero_le _) h.lt
  have hO := open_any B p nv mv s w h
  unfold pkV
  by_cases h0 : (openL s.now s.now.length).length = 0
  · rw [if_pos h0]
    rw [List.length_eq_zero_iff.1 h0] at hO
    exact pick_no p n w hO
  · rw [if_neg h0]
    obtain ⟨i, x, hi, hx, e1, e2, e3, e4, e5, _, _, e6, e7⟩ := pk_at ha n (by omega)
    rw [e3, e5]
    exact pick_walk p n _ i (x : Int) _ _ w (Nat.le_trans (openL_len _ _) h.n32) hi e1 e2 e6 e4 e7 hO (fun w' hb => hi_in B p nv mv s x hx w' (h.below hb)) (fun w' hb => lo_in B p nv mv s x hx w' (h.below hb) (hT.below hb hs))
end Go.Proofs.YtdfbmfikhccajaaDoor
