/-
  Put together: DmKnown, DmCuts.
-/
import Derived.Test.YtakdboddbgihpaaDoorJ43
import Derived.Test.YtakdboddbgihpaaDoorDmOrdM
namespace Go.Proofs.YtakdboddbgihpaaDoor
open Go.RowKit

set_option maxRecDepth 10000 in
set_option maxHeartbeats 2000000 in
theorem known_any (w : World) (hT : Tz w) (hs : 0 < w.heap.size) : Calls Tryd.prog 5 #[] w fun e w' => e = .returned (.bool true) ∧ Below w.heap.size w w' := by
  obtain ⟨W, hW⟩ : ∃ W, w.alloc (.cells #[.string ⟨#[120]⟩, .int .i64 (-2), .int .i64 2] 39) = W := ⟨_, rfl⟩
  have hb0 : Below w.heap.size w W := by rw [← hW]; exact (Below.refl _ _).alloc (Nat.le_refl _) _
  have g0 : W.heap[w.heap.size]? = some (.cells #[.string ⟨#[120]⟩, .int .i64 (-2), .int .i64 2] 39 (0, 0)) := by rw [← hW]; exact heap_alloc_new w _
  have hsW : 0 < W.heap.size := Nat.lt_of_lt_of_le hs hb0.size
  have HB : Hid (Below w.heap.size w W) := hb0
  have HTz : Hid (∀ w', Below W.heap.size W w' → Tz w') := fun w' hb => (hT.below hb0 hs).below hb hsW
  have HNew : Hid (Calls Tryd.prog 7 #[.agg #[.slice (some ⟨w.heap.size, 0, none⟩) 1 1, .slice none 0 0, .bool false, .slice none 0 0]] W (fun e w' => ∃ p nv mv, e = .returned (.pointer (some ⟨p, 0, none⟩)) ∧ StAt W.heap.size w' p nv mv k0 ∧ Below W.heap.size W w')) := (new_any kM _ _ _ W (kM_at g0) hsW).mono fun e w' h => q_new kn0 h
  clear hb0 g0 hT
  go_enter Tryd.func5, Tryd.ntmps5
  go_wp2_with fail
  refine calls_at HNew.out (by with_reducible rfl) (by with_reducible rfl) ?_
  rintro e w1 ⟨p, nv, mv, rfl, hA1, hb1⟩
  have HA1 : Hid (StAt W.heap.size w1 p nv mv k0) := hA1
  have HB1 : Hid (Below W.heap.size W w1) := hb1
  clear hA1 hb1 hW
  go_wp2_with fail
  refine calls_at (q_vars HA1.out) (by with_reducible rfl) (by with_reducible rfl) ?_
  rintro e w2 ⟨rfl, rfl⟩
  have HA2 := HA1
  have HB2 := HB1
  go_wp2_with fail
  refine calls_at (q_size HA2.out) (by with_reducible rfl) (by with_reducible rfl) ?_
  rintro e w3 ⟨rfl, hb3⟩
  have HA3 : Hid (StAt W.heap.size w3 p nv mv k0) := HA2.out.below hb3
  have HB3 : Hid (Below W.heap.size W w3) := HB2.out.trans (hb3.mono HB2.out.size)
  clear hb3
  go_wp2_with fail
  refine calls_at (q_kn1 HA3.out) (by with_reducible rfl) (by with_reducible rfl) ?_
  rintro e w4 ⟨rfl, ha4, hs4⟩
  have HA4 : Hid (StAt W.heap.size w4 p nv mv k1) := ha4
  have HB4 : Hid (Below W.heap.size W w4) := HB3.out.trans hs4.below
  clear ha4 hs4
  go_wp2_with fail
  refine calls_at (q_kn2 HA4.out) (by with_reducible rfl) (by with_reducible rfl) ?_
  rintro e w5 ⟨rfl, ha5, hs5⟩
  have HA5 : Hid (StAt W.heap.size w5 p nv mv k2) := ha5
  have HB5 : Hid (Below W.heap.size W w5) := HB4.out.trans hs5.below
  clear ha5 hs5
  go_wp2_with fail
  refine calls_at (q_vals HA5.out (HTz.out _ HB5.out)) (by with_reducible rfl) (by with_reducible rfl) ?_
  rintro e w6 ⟨v6, rfl, ho6, hb6⟩
  have HA6 : Hid (StAt W.heap.size w6 p nv mv k2) := HA5.out.below hb6
  have HB6 : Hid (Below W.heap.size W w6) := HB5.out.trans (hb6.mono HB5.out.size)
  obtain ⟨W7, hW7⟩ : ∃ X, w6.alloc (.cells #[.int .i64 (-1), .int .i64 1, .int .i64 2] 3) = X := ⟨_, rfl⟩
  have hbx7 : Below w6.heap.size w6 W7 := by rw [← hW7]; exact (Below.refl _ _).alloc (Nat.le_refl _) _
  have HA7 : Hid (StAt W.heap.size W7 p nv mv k2) := HA6.out.below hbx7
  have HB7 : Hid (Below W.heap.size W W7) := HB6.out.trans (hbx7.mono HB6.out.size)
  obtain ⟨oa6, oc6, rfl⟩ : ∃ a c, v6 = .slice a 3 c := own_slice ho6
  have HI7 : Hid (Calls Tryd.prog 19 #[.slice oa6 3 oc6, .slice (some ⟨w6.heap.size, 0, none⟩) 3 3] W7 fun e w' => e = .returned (.bool true) ∧ Below W7.heap.size W7 w') := ints_same _ 0 _ _ [-1, 1, 2] W7 (own_below ho6 hbx7) (lit_row (L := [-1, 1, 2]) (by rw [← hW7]; exact heap_alloc_new w6 _) rfl (by decide)) (by decide)
  clear ho6 hb6 hbx7
  go_wp2_with fail
  refine calls_at HI7.out (by with_reducible rfl) (by with_reducible rfl) ?_
  rintro e w8 ⟨rfl, hb8⟩
  have HA8 : Hid (StAt W.heap.size w8 p nv mv k2) := HA7.out.below hb8
  have HB8 : Hid (Below W.heap.size W w8) := HB7.out.trans (hb8.mono HB7.out.size)
  clear hb8 hW7
  go_wp2_with fail
  refine calls_at (q_mark3 HA8.out) (by with_reducible rfl) (by with_reducible rfl) ?_
  rintro e w9 ⟨mv9, rfl, ha9, hs9⟩
  have HA9 : Hid (StAt W.heap.size w9 p nv mv9 k3) := ha9
  have HB9 : Hid (Below W.heap.size W w9) := HB8.out.trans hs9
  clear ha9 hs9
  go_wp2_with fail
  refine calls_at (q_kn4 HA9.out) (by with_reducible rfl) (by with_reducible rfl) ?_
  rintro e w10 ⟨rfl, ha10, hs10⟩
  have HA10 : Hid (StAt W.heap.size w10 p nv mv9 k4) := ha10
  have HB10 : Hid (Below W.heap.size W w10) := HB9.out.trans hs10.below
  clear ha10 hs10
  go_wp2_with fail
  refine calls_at (q_kn5 HA10.out) (by with_reducible rfl) (by with_reducible rfl) ?_
  rintro e w11 ⟨rfl, ha11, hs11⟩
  have HA11 : Hid (StAt W.heap.size w11 p nv mv9 k4) := ha11
  have HB11 : Hid (Below W.heap.size W w11) := HB10.out.trans hs11.below
  clear ha11 hs11
  go_wp2_with fail
  refine calls_at (q_hi HA11.out) (by with_reducible rfl) (by with_reducible rfl) ?_
  rintro e w12 ⟨rfl, hb12⟩
  have HA12 : Hid (StAt W.heap.size w12 p nv mv9 k4) := HA11.out.below hb12
  have HB12 : Hid (Below W.heap.size W w12) := HB11.out.trans (hb12.mono HB11.out.size)
  clear hb12
  go_wp2_with fail
  refine calls_at (q_lo HA12.out (HTz.out _ HB12.out)) (by with_reducible rfl) (by with_reducible rfl) ?_
  rintro e w13 ⟨rfl, hb13⟩
  have HA13 : Hid (StAt W.heap.size w13 p nv mv9 k4) := HA12.out.below hb13
  have HB13 : Hid (Below W.heap.size W w13) := HB12.out.trans (hb13.mono HB12.out.size)
  clear hb13
  go_wp2_with fail
  refine calls_at (q_has4 HA13.out) (by with_reducible rfl) (by with_reducible rfl) ?_
  rintro e w14 ⟨rfl, hb14⟩
  have HA14 : Hid (StAt W.heap.size w14 p nv mv9 k4) := HA13.out.below hb14
  have HB14 : Hid (Below W.heap.size W w14) := HB13.out.trans (hb14.mono HB13.out.size)
  clear hb14
  go_wp2_with fail
  refine calls_at (q_mark6 HA14.out) (by with_reducible rfl) (by with_reducible rfl) ?_
  rintro e w15 ⟨mv15, rfl, ha15, hs15⟩
  have HA15 : Hid (StAt W.heap.size w15 p nv mv15 k6) := ha15
  have HB15 : Hid (Below W.heap.size W w15) := HB14.out.trans hs15
  clear ha15 hs15
  go_wp2_with fail
  refine calls_at (q_back7 HA15.out) (by with_reducible rfl) (by with_reducible rfl) ?_
  rintro e w16 ⟨mv16, rfl, ha16, hs16⟩
  have HA16 : Hid (StAt W.heap.size w16 p nv mv16 k6) := ha16
  have HB16 : Hid (Below W.heap.size W w16) := HB15.out.trans hs16
  clear ha16 hs16
  go_wp2_with fail
  refine calls_at (q_back8 HA16.out) (by with_reducible rfl) (by with_reducible rfl) ?_
  rintro e w17 ⟨mv17, rfl, ha17, hs17⟩
  have HA17 : Hid (StAt W.heap.size w17 p nv mv17 k8) := ha17
  have HB17 : Hid (Below W.heap.size W w17) := HB16.out.trans hs17
  clear ha17 hs17
  go_wp2_with fail
  refine calls_at (q_has8 HA17.out) (by with_reducible rfl) (by with_reducible rfl) ?_
  rintro e w18 ⟨rfl, hb18⟩
  have HA18 : Hid (StAt W.heap.size w18 p nv mv17 k8) := HA17.out.below hb18
  have HB18 : Hid (Below W.heap.size W w18) := HB17.out.trans (hb18.mono HB17.out.size)
  clear hb18
  go_wp2_with fail
  refine calls_at (q_open HA18.out) (by with_reducible rfl) (by with_reducible rfl) ?_
  rintro e w19 ⟨v19, rfl, ho19, hb19⟩
  have HA19 : Hid (StAt W.heap.size w19 p nv mv17 k8) := HA18.out.below hb19
  have HB19 : Hid (Below W.heap.size W w19) := HB18.out.trans (hb19.mono HB18.out.size)
  obtain ⟨W20, hW20⟩ : ∃ X, w19.alloc (.cells #[.int .i64 0] 3) = X := ⟨_, rfl⟩
  have hbx20 : Below w19.heap.size w19 W20 := by rw [← hW20]; exact (Below.refl _ _).alloc (Nat.le_refl _) _
  have HA20 : Hid (StAt W.heap.size W20 p nv mv17 k8) := HA19.out.below hbx20
  have HB20 : Hid (Below W.heap.size W W20) := HB19.out.trans (hbx20.mono HB19.out.size)
  obtain ⟨oa19, oc19, rfl⟩ : ∃ a c, v19 = .slice a 1 c := own_slice ho19
  have HI20 : Hid (Calls Tryd.prog 19 #[.slice oa19 1 oc19, .slice (some ⟨w19.heap.size, 0, none⟩) 1 1] W20 fun e w' => e = .returned (.bool true) ∧ Below W20.heap.size W20 w') := ints_same _ 0 _ _ [0] W20 (own_below ho19 hbx20) (lit_row (L := [0]) (by rw [← hW20]; exact heap_alloc_new w19 _) rfl (by decide)) (by decide)
  clear ho19 hb19 hbx20
  go_wp2_with fail
  refine calls_at HI20.out (by with_reducible rfl) (by with_reducible rfl) ?_
  rintro e w21 ⟨rfl, hb21⟩
  have HA21 : Hid (StAt W.heap.size w21 p nv mv17 k8) := HA20.out.below hb21
  have HB21 : Hid (Below W.heap.size W w21) := HB20.out.trans (hb21.mono HB20.out.size)
  clear hb21 hW20
  go_wp2_with fail
  refine calls_at (copy_any _ p nv mv17 k8 w21 HA21.out) (by with_reducible rfl) (by with_reducible rfl) ?_
  rintro e w22 ⟨p2, nv2, mv2, rfl, hA2, hb22⟩
  have HA22 : Hid (StAt W.heap.size w22 p nv mv17 k8) := HA21.out.below hb22
  have HB22 : Hid (Below W.heap.size W w22) := HB21.out.trans (hb22.mono HB21.out.size)
  clear hA2 hb22
  go_wp2_with fail
  refine calls_at (same_any _ p _ p _ _ _ _ _ _ w22 HA22.out HA22.out rfl (HTz.out _ HB22.out)) (by with_reducible rfl) (by with_reducible rfl) ?_
  rintro e wz ⟨rfl, hbz⟩
  have HBz : Hid (Below W.heap.size W wz) := HB22.out.trans (hbz.mono HB22.out.size)
  clear hbz
  go_wp2_with fail
  go_ret
  exact ⟨rfl, HB.out.trans (HBz.out.mono HB.out.size)⟩
end Go.Proofs.YtakdboddbgihpaaDoor

namespace Go.Proofs.YtakdboddbgihpaaDoor
open Go.RowKit

theorem cuts_append (l r : List Ct) (s : St) : s.cuts (l ++ r) = (s.cuts l).bind fun t => t.cuts r := by
  induction l generalizing s with
  | nil => rfl
  | cons c l ih =>
    show (if s.may c.k c.x c.v then (s.cut c.k c.x c.v).cuts (l ++ r) else none) = (if s.may c.k c.x c.v then (s.cut c.k c.x c.v).cuts l else none).bind fun t => t.cuts r
    split
    · exact ih _
    · rfl
theorem cuts_next {s t : St} {l : List Ct} {k : Nat} (hk : k < l.length) (h : s.cuts (l.take k) = some t) : s.cuts (l.take (k + 1)) = if t.may l[k].k l[k].x l[k].v then some (t.cut l[k].k l[k].x l[k].v) else none := by
  rw [List.take_succ_eq_append_getElem hk, cuts_append, h]
  rfl
theorem cuts_stop {s t : St} {l : List Ct} {k : Nat} (hk : k < l.length) (h : s.cuts (l.take k) = some t) (hm : t.may l[k].k l[k].x l[k].v = false) : s.cuts l = none := by
  have h1 := cuts_next hk h
  rw [hm] at h1
  rw [← List.take_append_drop (k + 1) l, cuts_append, h1]
  rfl

/-- The cuts the other way round, and turned: the first i of them. -/
def othr (l : List Ct) (k i : Nat) : List Ct := (List.range i).map fun j => l.getD (l.length - 1 - (j + k) % l.length) ⟨0, 0, 0⟩
theorem othr_succ (l : List Ct) (k i : Nat) (hl : 0 < l.length) : ∃ h : l.length - 1 - (i + k) % l.length < l.length, othr l k (i + 1) = othr l k i ++ [l[l.length - 1 - (i + k) % l.length]] := by
  have h : l.length - 1 - (i + k) % l.length < l.length := by omega
  refine ⟨h, ?_⟩
  unfold othr
  rw [List.range_succ, List.map_append, List.map_cons, List.map_nil, List.getD_eq_getElem?_getD, List.getElem?_eq_getElem h]
  rfl
theorem othr_len (l : List Ct) (k i : Nat) : (othr l k i).length = i := by unfold othr; rw [List.length_map, List.length_range]
theorem othr_mem (l : List Ct) (k : Nat) (hk : k ≤ l.length) (c : Ct) : c ∈ l ↔ c ∈ othr l k l.length := by
  constructor
  · intro h
    obtain ⟨j, hj, rfl⟩ := List.getElem_of_mem h
    unfold othr
    rw [List.mem_map]
    refine ⟨(l.length - 1 - j + (l.length - k)) % l.length, List.mem_range.2 (Nat.mod_lt _ (by omega)), ?_⟩
    have e : ((l.length - 1 - j + (l.length - k)) % l.length + k) % l.length = l.length - 1 - j := by
      rw [Nat.mod_add_mod, show l.length - 1 - j + (l.length - k) + k = (l.length - 1 - j) + l.length by omega, Nat.add_mod_right, Nat.mod_eq_of_lt (by omega)]
    rw [e, show l.length - 1 - (l.length - 1 - j) = j by omega, List.getD_eq_getElem?_getD, List.getElem?_eq_getElem hj]
    rfl
  · intro h
    unfold othr at h
    rw [List.mem_map] at h
    obtain ⟨j, hj, rfl⟩ := h
    have hl : 0 < l.length := by have := List.mem_range.1 hj; omega
    have h2 : l.length - 1 - (j + k) % l.length < l.length := by omega
    rw [List.getD_eq_getElem?_getD, List.getElem?_eq_getElem h2]
    exact List.getElem_mem h2
/-- Cuts in memory. -/
def CtsAt (w : World) (a : Option Addr) (L : List Ct) : Prop :=
  ∀ j (h : j < L.length), ∃ b off, a = some ⟨b, off, none⟩ ∧ w.cell? ⟨b, off + j * 3, none⟩ = some (.int .i64 L[j].k) ∧ w.cell? ⟨b, off + j * 3 + 1, none⟩ = some (.int .i64 L[j].x) ∧ w.cell? ⟨b, off + j * 3 + 2, none⟩ = some (.int .i64 L[j].v)
/-- What cuts leaves. -/
def CtOut (B p : Nat) (nv mv : Value) (s : St) (L : List Ct) (w : World) (e : Ending) (w' : World) : Prop := e = .returned (.bool (s.cuts L).isSome) ∧ (∀ t, s.cuts L = some t → StAt B w' p nv mv t) ∧ Stp B p nv mv w w'

set_option maxRecDepth 10000 in
set_option maxHeartbeats 1000000 in
theorem cuts_any (B p : Nat) (nv mv : Value) (s : St) (la : Option Addr) (lc : Nat) (L : List Ct) (w : World) (h : StAt B w p nv mv s) (hL : ∀ w', Stp B p nv mv w w' → CtsAt w' la L) (hl : L.length ≤ 300) : Calls Tryd.prog 9 #[.pointer (some ⟨p, 0, none⟩), .slice la L.length lc] w (CtOut B p nv mv s L w) := by
  have HA : Hid (StAt B w p nv mv s) := h
  have HL : Hid (∀ w', Stp B p nv mv w w' → CtsAt w' la L) := hL
  clear h hL
  go_enter Tryd.func9, Tryd.ntmps9
  go_wp2_with fail
  go_loopw [5] (fun iv wr => ∃ (k : Nat) (t : St), iv = .int .i64 (k : Int) ∧ k ≤ L.length ∧ Hid (s.cuts (L.take k) = some t) ∧ Hid (StAt B wr p nv mv t) ∧ Hid (Stp B p nv mv w wr)) (fun iv _ => L.length - (intOf iv).toNat)
  case atStart => exact ⟨0, s, rfl, Nat.zero_le _, rfl, HA, Stp.refl _ _ _ _ _⟩
  case round =>
    obtain ⟨k, t, rfl, hk, HC, HAr, HSr⟩ := hrel
    by_cases hkn : k < L.length
    · have hkI : (k : Int) < (L.length : Int) := by omega
      obtain ⟨b, off, rfl, f0, f1, f2⟩ := HL.out wr HSr.out k hkn
      have hC1 := cuts_next hkn HC.out
      have HC0 : Hid (t.may L[k].k L[k].x L[k].v = false → s.cuts L = none) := fun hm => cuts_stop hkn HC.out hm
      have HCt := cut_any B p nv mv t L[k].k L[k].x L[k].v wr HAr.out
      obtain ⟨o, ho⟩ : ∃ o, L[k] = o := ⟨_, rfl⟩
      rw [ho] at f0 f1 f2 hC1 HC0 HCt
      have HC1 : Hid (s.cuts (L.take (k + 1)) = if t.may o.k o.x o.v then some (t.cut o.k o.x o.v) else none) := hC1
      have HCt' : Hid (Calls Tryd.prog 18 #[.pointer (some ⟨p, 0, none⟩), .agg #[.int .i64 o.k, .int .i64 o.x, .int .i64 o.v]] wr (CutOut B p nv mv t o.k o.x o.v wr)) := HCt
      clear ho hC1 HCt
      go_wp2_with fail
      refine calls_at HCt'.out (by with_reducible rfl) (by with_reducible rfl) ?_
      rintro e w1 ⟨rfl, hA1, hS1⟩
      have HA1 : Hid (StAt B w1 p nv mv (t.cut o.k o.x o.v)) := hA1
      have HS1 : Hid (Stp B p nv mv w w1) := HSr.out.trans hS1 (fun g e => .inl e)
      clear hA1 hS1
      cases hm : t.may o.k o.x o.v with
      | true =>
        have HC2 : Hid (s.cuts (L.take (k + 1)) = some (t.cut o.k o.x o.v)) := by show _ = _; rw [HC1.out, hm, if_pos rfl]
        clear hm
        go_wp2_with fail
        go_roundw
        case rel => exact ⟨k + 1, t.cut o.k o.x o.v, by go_num, hkn, HC2, HA1, HS1⟩
        case measure => simp [intOf]; omega
      | false =>
        have HC2 : Hid (s.cuts L = none) := HC0.out hm
        clear hm
        go_wp2_with fail
        go_ret
        exact ⟨by rw [HC2.out]; rfl, (fun t h => by rw [HC2.out] at h; cases h), HS1.out⟩
    · have hke : k = L.length := by omega
      subst hke
      rw [List.take_length] at HC
      go_wp2_with fail
      go_ret
      refine ⟨by rw [HC.out]; rfl, fun u h => ?_, HSr.out⟩
      rw [HC.out] at h
      injection h with h
      rw [← h]
      exact HAr.out
end Go.Proofs.YtakdboddbgihpaaDoor
