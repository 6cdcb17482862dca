/-
  A room holds.
-/
import Derived.Test.YtmhfabnpfkkbcaaGreatMdHoldJ
namespace Go.Proofs.YtmhfabnpfkkbcaaGreat
open Go.RowKit

theorem cell_lt {w : World} {a : Addr} {u : Value} (h : w.cell? a = some u) : a.block < w.heap.size := by
  rcases Nat.lt_or_ge a.block w.heap.size with hl | hl
  · exact hl
  · unfold World.cell? at h
    rw [Array.getElem?_eq_none hl] at h
    cases h
theorem cell_below {w w' : World} (hb : Below w.heap.size w w') {a : Addr} {u : Value} (h : w.cell? a = some u) : w'.cell? a = some u := (hb.cell (p := a) (cell_lt h)).trans h
theorem EntI.below {w w' : World} (hb : Below w.heap.size w w') (x a : Value) (h : EntI w x a) : EntI w' x a := by
  obtain ⟨b, n, room, cap, h1, h2, h3, h4, h5⟩ := h
  exact ⟨b, n, room, cap, h1, h2, h3, h4, fun j hj => cell_below hb (h5 j hj)⟩
theorem EntT.below {w w' : World} (hb : Below w.heap.size w w') (x a : Value) (h : EntT w x a) : EntT w' x a := by
  obtain ⟨b, n, room, cap, h1, h2, h3, h4, h5⟩ := h
  exact ⟨b, n, room, cap, h1, h2, h3, h4, fun j hj => ⟨cell_below hb (h5 j hj).1, cell_below hb (h5 j hj).2⟩⟩
theorem EntL.below {w w' : World} (hb : Below w.heap.size w w') (x a : Value) (h : EntL w x a) : EntL w' x a := by
  obtain ⟨b, n, room, cap, h1, h2, h3, h4, h5⟩ := h
  refine ⟨b, n, room, cap, h1, h2, h3, h4, fun j hj => ?_⟩
  obtain ⟨m, k1, k2⟩ := h5 j hj
  exact ⟨m, cell_below hb k1, cell_below hb k2⟩

/-- All that Hold looks at. -/
structure HoldOk (base R : Nat) (S : Lab) (F : Nat → List Value) (w : World) : Prop where
  room : RoomAt ety base R S F w
  gi : All2 (EntI w) (F 0) (F 1)
  gt : All2 (EntT w) (F 4) (F 5)
  gl : All2 (EntL w) (F 16) (F 17)
  li : (F 0).length ≤ 1000000
  lt : (F 4).length ≤ 1000000
  ll : (F 16).length ≤ 1000000
  nil : ∀ j, j ≠ 0 → j ≠ 1 → j ≠ 4 → j ≠ 5 → j ≠ 16 → j ≠ 17 → F j = []
theorem HoldOk.below {base R : Nat} {S : Lab} {F : Nat → List Value} {w w' : World} (h : HoldOk base R S F w) (hb : Below w.heap.size w w') : HoldOk base R S F w' :=
  ⟨h.room.kept hb, h.gi.imp (EntI.below hb), h.gt.imp (EntT.below hb), h.gl.imp (EntL.below hb), h.li, h.lt, h.ll, h.nil⟩
theorem HoldOk.next {base R : Nat} {S : Lab} {F : Nat → List Value} {w w1 w2 : World} (h : HoldOk base R S F w1 ∧ Below w.heap.size w w1) (hb : Below w1.heap.size w1 w2) : HoldOk base R S F w2 ∧ Below w.heap.size w w2 :=
  ⟨h.1.below hb, h.2.trans (hb.mono h.2.size)⟩

set_option maxRecDepth 10000 in
set_option maxHeartbeats 1000000 in
theorem holdAll_any (base R : Nat) (S : Lab) (F : Nat → List Value) (w : World) (h : HoldOk base R S F w) : Calls Tryz.prog 22 #[.pointer (some ⟨R, 0, none⟩)] w fun e w' => e = .returned (.bool true) ∧ Below w.heap.size w w' := by
  have K0 : Hid (HoldOk base R S F w ∧ Below w.heap.size w w) := ⟨h, Below.refl _ _⟩
  clear h
  go_enter Tryz.func22, Tryz.ntmps22
  go_wp2_with (first
    | (go_at_call 57; refine calls_at (holdInts_any base R S F _ K0.out.1.room K0.out.1.gi K0.out.1.li) (by with_reducible rfl) (by with_reducible rfl) ?_; rintro e w1 ⟨rfl, hb⟩; have K1 : Hid (HoldOk base R S F w1 ∧ Below w.heap.size w w1) := HoldOk.next K0.out hb; clear hb)
    | (go_at_call 58; refine calls_at (hold58 base R S F _ K1.out.1.room (K1.out.1.nil 2 (by decide) (by decide) (by decide) (by decide) (by decide) (by decide))) (by with_reducible rfl) (by with_reducible rfl) ?_; rintro e w2 ⟨rfl, hb⟩; have K2 : Hid (HoldOk base R S F w2 ∧ Below w.heap.size w w2) := HoldOk.next K1.out hb; clear hb)
    | (go_at_call 59; refine calls_at (holdTerms_any base R S F _ K2.out.1.room K2.out.1.gt K2.out.1.lt) (by with_reducible rfl) (by with_reducible rfl) ?_; rintro e w3 ⟨rfl, hb⟩; have K3 : Hid (HoldOk base R S F w3 ∧ Below w.heap.size w w3) := HoldOk.next K2.out hb; clear hb)
    | (go_at_call 60; refine calls_at (hold60 base R S F _ K3.out.1.room (K3.out.1.nil 6 (by decide) (by decide) (by decide) (by decide) (by decide) (by decide))) (by with_reducible rfl) (by with_reducible rfl) ?_; rintro e w4 ⟨rfl, hb⟩; have K4 : Hid (HoldOk base R S F w4 ∧ Below w.heap.size w w4) := HoldOk.next K3.out hb; clear hb)
    | (go_at_call 61; refine calls_at (hold61 base R S F _ K4.out.1.room (K4.out.1.nil 8 (by decide) (by decide) (by decide) (by decide) (by decide) (by decide))) (by with_reducible rfl) (by with_reducible rfl) ?_; rintro e w5 ⟨rfl, hb⟩; have K5 : Hid (HoldOk base R S F w5 ∧ Below w.heap.size w w5) := HoldOk.next K4.out hb; clear hb)
    | (go_at_call 62; refine calls_at (hold62 base R S F _ K5.out.1.room (K5.out.1.nil 10 (by decide) (by decide) (by decide) (by decide) (by decide) (by decide))) (by with_reducible rfl) (by with_reducible rfl) ?_; rintro e w6 ⟨rfl, hb⟩; have K6 : Hid (HoldOk base R S F w6 ∧ Below w.heap.size w w6) := HoldOk.next K5.out hb; clear hb)
    | (go_at_call 63; refine calls_at (hold63 base R S F _ K6.out.1.room (K6.out.1.nil 12 (by decide) (by decide) (by decide) (by decide) (by decide) (by decide))) (by with_reducible rfl) (by with_reducible rfl) ?_; rintro e w7 ⟨rfl, hb⟩; have K7 : Hid (HoldOk base R S F w7 ∧ Below w.heap.size w w7) := HoldOk.next K6.out hb; clear hb)
    | (go_at_call 64; refine calls_at (hold64 base R S F _ K7.out.1.room (K7.out.1.nil 14 (by decide) (by decide) (by decide) (by decide) (by decide) (by decide))) (by with_reducible rfl) (by with_reducible rfl) ?_; rintro e w8 ⟨rfl, hb⟩; have K8 : Hid (HoldOk base R S F w8 ∧ Below w.heap.size w w8) := HoldOk.next K7.out hb; clear hb)
    | (go_at_call 65; refine calls_at (holdLists_any base R S F _ K8.out.1.room K8.out.1.gl K8.out.1.ll) (by with_reducible rfl) (by with_reducible rfl) ?_; rintro e w9 ⟨rfl, hb⟩; have K9 : Hid (HoldOk base R S F w9 ∧ Below w.heap.size w w9) := HoldOk.next K8.out hb; clear hb)
    | (go_at_call 66; refine calls_at (hold66 base R S F _ K9.out.1.room (K9.out.1.nil 18 (by decide) (by decide) (by decide) (by decide) (by decide) (by decide))) (by with_reducible rfl) (by with_reducible rfl) ?_; rintro e w10 ⟨rfl, hb⟩; have K10 : Hid (HoldOk base R S F w10 ∧ Below w.heap.size w w10) := HoldOk.next K9.out hb; clear hb)
    | (go_at_call 67; refine calls_at (hold67 base R S F _ K10.out.1.room (K10.out.1.nil 20 (by decide) (by decide) (by decide) (by decide) (by decide) (by decide))) (by with_reducible rfl) (by with_reducible rfl) ?_; rintro e w11 ⟨rfl, hb⟩; have K11 : Hid (HoldOk base R S F w11 ∧ Below w.heap.size w w11) := HoldOk.next K10.out hb; clear hb)
    | (go_at_call 68; refine calls_at (hold68 base R S F _ K11.out.1.room (K11.out.1.nil 22 (by decide) (by decide) (by decide) (by decide) (by decide) (by decide))) (by with_reducible rfl) (by with_reducible rfl) ?_; rintro e w12 ⟨rfl, hb⟩; have K12 : Hid (HoldOk base R S F w12 ∧ Below w.heap.size w w12) := HoldOk.next K11.out hb; clear hb)
    | (go_at_call 69; refine calls_at (hold69 base R S F _ K12.out.1.room (K12.out.1.nil 24 (by decide) (by decide) (by decide) (by decide) (by decide) (by decide))) (by with_reducible rfl) (by with_reducible rfl) ?_; rintro e w13 ⟨rfl, hb⟩; have K13 : Hid (HoldOk base R S F w13 ∧ Below w.heap.size w w13) := HoldOk.next K12.out hb; clear hb)
    | (go_at_call 70; refine calls_at (hold70 base R S F _ K13.out.1.room (K13.out.1.nil 26 (by decide) (by decide) (by decide) (by decide) (by decide) (by decide))) (by with_reducible rfl) (by with_reducible rfl) ?_; rintro e w14 ⟨rfl, hb⟩; have K14 : Hid (HoldOk base R S F w14 ∧ Below w.heap.size w w14) := HoldOk.next K13.out hb; clear hb))
  go_ret
  exact ⟨rfl, K14.out.2⟩

end Go.Proofs.YtmhfabnpfkkbcaaGreat
