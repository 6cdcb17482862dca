/-
  Put together: PpKnB, PpKnown, PpSafeW.
-/
import Derived.Test.YtlcegpnnanhloaaGreatDoorJ42
import Derived.Test.YtlcegpnnanhloaaGreatDoorDmOrdO
import Derived.Test.YtlcegpnnanhloaaGreatDoorJ45
import Derived.Test.YtlcegpnnanhloaaGreatDoorJ43
import Derived.Test.YtlcegpnnanhloaaGreatDoorPpLawL
import Derived.Test.YtlcegpnnanhloaaGreatDoorMdHolds
namespace Go.Proofs.YtlcegpnnanhloaaGreatDoor
open Go.RowKit

theorem kints0 (w : World) : IntsAt w (.slice none 0 0) [] := ⟨none, 0, rfl, Nat.zero_le _, fun h => absurd h (Nat.not_lt_zero _)⟩
theorem kterms0 (w : World) : TermsAt w (.slice none 0 0) [] := ⟨none, 0, rfl, Nat.zero_le _, fun h => absurd h (Nat.not_lt_zero _)⟩
theorem krows0 (w : World) : RowsAt w (.slice none 0 0) [] := ⟨none, 0, rfl, Nat.zero_le _, fun h => absurd h (Nat.not_lt_zero _)⟩
theorem kcons0 (w : World) : ConsAt w (.slice none 0 0) [] := ⟨none, 0, rfl, Nat.zero_le _, fun h => absurd h (Nat.not_lt_zero _)⟩
theorem lit_ints {W : World} {N : Nat} {L : List Int} {cs : Array Value} {t : TypeId} (h : W.heap[N]? = some (.cells cs t (0, 0))) (hc : cs = (L.map (.int .i64)).toArray) (hl : L.length ≤ 1000) (n : Nat) (hn : n = L.length) : IntsAt W (.slice (some ⟨N, 0, none⟩) n n) L := by
  subst hc hn
  refine ⟨_, _, rfl, by unfold maxLen; omega, fun _ => ⟨N, 0, rfl, (Array.getElem?_eq_some_iff.1 h).1, fun j hj => ?_⟩⟩
  rw [cell_of h, Nat.zero_add]
  simp [hj]
theorem lit_terms2 {w : World} {N : Nat} {a b c d : Int} {t : TypeId} (h : w.heap[N]? = some (.cells #[.int .i64 a, .int .i64 b, .int .i64 c, .int .i64 d] t (0, 0))) : TermsAt w (.slice (some ⟨N, 0, none⟩) 2 2) [(a, b), (c, d)] := by
  refine ⟨_, 2, rfl, by show (2 : Nat) ≤ maxLen; unfold maxLen; decide, fun _ => ⟨N, 0, rfl, (Array.getElem?_eq_some_iff.1 h).1, fun j hj => ?_⟩⟩
  match j, hj with
  | 0, _ => exact ⟨cell_of h 0, cell_of h 1⟩
  | 1, _ => exact ⟨cell_of h 2, cell_of h 3⟩
theorem lit_terms1 {w : World} {N : Nat} {a b : Int} {t : TypeId} (h : w.heap[N]? = some (.cells #[.int .i64 a, .int .i64 b] t (0, 0))) : TermsAt w (.slice (some ⟨N, 0, none⟩) 1 1) [(a, b)] := by
  refine ⟨_, 1, rfl, by show (1 : Nat) ≤ maxLen; unfold maxLen; decide, fun _ => ⟨N, 0, rfl, (Array.getElem?_eq_some_iff.1 h).1, fun j hj => ?_⟩⟩
  match j, hj with
  | 0, _ => exact ⟨cell_of h 0, cell_of h 1⟩
theorem lit_rows3 {w : World} {N : Nat} {u v x : Value} {a b c : List Int} {t : TypeId} (h : w.heap[N]? = some (.cells #[u, v, x] t (0, 0))) (ha : IntsAt w u a) (hb : IntsAt w v b) (hc : IntsAt w x c) : RowsAt w (.slice (some ⟨N, 0, none⟩) 3 3) [a, b, c] := by
  refine ⟨_, 3, rfl, by show (3 : Nat) ≤ maxLen; unfold maxLen; decide, fun _ => ⟨N, 0, rfl, (Array.getElem?_eq_some_iff.1 h).1, fun j hj => ?_⟩⟩
  match j, hj with
  | 0, _ => exact ⟨u, cell_of h 0, ha⟩
  | 1, _ => exact ⟨v, cell_of h 1, hb⟩
  | 2, _ => exact ⟨x, cell_of h 2, hc⟩
theorem lit_cts {w : World} {N : Nat} {L : List Ct} {cs : Array Value} {t : TypeId} (h : w.heap[N]? = some (.cells cs t (0, 0))) (hc : cs = (cts L).toArray) : CtsAt w (some ⟨N, 0, none⟩) L := fun j hj => by
  subst hc
  obtain ⟨h1, h2, h3⟩ := cts_get L j hj
  refine ⟨N, 0, rfl, ?_, ?_, ?_⟩
  · rw [cell_of h, Nat.zero_add]; simpa using h1
  · rw [cell_of h, Nat.zero_add]; simpa using h2
  · rw [cell_of h, Nat.zero_add]; simpa using h3
theorem own_cts {w : World} {B : Nat} {v : Value} {L : List Ct} (h : w.ownsRow B 46 3 v L.length (cts L)) : ∃ a cap, v = .slice a L.length cap ∧ CtsAt w a L := by
  obtain ⟨a, c, e, _, _, h3, h4⟩ := cts_src h
  refine ⟨a, c, e, fun j hj => ?_⟩
  obtain ⟨h5, h6, h7⟩ := cts_get L j hj
  cases a with
  | none => exact absurd (h3 rfl) (by omega)
  | some ad =>
    rcases h.2 with ⟨e2, hn⟩ | ⟨g, cap, cur, e2, _⟩
    · omega
    · rw [e] at e2
      injection e2 with e2
      injection e2 with e2
      subst e2
      refine ⟨g, 0, rfl, ?_, ?_, ?_⟩
      · have := h4 _ rfl _ _ h5; rwa [addr_none] at this
      · have := h4 _ rfl _ _ h6; rwa [addr_none] at this
      · have := h4 _ rfl _ _ h7; rwa [addr_none] at this
theorem StAt.own_lt {B : Nat} {w : World} {p : Nat} {nv mv : Value} {s : St} (h : StAt B w p nv mv s) : ∀ k, Own p nv mv k → k < w.heap.size := by
  intro k hk
  rcases hk with rfl | hk | hk
  · exact h.lt
  · exact (h.n.lt k hk).2
  · exact (h.m.lt k hk).2
/-- What Cuts answers, its list opened. -/
theorem cuts_lit {B p : Nat} {nv mv : Value} {s : St} {w2 w' : World} (hS : StAt B w2 p nv mv s) (hT : Tz w2) (hs : 0 < w2.heap.size) (hb : Below w2.heap.size w2 w') {c : Md.Cn} {vt vx vb vr V : Value} (hC : CnAt w' c vt vx vb vr) (hV : cnVal c vt vx vb vr = V) {L : List Ct} {b : Bool} (hc : cutR s.now c = (L, b)) : Calls Tryz.prog 10 #[V, .pointer (some ⟨p, 0, none⟩)] w' fun e w3 => ∃ a cap, e = .returned (.tuple #[.slice a L.length cap, .bool b]) ∧ CtsAt w3 a L ∧ Below w'.heap.size w' w3 := by
  subst hV
  have hS' := hS.below hb
  refine (cuts_any p nv mv s w' ⟨B, hS'⟩ hS'.own_lt (hT.below hb hs) c vt vx vb vr hC).mono ?_
  rintro e w3 ⟨v, rfl, h1, h2⟩
  rw [hc] at h1
  obtain ⟨a, cap, rfl, h3⟩ := own_cts h1
  exact ⟨a, cap, by rw [hc], h3, h2⟩
/-- A list held against a literal one. -/
theorem same_lit {w : World} {a : Option Addr} {cap : Nat} {L : List Ct} {cs : Array Value} (h : CtsAt w a L) (hc : cs = (cts L).toArray) (hl : L.length ≤ 1000) (n : Nat) (hn : n = L.length) : Calls Tryz.prog 25 #[.slice a n cap, .slice (some ⟨w.heap.size, 0, none⟩) n n] (w.alloc (.cells cs 46)) fun e w' => e = .returned (.bool true) ∧ Below w.heap.size w w' := by
  subst hn
  have hb : Below w.heap.size w (w.alloc (.cells cs 46)) := (Below.refl _ _).alloc (Nat.le_refl _) _
  refine (sameCuts_any a _ cap L.length L L _ (h.below hb) (lit_cts (heap_alloc_new w _) hc) (by omega)).mono ?_
  rintro e w' ⟨rfl, h2⟩
  exact ⟨by rw [(sameB_iff L L).2 rfl], hb.trans (h2.mono hb.size)⟩
theorem kM_at {W : World} {N : Nat} (h : W.heap[N]? = some (.cells #[.string ⟨#[120]⟩, .int .i64 0, .int .i64 3, .string ⟨#[121]⟩, .int .i64 0, .int .i64 3] 60 (0, 0))) : MoAt W kM (.slice (some ⟨N, 0, none⟩) 2 2) (.slice none 0 0) (.slice none 0 0) := by
  refine ⟨⟨_, 2, rfl, by unfold maxLen; decide, ?_, fun _ => ⟨N, 0, rfl, (Array.getElem?_eq_some_iff.1 h).1, fun j hj => ?_⟩⟩, ?_, kcons0 W, kterms0 W⟩
  · intro x hx
    have hx : x = ⟨⟨#[120]⟩, 0, 3⟩ ∨ x = ⟨⟨#[121]⟩, 0, 3⟩ := by simpa [kM] using hx
    rcases hx with rfl | rfl
    · show (1 : Nat) ≤ maxLen
      unfold maxLen
      decide
    · show (1 : Nat) ≤ maxLen
      unfold maxLen
      decide
  · match j, hj with
    | 0, _ => exact ⟨cell_of h 0, cell_of h 1, cell_of h 2⟩
    | 1, _ => exact ⟨cell_of h 3, cell_of h 4, cell_of h 5⟩
  · intro a n cp e
    injection e with _ e1 e2
    omega
end Go.Proofs.YtlcegpnnanhloaaGreatDoor

namespace Go.Proofs.YtlcegpnnanhloaaGreatDoor
open Go.RowKit

set_option maxRecDepth 10000 in
set_option maxHeartbeats 4000000 in
theorem known_any (w : World) (hT : Tz w) (hs : 0 < w.heap.size) : Calls Tryz.prog 7 #[] w fun e w' => e = .returned (.bool true) ∧ Below w.heap.size w w' := by
  obtain ⟨W, hW⟩ : ∃ W, (w.alloc (.cells #[.string ⟨#[120]⟩, .int .i64 0, .int .i64 3, .string ⟨#[121]⟩, .int .i64 0, .int .i64 3] 60)).alloc (.cells #[.slice (some ⟨w.heap.size, 0, none⟩) 2 2, .slice none 0 0, .bool false, .slice none 0 0] 26) = W := ⟨_, rfl⟩
  have hb0 : Below w.heap.size w W := by rw [← hW]; exact ((Below.refl _ _).alloc (Nat.le_refl _) _).alloc (by simp) _
  have g0 : W.heap[w.heap.size]? = some (.cells #[.string ⟨#[120]⟩, .int .i64 0, .int .i64 3, .string ⟨#[121]⟩, .int .i64 0, .int .i64 3] 60 (0, 0)) := by rw [← hW, heap_alloc_old (w.alloc _) _ (by simp)]; exact heap_alloc_new w _
  have g1 : W.heap[w.heap.size + 1]? = some (.cells #[.slice (some ⟨w.heap.size, 0, none⟩) 2 2, .slice none 0 0, .bool false, .slice none 0 0] 26 (0, 0)) := by rw [← hW]; exact heap_alloc2_new w _ _
  have HB0 : Hid (Below w.heap.size w W) := hb0
  have hsW : 0 < W.heap.size := Nat.lt_of_lt_of_le hs hb0.size
  have HN : Hid (Calls Tryz.prog 13 #[.agg #[.slice (some ⟨w.heap.size, 0, none⟩) 2 2, .slice none 0 0, .bool false, .slice none 0 0]] W (NewOut kM W)) := new_any kM _ _ _ W (kM_at g0) hsW
  have HT : Hid (Tz W) := hT.below hb0 hs
  have HsW : Hid (0 < W.heap.size) := hsW
  obtain ⟨⟨p0, p1, p2, p3⟩, _⟩ := box4 g1
  have HWe : Hid ((w.alloc (.cells #[.string ⟨#[120]⟩, .int .i64 0, .int .i64 3, .string ⟨#[121]⟩, .int .i64 0, .int .i64 3] 60)).alloc (.cells #[.slice (some ⟨w.heap.size, 0, none⟩) 2 2, .slice none 0 0, .bool false, .slice none 0 0] 26) = W) := hW
  clear hb0 g0 g1 hT hs hsW hW
  go_enter Tryz.func7, Tryz.ntmps7
  go_upto_region 2 with fail
  rw [HWe.out]
  clear HWe
  go_upto_region 5 with (go_at_call 13; refine calls_at HN.out (by with_reducible rfl) (by with_reducible rfl) ?_; rintro e w2 ⟨p, nv, mv, rfl, hS2, hb2⟩)
  rw [knS] at hS2
  have HS : Hid (StAt W.heap.size w2 p nv mv kS) := hS2
  have HB2 : Hid (Below w.heap.size w w2) := HB0.out.trans (hb2.mono HB0.out.size)
  have HT2 : Hid (Tz w2) := HT.out.below hb2 HsW.out
  have Hs2 : Hid (0 < w2.heap.size) := Nat.lt_of_lt_of_le HsW.out hb2.size
  clear hS2 hb2 HN p0 p1 p2 p3 HT
  obtain ⟨W3, hW3⟩ : ∃ W3, w2.alloc (.cells #[.int .i64 1, .int .i64 0, .int .i64 1, .int .i64 1] 62) = W3 := ⟨_, rfl⟩
  have HB3 : Hid (Below w2.heap.size w2 W3) := by rw [← hW3]; exact (Below.refl _ _).alloc (Nat.le_refl _) _
  have HG3 : Hid (W3.heap[w2.heap.size]? = some (.cells #[.int .i64 1, .int .i64 0, .int .i64 1, .int .i64 1] 62 (0, 0))) := by rw [← hW3]; exact heap_alloc_new w2 _
  have HGt : Hid (∀ w', Below W3.heap.size W3 w' → w'.heap[w2.heap.size]? = some (.cells #[.int .i64 1, .int .i64 0, .int .i64 1, .int .i64 1] 62 (0, 0))) := fun w' hb => (hb.block _ (Array.getElem?_eq_some_iff.1 HG3.out).1).trans HG3.out
  have HcA : Hid (∀ w', Below W3.heap.size W3 w' → Calls Tryz.prog 10 #[.agg #[.int .i64 1, .int .i64 3, .slice (some ⟨w2.heap.size, 0, none⟩) 2 2, .int .i64 5, .int .i64 0, .int .i64 0, .int .i64 0, .slice none 0 0, .slice none 0 0, .slice none 0 0], .pointer (some ⟨p, 0, none⟩)] w' fun e w3 => ∃ a cap, e = .returned (.tuple #[.slice a 2 cap, .bool true]) ∧ CtsAt w3 a [⟨1, 0, 2⟩, ⟨1, 1, 2⟩] ∧ Below w'.heap.size w' w3) := fun w' hb => cuts_lit HS.out HT2.out Hs2.out (HB3.out.trans (hb.mono HB3.out.size)) (c := kcA) ⟨lit_terms2 (HGt.out w' hb), kints0 _, (fun _ _ _ e => by injection e with _ e1 e2; omega), kints0 _, krows0 _⟩ rfl knA
  have HcC : Hid (∀ w', Below W3.heap.size W3 w' → Calls Tryz.prog 10 #[.agg #[.int .i64 1, .int .i64 3, .slice (some ⟨w2.heap.size, 0, none⟩) 2 2, .int .i64 7, .int .i64 0, .int .i64 0, .int .i64 0, .slice none 0 0, .slice none 0 0, .slice none 0 0], .pointer (some ⟨p, 0, none⟩)] w' fun e w3 => ∃ a cap, e = .returned (.tuple #[.slice a 0 cap, .bool false]) ∧ CtsAt w3 a [] ∧ Below w'.heap.size w' w3) := fun w' hb => cuts_lit HS.out HT2.out Hs2.out (HB3.out.trans (hb.mono HB3.out.size)) (c := kcC) ⟨lit_terms2 (HGt.out w' hb), kints0 _, (fun _ _ _ e => by injection e with _ e1 e2; omega), kints0 _, krows0 _⟩ rfl knC
  have HLe : Hid (∀ w', Below W3.heap.size W3 w' → Below w2.heap.size w2 w') := fun w' hb => HB3.out.trans (hb.mono HB3.out.size)
  go_upto_region 6 with fail
  try rw [hW3]
  clear hW3
  go_upto_region 7 with (go_at_call 10; refine calls_at (HcA.out W3 (Below.refl _ _)) (by with_reducible rfl) (by with_reducible rfl) ?_; rintro e w4 ⟨a4, cp4, rfl, hA, hb4⟩)
  have HA : Hid (CtsAt w4 a4 [⟨1, 0, 2⟩, ⟨1, 1, 2⟩]) := hA
  have HB4 : Hid (Below W3.heap.size W3 w4) := hb4
  clear hA hb4 HcA
  obtain ⟨W5, hW5⟩ : ∃ W5, w4.alloc (.cells #[.int .i64 2, .int .i64 9, .int .i64 0] 3) = W5 := ⟨_, rfl⟩
  have HB5 : Hid (Below W3.heap.size W3 W5) := by rw [← hW5]; exact HB4.out.alloc HB4.out.size _
  have HL5 : Hid (Below w4.heap.size w4 W5) := by rw [← hW5]; exact (Below.refl _ _).alloc (Nat.le_refl _) _
  have HG5 : Hid (W5.heap[w4.heap.size]? = some (.cells #[.int .i64 2, .int .i64 9, .int .i64 0] 3 (0, 0))) := by rw [← hW5]; exact heap_alloc_new w4 _
  have HcB : Hid (Calls Tryz.prog 10 #[.agg #[.int .i64 4, .int .i64 0, .slice none 0 0, .int .i64 0, .int .i64 0, .int .i64 0, .int .i64 1, .slice none 0 0, .slice (some ⟨w4.heap.size, 0, none⟩) 3 3, .slice none 0 0], .pointer (some ⟨p, 0, none⟩)] W5 fun e w3 => ∃ a cap, e = .returned (.tuple #[.slice a 4 cap, .bool true]) ∧ CtsAt w3 a [⟨3, 0, 1⟩, ⟨3, 0, 3⟩, ⟨3, 1, 1⟩, ⟨3, 1, 3⟩] ∧ Below W5.heap.size W5 w3) := cuts_lit HS.out HT2.out Hs2.out (HLe.out _ HB5.out) (c := kcB) ⟨kterms0 _, kints0 _, (fun _ _ _ e => by injection e with _ e1 e2; omega), lit_ints HG5.out rfl (by decide) 3 rfl, krows0 _⟩ rfl knB
  go_upto_region 8 with (go_at_call 10; (try rw [hW5]); refine calls_at HcB.out (by with_reducible rfl) (by with_reducible rfl) ?_; rintro e w6 ⟨a6, cp6, rfl, hA, hb6⟩)
  have HBl : Hid (CtsAt w6 a6 [⟨3, 0, 1⟩, ⟨3, 0, 3⟩, ⟨3, 1, 1⟩, ⟨3, 1, 3⟩]) := hA
  have HB6 : Hid (Below W3.heap.size W3 w6) := bl_next HB5.out hb6
  have HL6 : Hid (Below w4.heap.size w4 w6) := bl_next HL5.out hb6
  clear hA hb6 HcB hW5 HG5
  go_upto_region 9 with (go_at_call 10; refine calls_at (HcC.out w6 HB6.out) (by with_reducible rfl) (by with_reducible rfl) ?_; rintro e w7 ⟨a7, cp7, rfl, _, hb7⟩)
  have HB7 : Hid (Below W3.heap.size W3 w7) := bl_next HB6.out hb7
  have HL7 : Hid (Below w6.heap.size w6 w7) := hb7
  clear hb7 HcC
  obtain ⟨W8, hW8⟩ : ∃ W8, w7.alloc (.cells #[.int .i64 1, .int .i64 1] 62) = W8 := ⟨_, rfl⟩
  have HB8 : Hid (Below W3.heap.size W3 W8) := by rw [← hW8]; exact HB7.out.alloc HB7.out.size _
  have HL8 : Hid (Below w6.heap.size w6 W8) := by rw [← hW8]; exact HL7.out.alloc HL7.out.size _
  have HG8 : Hid (W8.heap[w7.heap.size]? = some (.cells #[.int .i64 1, .int .i64 1] 62 (0, 0))) := by rw [← hW8]; exact heap_alloc_new w7 _
  have HcE : Hid (Calls Tryz.prog 10 #[.agg #[.int .i64 7, .int .i64 0, .slice (some ⟨w7.heap.size, 0, none⟩) 1 1, .int .i64 3, .int .i64 0, .int .i64 0, .int .i64 0, .slice none 0 0, .slice none 0 0, .slice none 0 0], .pointer (some ⟨p, 0, none⟩)] W8 fun e w3 => ∃ a cap, e = .returned (.tuple #[.slice a 2 cap, .bool true]) ∧ CtsAt w3 a [⟨1, 0, 1⟩, ⟨2, 0, 1⟩] ∧ Below W8.heap.size W8 w3) := cuts_lit HS.out HT2.out Hs2.out (HLe.out _ HB8.out) (c := kcE) ⟨lit_terms1 HG8.out, kints0 _, (fun _ _ _ e => by injection e with _ e1 e2; omega), kints0 _, krows0 _⟩ rfl knE
  go_upto_region 10 with (go_at_call 10; (try rw [hW8]); refine calls_at HcE.out (by with_reducible rfl) (by with_reducible rfl) ?_; rintro e w9 ⟨a9, cp9, rfl, hA, hb9⟩)
  have HEl : Hid (CtsAt w9 a9 [⟨1, 0, 1⟩, ⟨2, 0, 1⟩]) := hA
  have HB9 : Hid (Below W3.heap.size W3 w9) := bl_next HB8.out hb9
  have HL9 : Hid (Below w6.heap.size w6 w9) := bl_next HL8.out hb9
  clear hA hb9 HcE hW8 HG8
  obtain ⟨V1, hV1⟩ : ∃ V, w9.alloc (.cells #[.int .i64 0, .int .i64 1] 3) = V := ⟨_, rfl⟩
  obtain ⟨V2, hV2⟩ : ∃ V, V1.alloc (.cells #[.int .i64 0, .int .i64 1] 3) = V := ⟨_, rfl⟩
  obtain ⟨V3, hV3⟩ : ∃ V, V2.alloc (.cells #[.int .i64 3, .int .i64 3] 3) = V := ⟨_, rfl⟩
  obtain ⟨V4, hV4⟩ : ∃ V, V3.alloc (.cells #[.int .i64 9, .int .i64 0] 3) = V := ⟨_, rfl⟩
  obtain ⟨V5, hV5⟩ : ∃ V, V4.alloc (.cells #[.slice (some ⟨V1.heap.size, 0, none⟩) 2 2, .slice (some ⟨V2.heap.size, 0, none⟩) 2 2, .slice (some ⟨V3.heap.size, 0, none⟩) 2 2] 28) = V := ⟨_, rfl⟩
  have b1 : Below w9.heap.size w9 V1 := by rw [← hV1]; exact (Below.refl _ _).alloc (Nat.le_refl _) _
  have b2 : Below V1.heap.size V1 V2 := by rw [← hV2]; exact (Below.refl _ _).alloc (Nat.le_refl _) _
  have b3 : Below V2.heap.size V2 V3 := by rw [← hV3]; exact (Below.refl _ _).alloc (Nat.le_refl _) _
  have b4 : Below V3.heap.size V3 V4 := by rw [← hV4]; exact (Below.refl _ _).alloc (Nat.le_refl _) _
  have b5 : Below V4.heap.size V4 V5 := by rw [← hV5]; exact (Below.refl _ _).alloc (Nat.le_refl _) _
  have g1 : V1.heap[w9.heap.size]? = some (.cells #[.int .i64 0, .int .i64 1] 3 (0, 0)) := by rw [← hV1]; exact heap_alloc_new w9 _
  have g2 : V2.heap[V1.heap.size]? = some (.cells #[.int .i64 0, .int .i64 1] 3 (0, 0)) := by rw [← hV2]; exact heap_alloc_new V1 _
  have g3 : V3.heap[V2.heap.size]? = some (.cells #[.int .i64 3, .int .i64 3] 3 (0, 0)) := by rw [← hV3]; exact heap_alloc_new V2 _
  have g4 : V4.heap[V3.heap.size]? = some (.cells #[.int .i64 9, .int .i64 0] 3 (0, 0)) := by rw [← hV4]; exact heap_alloc_new V3 _
  have g5 : V5.heap[V4.heap.size]? = some (.cells #[.slice (some ⟨V1.heap.size, 0, none⟩) 2 2, .slice (some ⟨V2.heap.size, 0, none⟩) 2 2, .slice (some ⟨V3.heap.size, 0, none⟩) 2 2] 28 (0, 0)) := by rw [← hV5]; exact heap_alloc_new V4 _
  have i1 : IntsAt V5 (.slice (some ⟨w9.heap.size, 0, none⟩) 2 2) [0, 1] := ((((lit_ints g1 rfl (by decide) 2 rfl).below b2).below b3).below b4).below b5
  have i2 : IntsAt V5 (.slice (some ⟨V1.heap.size, 0, none⟩) 2 2) [0, 1] := (((lit_ints g2 rfl (by decide) 2 rfl).below b3).below b4).below b5
  have i3 : IntsAt V5 (.slice (some ⟨V2.heap.size, 0, none⟩) 2 2) [3, 3] := ((lit_ints g3 rfl (by decide) 2 rfl).below b4).below b5
  have i4 : IntsAt V5 (.slice (some ⟨V3.heap.size, 0, none⟩) 2 2) [9, 0] := (lit_ints g4 rfl (by decide) 2 rfl).below b5
  have bV : Below w9.heap.size w9 V5 := bl_next (bl_next (bl_next (bl_next b1 b2) b3) b4) b5
  have HBV : Hid (Below W3.heap.size W3 V5) := bl_next HB9.out bV
  have HLV : Hid (Below w9.heap.size w9 V5) := bV
  have HcF : Hid (Calls Tryz.prog 10 #[.agg #[.int .i64 8, .int .i64 0, .slice none 0 0, .int .i64 0, .int .i64 0, .int .i64 0, .int .i64 0, .slice (some ⟨w9.heap.size, 0, none⟩) 2 2, .slice none 0 0, .slice (some ⟨V4.heap.size, 0, none⟩) 3 3], .pointer (some ⟨p, 0, none⟩)] V5 fun e w3 => ∃ a cap, e = .returned (.tuple #[.slice a 4 cap, .bool true]) ∧ CtsAt w3 a [⟨3, 0, 1⟩, ⟨3, 0, 2⟩, ⟨3, 1, 0⟩, ⟨3, 1, 2⟩] ∧ Below V5.heap.size V5 w3) := cuts_lit HS.out HT2.out Hs2.out (HLe.out _ HBV.out) (c := kcF) ⟨kterms0 _, i1, (fun _ _ _ e => by injection e with _ e1 e2; omega), kints0 _, lit_rows3 g5 i2 i3 i4⟩ rfl knF
  clear b1 b2 b3 b4 b5 g1 g2 g3 g4 g5 i1 i2 i3 i4 bV
  go_upto_region 11 with (go_at_call 10; refine calls_at HcF.out (by with_reducible rfl) (by with_reducible rfl) ?_; rintro e w10 ⟨a10, cp10, rfl, hA, hb10⟩)
  have HFl : Hid (CtsAt w10 a10 [⟨3, 0, 1⟩, ⟨3, 0, 2⟩, ⟨3, 1, 0⟩, ⟨3, 1, 2⟩]) := hA
  have HB10 : Hid (Below W3.heap.size W3 w10) := bl_next HBV.out hb10
  have HL10 : Hid (Below w9.heap.size w9 w10) := bl_next HLV.out hb10
  clear hA hb10 HcF hV1 hV2 hV3 hV4 hV5
  obtain ⟨X1, hX1⟩ : ∃ V, w10.alloc (.cells #[.int .i64 0, .int .i64 1, .int .i64 1] 3) = V := ⟨_, rfl⟩
  have HBX : Hid (Below W3.heap.size W3 X1) := by rw [← hX1]; exact HB10.out.alloc HB10.out.size _
  have HLX : Hid (Below w10.heap.size w10 X1) := by rw [← hX1]; exact (Below.refl _ _).alloc (Nat.le_refl _) _
  have HGX : Hid (X1.heap[w10.heap.size]? = some (.cells #[.int .i64 0, .int .i64 1, .int .i64 1] 3 (0, 0))) := by rw [← hX1]; exact heap_alloc_new w10 _
  have HcG : Hid (Calls Tryz.prog 10 #[.agg #[.int .i64 9, .int .i64 3, .slice none 0 0, .int .i64 2, .int .i64 2, .int .i64 0, .int .i64 0, .slice (some ⟨w10.heap.size, 0, none⟩) 3 3, .slice none 0 0, .slice none 0 0], .pointer (some ⟨p, 0, none⟩)] X1 fun e w3 => ∃ a cap, e = .returned (.tuple #[.slice a 2 cap, .bool true]) ∧ CtsAt w3 a [⟨1, 1, 2⟩, ⟨2, 1, 2⟩] ∧ Below X1.heap.size X1 w3) := cuts_lit HS.out HT2.out Hs2.out (HLe.out _ HBX.out) (c := kcG) ⟨kterms0 _, lit_ints HGX.out rfl (by decide) 3 rfl, (fun _ _ _ e => by injection e with _ e1 e2; omega), kints0 _, krows0 _⟩ rfl knG
  go_upto_region 12 with (go_at_call 10; (try rw [hX1]); refine calls_at HcG.out (by with_reducible rfl) (by with_reducible rfl) ?_; rintro e w11 ⟨a11, cp11, rfl, hA, hb11⟩)
  have HGl : Hid (CtsAt w11 a11 [⟨1, 1, 2⟩, ⟨2, 1, 2⟩]) := hA
  have HB11 : Hid (Below W3.heap.size W3 w11) := bl_next HBX.out hb11
  have HL11 : Hid (Below w10.heap.size w10 w11) := bl_next HLX.out hb11
  clear hA hb11 HcG hX1 HGX
  have HE11 : Hid (CtsAt w11 a9 [⟨1, 0, 1⟩, ⟨2, 0, 1⟩]) := (HEl.out.below HL10.out).below HL11.out
  have HF11 : Hid (CtsAt w11 a10 [⟨3, 0, 1⟩, ⟨3, 0, 2⟩, ⟨3, 1, 0⟩, ⟨3, 1, 2⟩]) := HFl.out.below HL11.out
  have HBl11 : Hid (CtsAt w11 a6 [⟨3, 0, 1⟩, ⟨3, 0, 3⟩, ⟨3, 1, 1⟩, ⟨3, 1, 3⟩]) := ((HBl.out.below HL9.out).below HL10.out).below HL11.out
  have HA11 : Hid (CtsAt w11 a4 [⟨1, 0, 2⟩, ⟨1, 1, 2⟩]) := (((HA.out.below HL6.out).below HL9.out).below HL10.out).below HL11.out
  have HW11 : Hid (Below w.heap.size w w11) := bl_next HB2.out (HLe.out _ HB11.out)
  clear HA HBl HEl HFl HL5 HL6 HL7 HL8 HL9 HL10 HL11 HLX HLV HBV HBX HB3 HB4 HB5 HB6 HB7 HB8 HB9 HB10 HB11 HG3 HGt HLe HS HT2 Hs2 HB0 HsW HB2
  have S12 : Hid (Calls Tryz.prog 25 #[.slice a10 4 cp10, .slice (some ⟨w11.heap.size, 0, none⟩) 4 4] (w11.alloc (.cells #[.int .i64 3, .int .i64 0, .int .i64 1, .int .i64 3, .int .i64 0, .int .i64 2, .int .i64 3, .int .i64 1, .int .i64 0, .int .i64 3, .int .i64 1, .int .i64 2] 46)) fun e w' => e = .returned (.bool true) ∧ Below w11.heap.size w11 w') := same_lit HF11.out rfl (by decide) 4 rfl
  have S13 : Hid (∀ w', Below w11.heap.size w11 w' → Calls Tryz.prog 25 #[.slice a11 2 cp11, .slice (some ⟨w'.heap.size, 0, none⟩) 2 2] (w'.alloc (.cells #[.int .i64 1, .int .i64 1, .int .i64 2, .int .i64 2, .int .i64 1, .int .i64 2] 46)) fun e w2 => e = .returned (.bool true) ∧ Below w'.heap.size w' w2) := fun w' hb => same_lit (HGl.out.below hb) rfl (by decide) 2 rfl
  have S14 : Hid (∀ w', Below w11.heap.size w11 w' → Calls Tryz.prog 25 #[.slice a4 2 cp4, .slice (some ⟨w'.heap.size, 0, none⟩) 2 2] (w'.alloc (.cells #[.int .i64 1, .int .i64 0, .int .i64 2, .int .i64 1, .int .i64 1, .int .i64 2] 46)) fun e w2 => e = .returned (.bool true) ∧ Below w'.heap.size w' w2) := fun w' hb => same_lit (HA11.out.below hb) rfl (by decide) 2 rfl
  have S15 : Hid (∀ w', Below w11.heap.size w11 w' → Calls Tryz.prog 25 #[.slice a6 4 cp6, .slice (some ⟨w'.heap.size, 0, none⟩) 4 4] (w'.alloc (.cells #[.int .i64 3, .int .i64 0, .int .i64 1, .int .i64 3, .int .i64 0, .int .i64 3, .int .i64 3, .int .i64 1, .int .i64 1, .int .i64 3, .int .i64 1, .int .i64 3] 46)) fun e w2 => e = .returned (.bool true) ∧ Below w'.heap.size w' w2) := fun w' hb => same_lit (HBl11.out.below hb) rfl (by decide) 4 rfl
  have S16 : Hid (∀ w', Below w11.heap.size w11 w' → Calls Tryz.prog 25 #[.slice a9 2 cp9, .slice (some ⟨w'.heap.size, 0, none⟩) 2 2] (w'.alloc (.cells #[.int .i64 1, .int .i64 0, .int .i64 1, .int .i64 2, .int .i64 0, .int .i64 1] 46)) fun e w2 => e = .returned (.bool true) ∧ Below w'.heap.size w' w2) := fun w' hb => same_lit (HE11.out.below hb) rfl (by decide) 2 rfl
  clear HE11 HF11 HBl11 HA11 HGl
  go_upto_region 14 with (first | (go_at_call 25; refine calls_at S12.out (by with_reducible rfl) (by with_reducible rfl) ?_; rintro e w12 ⟨rfl, hb12⟩; (have HB12 : Hid (Below w11.heap.size w11 w12) := hb12); clear hb12) | (go_at_call 25; refine calls_at (S13.out w12 HB12.out) (by with_reducible rfl) (by with_reducible rfl) ?_; rintro e w13 ⟨rfl, hb13⟩; (have HB13 : Hid (Below w11.heap.size w11 w13) := bl_next HB12.out hb13); clear hb13))
  go_wp2_with (first | (go_at_call 25; refine calls_at (S14.out w13 HB13.out) (by with_reducible rfl) (by with_reducible rfl) ?_; rintro e w14 ⟨rfl, hb14⟩; (have HB14 : Hid (Below w11.heap.size w11 w14) := bl_next HB13.out hb14); clear hb14) | (go_at_call 25; refine calls_at (S15.out w14 HB14.out) (by with_reducible rfl) (by with_reducible rfl) ?_; rintro e w15 ⟨rfl, hb15⟩; (have HB15 : Hid (Below w11.heap.size w11 w15) := bl_next HB14.out hb15); clear hb15) | (go_at_call 25; refine calls_at (S16.out w15 HB15.out) (by with_reducible rfl) (by with_reducible rfl) ?_; rintro e w16 ⟨rfl, hb16⟩; (have HB16 : Hid (Below w11.heap.size w11 w16) := bl_next HB15.out hb16); clear hb16))
  go_ret
  exact ⟨rfl, bl_next HW11.out HB16.out⟩
end Go.Proofs.YtlcegpnnanhloaaGreatDoor

namespace Go.Proofs.YtlcegpnnanhloaaGreatDoor
open Go.RowKit

theorem cutR_len (D : List Dm) (c : Md.Cn) (h : D.length ≤ 32) : (cutR D c).1.length ≤ 1000000 := by
  unfold cutR
  split
  · split
    · exact Nat.zero_le _
    · have := cutsUpto_len (by assumption) D D.length
      show (cutsUpto _ D D.length).length ≤ _
      omega
  · exact Nat.zero_le _
theorem vs_ints {L : List Int} {B : Nat} {v : Value} {w : World} (h : w.ownsRow B 3 1 v L.length (L.map (.int .i64))) : IntsAt w v L := own_ints' h (by have := own_max h; unfold maxLen; omega)
/-- P12.10, at a store behind cuts. -/
theorem safe_fin (m : Md.Mo) (L : List Ct) (c : Md.Cn) (ins : List Int) : (!(Md.holds c (wiL (foldC (newS m) L).now ins (foldC (newS m) L).now.length)) || ((cutR (foldC (newS m) L).now c).2 && leftB (cutR (foldC (newS m) L).now c).1 (wiL (foldC (newS m) L).now ins (foldC (newS m) L).now.length))) = true := by
  have hA := (fold_less L (alls_new m)).1
  have hf := fines_alls hA
  have hl := wi_lies hf ins
  cases hh : Md.holds c (wiL (foldC (newS m) L).now ins (foldC (newS m) L).now.length)
  · rfl
  · unfold Md.holds at hh
    rw [Bool.and_eq_true, Bool.and_eq_true, decide_eq_true_eq] at hh
    obtain ⟨⟨h1, h2⟩, h3⟩ := hh
    rw [hl.len] at h1
    obtain ⟨a, b⟩ := cutR_safe hf hl h1 h3
    rw [a, b]
    rfl

set_option maxRecDepth 10000 in
set_option maxHeartbeats 4000000 in
theorem propSafe_walk (m : Md.Mo) (vv vc vg : Value) (a : Option Addr) (cap : Nat) (L : List Ct) (c : Md.Cn) (vt vx vb vr : Value) (ia : Option Addr) (ic : Nat) (ins : List Int) (w : World) (hM : MoAt w m vv vc vg) (hL : ∀ w', Below w.heap.size w w' → CtsAt w' a L) (hC : CnAt w c vt vx vb vr) (hI : IntsAt w (.slice ia ins.length ic) ins) (hn : L.length + ins.length ≤ 9223372036854775807) (hT : Tz w) (hs : 0 < w.heap.size) : Calls Tryz.prog 3 #[moVal m vv vc vg, .slice a L.length cap, cnVal c vt vx vb vr, .slice ia ins.length ic] w fun e w' => e = .returned (.bool true) ∧ Below w.heap.size w w' := by
  obtain ⟨W, hW⟩ : ∃ W, (w.alloc (.cells #[vv, vc, .bool m.has, vg] 26)).alloc (.cells #[.int .i64 c.kind, .int .i64 c.op, vt, .int .i64 c.k, .int .i64 c.v, .int .i64 c.x, .int .i64 c.y, vx, vb, vr] 31) = W := ⟨_, rfl⟩
  have hb0 : Below w.heap.size w W := by rw [← hW]; exact ((Below.refl _ _).alloc (Nat.le_refl _) _).alloc (by simp) _
  have g0 : W.heap[w.heap.size]? = some (.cells #[vv, vc, .bool m.has, vg] 26 (0, 0)) := by rw [← hW, heap_alloc_old (w.alloc _) _ (by simp)]; exact heap_alloc_new w _
  have g1 : W.heap[w.heap.size + 1]? = some (.cells #[.int .i64 c.kind, .int .i64 c.op, vt, .int .i64 c.k, .int .i64 c.v, .int .i64 c.x, .int .i64 c.y, vx, vb, vr] 31 (0, 0)) := by rw [← hW]; exact heap_alloc2_new w _ _
  have HWs : Hid (∀ w', Below W.heap.size W w' → Below w.heap.size w w') := fun w' hb => hb0.trans (hb.mono hb0.size)
  have hsW : 0 < W.heap.size := Nat.lt_of_lt_of_le hs hb0.size
  have HF : Hid (Calls Tryz.prog 6 #[.agg #[vv, vc, .bool m.has, vg], .agg #[.int .i64 c.kind, .int .i64 c.op, vt, .int .i64 c.k, .int .i64 c.v, .int .i64 c.x, .int .i64 c.y, vx, vb, vr], .slice a L.length cap, .slice ia ins.length ic] W fun e w' => (∃ b : Bool, e = .returned (.bool b) ∧ (b = true → L.length + ins.length ≤ 20000)) ∧ Below W.heap.size W w') := few_any m vv vc vg c vt vx vb vr a ia L.length ins.length cap ic W (hM.below hb0) (hC.below hb0) hn
  have HK : Hid (∀ w', Below W.heap.size W w' → Calls Tryz.prog 7 #[] w' fun e w2 => e = .returned (.bool true) ∧ Below w'.heap.size w' w2) := fun w' hb => known_any w' ((hT.below hb0 hs).below hb hsW) (Nat.lt_of_lt_of_le hsW hb.size)
  have HBh : Hid (∀ w', Below W.heap.size W w' → Calls Tryz.prog 8 #[.agg #[vv, vc, .bool m.has, vg], .slice a L.length cap] w' (BhOut m L w')) := fun w' hb => behind_any m vv vc vg a cap L w' (hM.below (HWs.out w' hb)) (Nat.lt_of_lt_of_le hsW hb.size) (hL w' (HWs.out w' hb)) (by omega)
  have HTz : Hid (∀ w', Below W.heap.size W w' → Tz w') := fun w' hb => (hT.below hb0 hs).below hb hsW
  have HWi : Hid (∀ B p nv mv s w', Below W.heap.size W w' → StAt B w' p nv mv s → Calls Tryz.prog 9 #[.pointer (some ⟨p, 0, none⟩), .slice ia ins.length ic] w' (VsOut (wiL s.now ins s.now.length) w')) := fun B p nv mv s w' hb hS => within_any B p nv mv s w' hS (HTz.out w' hb) (Nat.lt_of_lt_of_le hsW hb.size) _ ins (hI.below (HWs.out w' hb))
  have HCu : Hid (∀ B p nv mv s w', Below W.heap.size W w' → StAt B w' p nv mv s → Calls Tryz.prog 10 #[.agg #[.int .i64 c.kind, .int .i64 c.op, vt, .int .i64 c.k, .int .i64 c.v, .int .i64 c.x, .int .i64 c.y, vx, vb, vr], .pointer (some ⟨p, 0, none⟩)] w' fun e w3 => ∃ a cap, e = .returned (.tuple #[.slice a (cutR s.now c).1.length cap, .bool (cutR s.now c).2]) ∧ CtsAt w3 a (cutR s.now c).1 ∧ Below w'.heap.size w' w3) := fun B p nv mv s w' hb hS => cuts_lit hS (HTz.out w' hb) (Nat.lt_of_lt_of_le hsW hb.size) (Below.refl _ _) (hC.below (HWs.out w' hb)) rfl rfl
  have HH : Hid (∀ v vs w', Below W.heap.size W w' → IntsAt w' v vs → Calls Tryz.prog 11 #[.agg #[.int .i64 c.kind, .int .i64 c.op, vt, .int .i64 c.k, .int .i64 c.v, .int .i64 c.x, .int .i64 c.y, vx, vb, vr], v] w' fun e w2 => e = .returned (.bool (Md.holds c vs)) ∧ Below w'.heap.size w' w2) := fun v vs w' hb hv => Holds_any c vt vx vb vr v vs w' (hC.below (HWs.out w' hb)) hv
  have HGc : Hid (∀ w', Below W.heap.size W w' → (w'.cell? ⟨w.heap.size, 0, none⟩ = some vv ∧ w'.cell? ⟨w.heap.size, 1, none⟩ = some vc ∧ w'.cell? ⟨w.heap.size, 2, none⟩ = some (.bool m.has) ∧ w'.cell? ⟨w.heap.size, 3, none⟩ = some vg) ∧ (w'.cell? ⟨w.heap.size + 1, 0, none⟩ = some (.int .i64 c.kind) ∧ w'.cell? ⟨w.heap.size + 1, 1, none⟩ = some (.int .i64 c.op) ∧ w'.cell? ⟨w.heap.size + 1, 2, none⟩ = some vt ∧ w'.cell? ⟨w.heap.size + 1, 3, none⟩ = some (.int .i64 c.k) ∧ w'.cell? ⟨w.heap.size + 1, 4, none⟩ = some (.int .i64 c.v) ∧ w'.cell? ⟨w.heap.size + 1, 5, none⟩ = some (.int .i64 c.x) ∧ w'.cell? ⟨w.heap.size + 1, 6, none⟩ = some (.int .i64 c.y) ∧ w'.cell? ⟨w.heap.size + 1, 7, none⟩ = some vx ∧ w'.cell? ⟨w.heap.size + 1, 8, none⟩ = some vb ∧ w'.cell? ⟨w.heap.size + 1, 9, none⟩ = some vr)) := fun w' hb => by
    have e0 := (hb.block _ (Array.getElem?_eq_some_iff.1 g0).1).trans g0
    have e1 := (hb.block _ (Array.getElem?_eq_some_iff.1 g1).1).trans g1
    exact ⟨⟨cell_of e0 0, cell_of e0 1, cell_of e0 2, cell_of e0 3⟩, cn_cells e1⟩
  have HFin : Hid (∀ D, D = (foldC (newS m) L).now → (!(Md.holds c (wiL D ins D.length)) || ((cutR D c).2 && leftB (cutR D c).1 (wiL D ins D.length))) = true) := fun D e => by subst e; exact safe_fin m L c ins
  have HB0 : Hid (Below w.heap.size w W) := hb0
  have hmv : moVal m vv vc vg = .agg #[vv, vc, .bool m.has, vg] := rfl
  have hcv : cnVal c vt vx vb vr = .agg #[.int .i64 c.kind, .int .i64 c.op, vt, .int .i64 c.k, .int .i64 c.v, .int .i64 c.x, .int .i64 c.y, vx, vb, vr] := rfl
  rw [hmv, hcv]
  obtain ⟨⟨p0, p1, p2, p3⟩, q0, q1, q2, q3, q4, q5, q6, q7, q8, q9⟩ := HGc.out W (Below.refl _ _)
  clear hM hL hC hI hT hs hb0 g0 g1 hsW hmv hcv
  go_enter Tryz.func3, Tryz.ntmps3
  go_upto_region 1 with fail
  try rw [hW]
  clear hW
  go_upto_if 18 with (go_at_call 6; refine calls_at HF.out (by with_reducible rfl) (by with_reducible rfl) ?_; rintro e w1 ⟨⟨b1, rfl, hb1n⟩, hb1⟩)
  have HB1 : Hid (Below W.heap.size W w1) := hb1
  clear hb1 HF
  cases b1 with
  | false =>
    go_wp2_with fail
    go_ret
    exact ⟨rfl, HWs.out _ HB1.out⟩
  | true =>
  have hlen : L.length + ins.length ≤ 20000 := hb1n rfl
  clear hb1n p0 p1 p2 p3 q0 q1 q2 q3 q4 q5 q6 q7 q8 q9
  go_upto_region 5 with (go_at_call 7; refine calls_at (HK.out w1 HB1.out) (by with_reducible rfl) (by with_reducible rfl) ?_; rintro e w2 ⟨rfl, hb2⟩)
  have HB2 : Hid (Below W.heap.size W w2) := bl_next HB1.out hb2
  clear hb2 HK HB1
  obtain ⟨⟨p0, p1, p2, p3⟩, _⟩ := HGc.out w2 HB2.out
  go_upto_region 8 with (go_at_call 8; refine calls_at (HBh.out w2 HB2.out) (by with_reducible rfl) (by with_reducible rfl) ?_; rintro e w3 ⟨B, p, nv, mv, hB, rfl, hS3, hb3⟩)
  have HB3 : Hid (Below W.heap.size W w3) := bl_next HB2.out hb3
  obtain ⟨s, hse⟩ : ∃ s, foldC (newS m) L = s := ⟨_, rfl⟩
  rw [hse] at hS3
  have HFs := HFin.out s.now (by rw [hse])
  have HS : Hid (StAt B w3 p nv mv s) := hS3
  have HN32 : Hid (s.now.length ≤ 32) := hS3.n32
  have HW3 := HWi.out B p nv mv s w3 HB3.out hS3
  obtain ⟨vs, hvs⟩ : ∃ vs, wiL s.now ins s.now.length = vs := ⟨_, rfl⟩
  rw [hvs] at HFs HW3
  have HW3' : Hid (Calls Tryz.prog 9 #[.pointer (some ⟨p, 0, none⟩), .slice ia ins.length ic] w3 (VsOut vs w3)) := HW3
  clear HW3 hvs hse hS3 hb3 hB HBh HFin HWi p0 p1 p2 p3
  go_upto_region 9 with (go_at_call 9; refine calls_at HW3'.out (by with_reducible rfl) (by with_reducible rfl) ?_; rintro e w4 ⟨uv, rfl, ho4, hb4⟩)
  have HB4 : Hid (Below W.heap.size W w4) := bl_next HB3.out hb4
  have HV4 : Hid (IntsAt w4 uv vs) := vs_ints ho4
  have HS4 : Hid (StAt B w4 p nv mv s) := HS.out.below hb4
  clear ho4 hb4 HW3'
  have hR := cutR_len s.now c HN32.out
  obtain ⟨R, hRe⟩ : ∃ R, cutR s.now c = R := ⟨_, rfl⟩
  have HC4 := HCu.out B p nv mv s w4 HB4.out HS4.out
  rw [hRe] at HC4 HFs hR
  obtain ⟨Rl, Rb⟩ := R
  dsimp only at HC4 HFs hR
  have HC4' : Hid (Calls Tryz.prog 10 #[.agg #[.int .i64 c.kind, .int .i64 c.op, vt, .int .i64 c.k, .int .i64 c.v, .int .i64 c.x, .int .i64 c.y, vx, vb, vr], .pointer (some ⟨p, 0, none⟩)] w4 fun e w3 => ∃ a cap, e = .returned (.tuple #[.slice a Rl.length cap, .bool Rb]) ∧ CtsAt w3 a Rl ∧ Below w4.heap.size w4 w3) := HC4
  have HRl : Hid (Rl.length ≤ 1000000) := hR
  have HFs' : Hid ((!(Md.holds c vs) || (Rb && leftB Rl vs)) = true) := HFs
  clear HC4 hRe hR HFs HCu
  obtain ⟨_, q0, q1, q2, q3, q4, q5, q6, q7, q8, q9⟩ := HGc.out w4 HB4.out
  go_upto_region 10 with (go_at_call 10; refine calls_at HC4'.out (by with_reducible rfl) (by with_reducible rfl) ?_; rintro e w5 ⟨a5, cp5, rfl, hc5, hb5⟩)
  have HB5 : Hid (Below W.heap.size W w5) := bl_next HB4.out hb5
  have HV5 : Hid (IntsAt w5 uv vs) := HV4.out.below hb5
  have HC5 : Hid (CtsAt w5 a5 Rl) := hc5
  have HH5 := HH.out uv vs w5 HB5.out HV5.out
  obtain ⟨hr, hhr⟩ : ∃ r, Md.holds c vs = r := ⟨_, rfl⟩
  rw [hhr] at HH5 HFs'
  have HH5' : Hid (Calls Tryz.prog 11 #[.agg #[.int .i64 c.kind, .int .i64 c.op, vt, .int .i64 c.k, .int .i64 c.v, .int .i64 c.x, .int .i64 c.y, vx, vb, vr], uv] w5 fun e w2 => e = .returned (.bool hr) ∧ Below w5.heap.size w5 w2) := HH5
  clear hb5 hc5 HH5 hhr HH HC4' q0 q1 q2 q3 q4 q5 q6 q7 q8 q9
  obtain ⟨_, q0, q1, q2, q3, q4, q5, q6, q7, q8, q9⟩ := HGc.out w5 HB5.out
  cases hr with
  | false =>
    go_wp2_with (go_at_call 11; refine calls_at HH5'.out (by with_reducible rfl) (by with_reducible rfl) ?_; rintro e w6 ⟨rfl, hb6⟩)
    go_ret
    exact ⟨rfl, HWs.out _ (bl_next HB5.out hb6)⟩
  | true =>
    have hf2 : (Rb && leftB Rl vs) = true := by simpa using HFs'.out
    rw [Bool.and_eq_true] at hf2
    obtain ⟨rfl, hlf⟩ := hf2
    have HLf : Hid (∀ w', Below w5.heap.size w5 w' → Calls Tryz.prog 12 #[.slice a5 Rl.length cp5, uv] w' fun e w2 => e = .returned (.bool true) ∧ Below w'.heap.size w' w2) := fun w' hb => by
      have := leftL_any a5 cp5 Rl uv vs w' (HC5.out.below hb) HRl.out (HV5.out.below hb)
      rw [hlf] at this
      exact this
    clear hlf HFs'
    go_wp2_with (first | (go_at_call 11; refine calls_at HH5'.out (by with_reducible rfl) (by with_reducible rfl) ?_; rintro e w6 ⟨rfl, hb6⟩; (have HB6 : Hid (Below w5.heap.size w5 w6) := hb6); clear hb6) | (go_at_call 12; refine calls_at (HLf.out w6 HB6.out) (by with_reducible rfl) (by with_reducible rfl) ?_; rintro e w7 ⟨rfl, hb7⟩))
    go_ret
    exact ⟨rfl, HWs.out _ (bl_next (bl_next HB5.out HB6.out) hb7)⟩
end Go.Proofs.YtlcegpnnanhloaaGreatDoor
