/-
  Put together: HlKnown, HlLessW.
-/
import Derived.Test.YtemnbcilmbojhaaGreatDoorJ48
import Derived.Test.YtemnbcilmbojhaaGreatDoorJ47
import Derived.Test.YtemnbcilmbojhaaGreatDoorJ44
namespace Go.Proofs.YtemnbcilmbojhaaGreatDoor
open Go.RowKit

theorem alls_k : Alls kS := by
  have := alls_new kM
  rw [knS] at this
  exact this
theorem hc_lit {B p N : Nat} {nv mv : Value} {w2 w' : World} {xs : List Int} {cs : Array Value} (hS : StAt B w2 p nv mv kS) (hT : Tz w2) (hs : 0 < w2.heap.size) (hb : Below w2.heap.size w2 w') (hg : w'.heap[N]? = some (.cells cs 3 (0, 0))) (hc : cs = (xs.map (.int .i64)).toArray) (hl : xs.length ≤ 1000) (n : Nat) (hn : n = xs.length) : Calls Tryz.prog 9 #[.slice (some ⟨N, 0, none⟩) n n, .pointer (some ⟨p, 0, none⟩)] w' (HcOut kD xs w') := by
  subst hn
  exact cutsH_any _ _ xs B p nv mv kS w' (lit_ints hg hc hl _ rfl) (by omega) (hS.below hb) (hT.below hb hs) (Nat.lt_of_lt_of_le hs hb.size) (fun d hd => fine_of (alls_k d hd).1 (alls_k d hd).2) (width alls_k)
theorem hf_lit {B p N : Nat} {nv mv : Value} {w2 w' : World} {xs : List Int} {cs : Array Value} (hS : StAt B w2 p nv mv kS) (hT : Tz w2) (hs : 0 < w2.heap.size) (hb : Below w2.heap.size w2 w') (hg : w'.heap[N]? = some (.cells cs 3 (0, 0))) (hc : cs = (xs.map (.int .i64)).toArray) (hl : xs.length ≤ 1000) (n : Nat) (hn : n = xs.length) : Calls Tryz.prog 10 #[.slice (some ⟨N, 0, none⟩) n n, .pointer (some ⟨p, 0, none⟩)] w' (HfOut kD xs w') := by
  subst hn
  exact fails_any _ _ xs B p nv mv kS w' (lit_ints hg hc hl _ rfl) (by omega) (hS.below hb) (hT.below hb hs) (Nat.lt_of_lt_of_le hs hb.size)
theorem hcA {w : World} {e : Ending} {w' : World} (h : HcOut kD [0, 1, 2, 3] w e w') : ∃ a cap, e = .returned (.tuple #[.slice a 3 cap, .bool true]) ∧ ZsAt w' a kZ ∧ Below w.heap.size w w' := by
  obtain ⟨Gs, hp, hs, hb, h⟩ := h
  obtain ⟨k1, k2⟩ := kzG hp hs
  rcases h with ⟨h1, _⟩ | ⟨_, v, us, rfl, hz⟩
  · rw [k2] at h1
    cases h1
  · rw [k1] at hz
    obtain ⟨a, cap, rfl, hh⟩ := hz.zs (by decide)
    exact ⟨a, cap, rfl, hh, hb⟩
theorem hcB {w : World} {e : Ending} {w' : World} (h : HcOut kD [0, 1, 0] w e w') : e = .returned (.tuple #[.slice none 0 0, .bool false]) ∧ Below w.heap.size w w' := by
  obtain ⟨Gs, hp, hs, hb, h⟩ := h
  obtain ⟨k1, _⟩ := kzH hp
  rcases h with ⟨_, rfl⟩ | ⟨h1, _⟩
  · exact ⟨rfl, hb⟩
  · rw [k1] at h1
    cases h1
theorem hfB {w : World} {e : Ending} {w' : World} (h : HfOut kD [0, 1, 0] w e w') : ∃ a cap, e = .returned (.tuple #[.agg #[.int .i64 1, .int .i64 2, .slice a 3 cap], .bool true]) ∧ IntsAt w' (.slice a 3 cap) [0, 1, 0] ∧ Below w.heap.size w w' := by
  obtain ⟨Gs, hp, hs, hb, h⟩ := h
  obtain ⟨k1, k2⟩ := kzH hp
  rcases h with ⟨h1, _⟩ | ⟨i, hi, _, v, rfl, hI⟩
  · rw [k1] at h1
    cases h1
  · obtain ⟨e1, e2, e3⟩ := k2 i hi
    rw [e3] at hI
    obtain ⟨a, cap, rfl, _⟩ := id hI
    rw [e1, e2]
    exact ⟨a, cap, rfl, hI, hb⟩
set_option maxRecDepth 10000 in
set_option maxHeartbeats 4000000 in
theorem known_any (w : World) (hT : Tz w) (hs : 0 < w.heap.size) : Calls Tryz.prog 7 #[] w fun e w' => e = .returned (.bool true) ∧ Below w.heap.size w w' := by
  obtain ⟨W, hW⟩ : ∃ W, w.alloc (.cells #[.string ⟨#[120]⟩, .int .i64 1, .int .i64 2, .string ⟨#[121]⟩, .int .i64 1, .int .i64 2, .string ⟨#[122]⟩, .int .i64 1, .int .i64 4, .string ⟨#[119]⟩, .int .i64 4, .int .i64 4] 62) = W := ⟨_, rfl⟩
  have hb0 : Below w.heap.size w W := by rw [← hW]; exact (Below.refl _ _).alloc (Nat.le_refl _) _
  have g0 : W.heap[w.heap.size]? = some (.cells #[.string ⟨#[120]⟩, .int .i64 1, .int .i64 2, .string ⟨#[121]⟩, .int .i64 1, .int .i64 2, .string ⟨#[122]⟩, .int .i64 1, .int .i64 4, .string ⟨#[119]⟩, .int .i64 4, .int .i64 4] 62 (0, 0)) := by rw [← hW]; exact heap_alloc_new w _
  have HB0 : Hid (Below w.heap.size w W) := hb0
  have hsW : 0 < W.heap.size := Nat.lt_of_lt_of_le hs hb0.size
  have HN : Hid (Calls Tryz.prog 18 #[.agg #[.slice (some ⟨w.heap.size, 0, none⟩) 4 4, .slice none 0 0, .bool false, .slice none 0 0]] W (NewOut kM W)) := new_any kM _ _ _ W (kM_at g0) hsW
  have HT : Hid (Tz W) := hT.below hb0 hs
  have HsW : Hid (0 < W.heap.size) := hsW
  have HWe : Hid (w.alloc (.cells #[.string ⟨#[120]⟩, .int .i64 1, .int .i64 2, .string ⟨#[121]⟩, .int .i64 1, .int .i64 2, .string ⟨#[122]⟩, .int .i64 1, .int .i64 4, .string ⟨#[119]⟩, .int .i64 4, .int .i64 4] 62) = W) := hW
  clear hb0 g0 hT hs hsW hW
  go_enter Tryz.func7, Tryz.ntmps7
  go_upto_region 4 with (go_at_call 18; rw [HWe.out]; refine calls_at HN.out (by with_reducible rfl) (by with_reducible rfl) ?_; rintro e w2 ⟨p, nv, mv, rfl, hS2, hb2⟩)
  rw [knS] at hS2
  have HS : Hid (StAt W.heap.size w2 p nv mv kS) := hS2
  have HB2 : Hid (Below w.heap.size w w2) := HB0.out.trans (hb2.mono HB0.out.size)
  have HT2 : Hid (Tz w2) := HT.out.below hb2 HsW.out
  have Hs2 : Hid (0 < w2.heap.size) := Nat.lt_of_lt_of_le HsW.out hb2.size
  clear hS2 hb2 HN HT HWe
  obtain ⟨W3, hW3⟩ : ∃ W3, w2.alloc (.cells #[.int .i64 0, .int .i64 1, .int .i64 2, .int .i64 3] 3) = W3 := ⟨_, rfl⟩
  have HB3 : Hid (Below w2.heap.size w2 W3) := by rw [← hW3]; exact (Below.refl _ _).alloc (Nat.le_refl _) _
  have HG3 : Hid (W3.heap[w2.heap.size]? = some (.cells #[.int .i64 0, .int .i64 1, .int .i64 2, .int .i64 3] 3 (0, 0))) := by rw [← hW3]; exact heap_alloc_new w2 _
  have HcA : Hid (Calls Tryz.prog 9 #[.slice (some ⟨w2.heap.size, 0, none⟩) 4 4, .pointer (some ⟨p, 0, none⟩)] W3 (HcOut kD [0, 1, 2, 3] W3)) := hc_lit HS.out HT2.out Hs2.out HB3.out HG3.out rfl (by decide) 4 rfl
  go_upto_region 5 with (go_at_call 9; (try rw [hW3]); refine calls_at HcA.out (by with_reducible rfl) (by with_reducible rfl) ?_; intro e w4 hh; (obtain ⟨a4, c4, h1, h2, h3⟩ := hcA hh); subst h1)
  have HZ4 : Hid (ZsAt w4 a4 kZ) := h2
  have HB4 : Hid (Below w2.heap.size w2 w4) := bl_next HB3.out h3
  clear h2 h3 hh HcA hW3 HG3 HB3
  obtain ⟨W5, hW5⟩ : ∃ W5, w4.alloc (.cells #[.int .i64 0, .int .i64 1, .int .i64 0] 3) = W5 := ⟨_, rfl⟩
  have HB5 : Hid (Below w4.heap.size w4 W5) := by rw [← hW5]; exact (Below.refl _ _).alloc (Nat.le_refl _) _
  have HG5 : Hid (W5.heap[w4.heap.size]? = some (.cells #[.int .i64 0, .int .i64 1, .int .i64 0] 3 (0, 0))) := by rw [← hW5]; exact heap_alloc_new w4 _
  have HcB : Hid (Calls Tryz.prog 9 #[.slice (some ⟨w4.heap.size, 0, none⟩) 3 3, .pointer (some ⟨p, 0, none⟩)] W5 (HcOut kD [0, 1, 0] W5)) := hc_lit HS.out HT2.out Hs2.out (bl_next HB4.out HB5.out) HG5.out rfl (by decide) 3 rfl
  go_upto_region 6 with (go_at_call 9; (try rw [hW5]); refine calls_at HcB.out (by with_reducible rfl) (by with_reducible rfl) ?_; intro e w6 hh; (obtain ⟨h1, h3⟩ := hcB hh); subst h1)
  have HB6 : Hid (Below w4.heap.size w4 w6) := bl_next HB5.out h3
  clear h3 hh HcB hW5 HG5 HB5
  obtain ⟨W7, hW7⟩ : ∃ W7, w6.alloc (.cells #[.int .i64 0, .int .i64 1, .int .i64 0] 3) = W7 := ⟨_, rfl⟩
  have HB7 : Hid (Below w6.heap.size w6 W7) := by rw [← hW7]; exact (Below.refl _ _).alloc (Nat.le_refl _) _
  have HG7 : Hid (W7.heap[w6.heap.size]? = some (.cells #[.int .i64 0, .int .i64 1, .int .i64 0] 3 (0, 0))) := by rw [← hW7]; exact heap_alloc_new w6 _
  have HcF : Hid (Calls Tryz.prog 10 #[.slice (some ⟨w6.heap.size, 0, none⟩) 3 3, .pointer (some ⟨p, 0, none⟩)] W7 (HfOut kD [0, 1, 0] W7)) := hf_lit HS.out HT2.out Hs2.out (bl_next HB4.out (bl_next HB6.out HB7.out)) HG7.out rfl (by decide) 3 rfl
  go_upto_region 7 with (go_at_call 10; (try rw [hW7]); refine calls_at HcF.out (by with_reducible rfl) (by with_reducible rfl) ?_; intro e w8 hh; (obtain ⟨a8, c8, h1, h2, h3⟩ := hfB hh); subst h1)
  have HI8 : Hid (IntsAt w8 (.slice a8 3 c8) [0, 1, 0]) := h2
  have HB8 : Hid (Below w4.heap.size w4 w8) := bl_next HB6.out (bl_next HB7.out h3)
  clear h2 h3 hh HcF hW7 HG7 HB7 HB6
  obtain ⟨X, hX⟩ : ∃ X, w8.alloc (.cells #[.int .i64 1, .int .i64 2, .slice a8 3 c8] 37) = X := ⟨_, rfl⟩
  have hbX : Below w8.heap.size w8 X := by rw [← hX]; exact (Below.refl _ _).alloc (Nat.le_refl _) _
  have gX : X.heap[w8.heap.size]? = some (.cells #[.int .i64 1, .int .i64 2, .slice a8 3 c8] 37 (0, 0)) := by rw [← hX]; exact heap_alloc_new w8 _
  have x0 := cell_of gX 0
  have x1 := cell_of gX 1
  have x2 := cell_of gX 2
  obtain ⟨Y, hY⟩ : ∃ Y, X.alloc (.cells #[.int .i64 0, .int .i64 1, .int .i64 0] 3) = Y := ⟨_, rfl⟩
  have hbY : Below X.heap.size X Y := by rw [← hY]; exact (Below.refl _ _).alloc (Nat.le_refl _) _
  have gY : Y.heap[X.heap.size]? = some (.cells #[.int .i64 0, .int .i64 1, .int .i64 0] 3 (0, 0)) := by rw [← hY]; exact heap_alloc_new X _
  have HSa : Hid (Calls Tryz.prog 25 #[.agg #[.int .i64 1, .int .i64 2, .slice a8 3 c8], .agg #[.int .i64 1, .int .i64 2, .slice (some ⟨X.heap.size, 0, none⟩) 3 3]] Y fun e w' => e = .returned (.bool true) ∧ Below Y.heap.size Y w') := sameHall_eq a8 (some ⟨X.heap.size, 0, none⟩) c8 3 [0, 1, 0] 1 2 Y ((HI8.out.below hbX).below hbY) (lit_ints gY rfl (by decide) 3 rfl) (by decide)
  have HBY : Hid (Below w4.heap.size w4 Y) := bl_next (bl_next HB8.out hbX) hbY
  try rw [hX]
  clear hX hbX gX gY hbY HI8
  go_upto_region 9 with (go_at_call 25; (try rw [hY]); refine calls_at HSa.out (by with_reducible rfl) (by with_reducible rfl) ?_; rintro e w9 ⟨rfl, hb9⟩)
  have HB9 : Hid (Below w4.heap.size w4 w9) := bl_next HBY.out hb9
  clear hb9 HSa hY x0 x1 x2 HBY HB8
  obtain ⟨b, off, _, rfl, _⟩ := HZ4.out 0 (by decide)
  have HZ : Hid (∀ w', Below w4.heap.size w4 w' → (w'.cell? ⟨b, off + 1, none⟩ = some (.int .i64 3) ∧ w'.cell? ⟨b, off + 1 + 1, none⟩ = some (.int .i64 2) ∧ w'.cell? ⟨b, off + 1 + 2, none⟩ = some (.int .i64 1)) ∧ (w'.cell? ⟨b, off + 14 + 1, none⟩ = some (.int .i64 3) ∧ w'.cell? ⟨b, off + 14 + 1 + 1, none⟩ = some (.int .i64 2) ∧ w'.cell? ⟨b, off + 14 + 1 + 2, none⟩ = some (.int .i64 4)) ∧ (∃ u1 c1, (w'.cell? ⟨b, off + 7 + 4, none⟩ = some (.int .i64 1) ∧ w'.cell? ⟨b, off + 7 + 4 + 1, none⟩ = some (.int .i64 2) ∧ w'.cell? ⟨b, off + 7 + 4 + 2, none⟩ = some (.slice u1 2 c1)) ∧ IntsAt w' (.slice u1 2 c1) [0, 1]) ∧ ∃ u2 c2, (w'.cell? ⟨b, off + 14 + 4, none⟩ = some (.int .i64 4) ∧ w'.cell? ⟨b, off + 14 + 4 + 1, none⟩ = some (.int .i64 4) ∧ w'.cell? ⟨b, off + 14 + 4 + 2, none⟩ = some (.slice u2 1 c2)) ∧ IntsAt w' (.slice u2 1 c2) [3]) := fun w' hb => by
    have hz := HZ4.out.below hb
    obtain ⟨b0, o0, u0, e0, _, ⟨p1, p2, p3⟩, _⟩ := hz 0 (by decide)
    injection e0 with e0
    injection e0 with e1 e2
    subst e1 e2
    obtain ⟨b0, o0, u1, e0, _, _, ⟨q1, q2, q3⟩, i1⟩ := hz 1 (by decide)
    injection e0 with e0
    injection e0 with e1 e2
    subst e1 e2
    obtain ⟨b0, o0, u2, e0, _, ⟨r1, r2, r3⟩, ⟨s1, s2, s3⟩, i2⟩ := hz 2 (by decide)
    injection e0 with e0
    injection e0 with e1 e2
    subst e1 e2
    obtain ⟨v1, c1, f1, _⟩ := id i1
    subst f1
    obtain ⟨v2, c2, f2, _⟩ := id i2
    subst f2
    exact ⟨⟨p1, p2, p3⟩, ⟨r1, r2, r3⟩, ⟨v1, c1, ⟨q1, q2, q3⟩, i1⟩, v2, c2, ⟨s1, s2, s3⟩, i2⟩
  obtain ⟨⟨p1, p2, p3⟩, ⟨r1, r2, r3⟩, ⟨u1, c1, ⟨q1, q2, q3⟩, i1⟩, _⟩ := HZ.out w9 HB9.out
  have HI1 : Hid (IntsAt w9 (.slice u1 2 c1) [0, 1]) := i1
  clear i1
  obtain ⟨X1, hX1⟩ : ∃ X, w9.alloc (.cells #[.int .i64 0, .int .i64 1] 3) = X := ⟨_, rfl⟩
  have hbX1 : Below w9.heap.size w9 X1 := by rw [← hX1]; exact (Below.refl _ _).alloc (Nat.le_refl _) _
  have gX1 : X1.heap[w9.heap.size]? = some (.cells #[.int .i64 0, .int .i64 1] 3 (0, 0)) := by rw [← hX1]; exact heap_alloc_new w9 _
  have HS1 : Hid (Calls Tryz.prog 25 #[.agg #[.int .i64 1, .int .i64 2, .slice u1 2 c1], .agg #[.int .i64 1, .int .i64 2, .slice (some ⟨w9.heap.size, 0, none⟩) 2 2]] X1 fun e w' => e = .returned (.bool true) ∧ Below X1.heap.size X1 w') := sameHall_eq u1 (some ⟨w9.heap.size, 0, none⟩) c1 2 [0, 1] 1 2 X1 (HI1.out.below hbX1) (lit_ints gX1 rfl (by decide) 2 rfl) (by decide)
  have HBX1 : Hid (Below w4.heap.size w4 X1) := bl_next HB9.out hbX1
  have HS2 : Hid (∀ (u2 : Option Addr) (c2 : Nat) w', IntsAt w' (.slice u2 1 c2) [3] → Calls Tryz.prog 25 #[.agg #[.int .i64 4, .int .i64 4, .slice u2 1 c2], .agg #[.int .i64 4, .int .i64 4, .slice (some ⟨w'.heap.size, 0, none⟩) 1 1]] (w'.alloc (.cells #[.int .i64 3] 3)) fun e w2 => e = .returned (.bool true) ∧ Below w'.heap.size w' w2) := fun u2 c2 w' hi => by
    have hb : Below w'.heap.size w' (w'.alloc (.cells #[.int .i64 3] 3)) := (Below.refl _ _).alloc (Nat.le_refl _) _
    refine (sameHall_eq u2 (some ⟨w'.heap.size, 0, none⟩) c2 1 [3] 4 4 _ (hi.below hb) (lit_ints (heap_alloc_new w' _) rfl (by decide) 1 rfl) (by decide)).mono ?_
    rintro e w2 ⟨rfl, hb2⟩
    exact ⟨rfl, hb.trans (hb2.mono hb.size)⟩
  clear hbX1 gX1 HI1
  go_wp2_with (first
    | (go_at_call 25; (try rw [hX1]); refine calls_at HS1.out (by with_reducible rfl) (by with_reducible rfl) ?_; rintro e w10 ⟨rfl, hb10⟩; (have HB10 : Hid (Below w4.heap.size w4 w10) := bl_next HBX1.out hb10); clear hb10; (obtain ⟨_, _, _, ⟨u2, c2, ⟨t1, t2, t3⟩, i2⟩⟩ := HZ.out w10 HB10.out); (have HI2 : Hid (IntsAt w10 (.slice u2 1 c2) [3]) := i2); clear i2)
    | (go_at_call 25; refine calls_at (HS2.out u2 c2 w10 HI2.out) (by with_reducible rfl) (by with_reducible rfl) ?_; rintro e w11 ⟨rfl, hb11⟩))
  go_ret
  exact ⟨rfl, bl_next HB2.out (bl_next HB4.out (bl_next HB10.out hb11))⟩
end Go.Proofs.YtemnbcilmbojhaaGreatDoor

namespace Go.Proofs.YtemnbcilmbojhaaGreatDoor
open Go.RowKit

/-- What Cuts answers, as a list and whether it can be. -/
def CtR (D : List Dm) (xs : List Int) (l : List Cz) (ok : Bool) : Prop := ∃ Gs, Gs.Perm (hcG D xs) ∧ Gs.Pairwise (fun a b => a.hi ≤ b.hi) ∧ (((crL Gs (hcG D xs)).any ov = true ∧ l = [] ∧ ok = false) ∨ ((crL Gs (hcG D xs)).any ov = false ∧ l = hcZ D xs (crL Gs (hcG D xs)) ∧ ok = true))
def HlCtOut (D : List Dm) (xs : List Int) (w : World) (e : Ending) (w' : World) : Prop := ∃ l ok a cap, CtR D xs l ok ∧ l.length ≤ 3072 ∧ e = .returned (.tuple #[.slice a l.length cap, .bool ok]) ∧ ZsAt w' a l ∧ Below w.heap.size w w'
theorem hcZ_mem {D : List Dm} {xs : List Int} {L : List Iv} (hF : Fines D) {z : Cz} (h : z ∈ hcZ D xs L) : z.x < D.length ∧ z.xs.length ≤ xs.length := by
  unfold hcZ at h
  rw [List.mem_flatMap] at h
  obtain ⟨g, hg, h⟩ := h
  unfold czL at h
  rw [List.mem_flatMap] at h
  obtain ⟨v, hv, h⟩ := h
  obtain ⟨m1, m2, m3, _⟩ := hcG_mem hg
  have hf := dmAt_fine hF m2
  obtain ⟨e1, _, i, _, _, _, _, _, _, e4⟩ := cz1_mem (by rw [m3]; exact hf.least v ((hf.all v).1 hv)) h
  refine ⟨by rw [e1]; exact m2, ?_⟩
  rw [e4]
  exact Nat.le_trans (List.length_filter_le _ _) (plP_len _ _)
theorem hcZ_len (D : List Dm) (xs : List Int) (L : List Iv) : (hcZ D xs L).length ≤ 3072 := by
  unfold hcZ
  refine Nat.le_trans (flat_lenG 96 _ (fun g => Nat.le_trans (czL_len _ g L _) (dAll_len _)) _) ?_
  exact Nat.mul_le_mul_right 96 (hcG_len D xs)
theorem cuts_out {B p : Nat} {nv mv : Value} {s : St} {w : World} (xa : Option Addr) (xc : Nat) (xs : List Int) (hX : IntsAt w (.slice xa xs.length xc) xs) (hxl : xs.length ≤ 1000000) (hS : StAt B w p nv mv s) (hA : Alls s) (hT : Tz w) (hs : 0 < w.heap.size) : Calls Tryz.prog 9 #[.slice xa xs.length xc, .pointer (some ⟨p, 0, none⟩)] w (HlCtOut s.now xs w) := by
  refine (cutsH_any xa xc xs B p nv mv s w hX hxl hS hT hs (fun d hd => fine_of (hA d hd).1 (hA d hd).2) (width hA)).mono ?_
  rintro e w' ⟨Gs, hp, hs, hb, h⟩
  rcases h with ⟨h1, rfl⟩ | ⟨h1, v, us, rfl, hz⟩
  · exact ⟨[], false, none, 0, ⟨Gs, hp, hs, .inl ⟨h1, rfl, rfl⟩⟩, by decide, rfl, (fun j hj => absurd hj (by simp)), hb⟩
  · obtain ⟨a, cap, rfl, hh⟩ := hz.zs (fun z hz => Nat.le_trans (hcZ_mem (fines_alls hA) hz).2 hxl)
    exact ⟨_, true, a, cap, ⟨Gs, hp, hs, .inr ⟨h1, rfl, rfl⟩⟩, hcZ_len _ _ _, rfl, hh, hb⟩
/-- P13.6, at two stores. -/
theorem less_two {D' D : List Dm} {xs : List Int} {l k : List Cz} {ok is : Bool} (hF' : Fines D') (hF : Fines D) (hw : Fewer D' D) (hD : D.length ≤ 32) (h : CtR D xs l ok) (h' : CtR D' xs k is) : (is = true → ok = true) ∧ (is = true → ∀ z ∈ l, z.x < D'.length ∧ ((dmAt D' z.x).has z.v = true → goB k (z.x : Int) z.v = true)) := by
  have hD' : D'.length ≤ 32 := by rw [hw.len]; exact hD
  obtain ⟨Gs, hp, hs, h⟩ := h
  obtain ⟨Gs', hp', hs', h'⟩ := h'
  have key : is = true → ok = true ∧ ∀ z ∈ l, z.x < D'.length ∧ ((dmAt D' z.x).has z.v = true → goB k (z.x : Int) z.v = true) := by
    intro hi
    have n1 : (crL Gs' (hcG D' xs)).any ov = false ∧ k = hcZ D' xs (crL Gs' (hcG D' xs)) := by
      refine h'.elim (fun h1 => ?_) (fun h1 => ⟨h1.1, h1.2.1⟩)
      have h2 := h1.2.2
      rw [hi] at h2
      exact absurd h2 (by decide)
    have n0 : (crL Gs (hcG D xs)).any ov = false ∧ l = hcZ D xs (crL Gs (hcG D xs)) ∧ ok = true := by
      refine h.elim (fun h1 => ?_) (fun h1 => h1)
      obtain ⟨a, t, ho⟩ := (over_iff hD hp hs).1 h1.1
      have h3 := (over_iff hD' hp' hs').2 ⟨a, t, over_less hF' hF hw ho⟩
      rw [n1.1] at h3
      exact absurd h3 (by decide)
    refine ⟨n0.2.2, fun z hz => ?_⟩
    rw [n0.2.1] at hz
    refine ⟨by rw [hw.len]; exact (hcZ_mem hF hz).1, fun hv => ?_⟩
    obtain ⟨z', hz', e1, e2⟩ := goes_less hF' hF hw hD hp hs hp' hs' n0.1 n1.1 hz hv
    rw [← n1.2] at hz'
    unfold goB
    rw [List.any_eq_true]
    exact ⟨z', hz', by simp [e1, e2]⟩
  exact ⟨fun h => (key h).1, fun h => (key h).2⟩
theorem has_dm {D : List Dm} {x : Nat} (h : x < D.length) (v : Int) : dHas D[x].f D[x].a D[x].b v = (dmAt D x).has v := by
  unfold dmAt
  rw [List.getD_eq_getElem?_getD, List.getElem?_eq_getElem h]
  rfl
set_option maxRecDepth 10000 in
set_option maxHeartbeats 8000000 in
theorem hallLess_walk (m : Md.Mo) (vv vc vg : Value) (a : Option Addr) (cap : Nat) (L : List Ct) (a2 : Option Addr) (cap2 : Nat) (M : List Ct) (xa : Option Addr) (xc : Nat) (xs : List Int) (w : World) (hM : MoAt w m vv vc vg) (hL : ∀ w', Below w.heap.size w w' → CtsAt w' a L) (hL2 : ∀ w', Below w.heap.size w w' → CtsAt w' a2 M) (hX : IntsAt w (.slice xa xs.length xc) xs) (hn : L.length ≤ 9223372036854775000) (hn2 : M.length ≤ 9223372036854775000) (hT : Tz w) (hs : 0 < w.heap.size) : Calls Tryz.prog 5 #[moVal m vv vc vg, .slice a L.length cap, .slice a2 M.length cap2, .slice xa xs.length xc] w fun e w' => e = .returned (.bool true) ∧ Below w.heap.size w w' := by
  obtain ⟨W, hW⟩ : ∃ W, w.alloc (.cells #[vv, vc, .bool m.has, vg] 26) = W := ⟨_, rfl⟩
  have hb0 : Below w.heap.size w W := by rw [← hW]; exact (Below.refl _ _).alloc (Nat.le_refl _) _
  have g0 : W.heap[w.heap.size]? = some (.cells #[vv, vc, .bool m.has, vg] 26 (0, 0)) := by rw [← hW]; exact heap_alloc_new w _
  have HWs : Hid (∀ w', Below W.heap.size W w' → Below w.heap.size w w') := fun w' hb => hb0.trans (hb.mono hb0.size)
  have hsW : 0 < W.heap.size := Nat.lt_of_lt_of_le hs hb0.size
  have HF : Hid (Calls Tryz.prog 6 #[.agg #[vv, vc, .bool m.has, vg], .slice a L.length cap, .slice xa xs.length xc] W fun e w' => (∃ b : Bool, e = .returned (.bool b) ∧ (b = true → L.length ≤ 20000 ∧ xs.length ≤ 70)) ∧ Below W.heap.size W w') := few_any m vv vc vg a xa L.length xs.length cap xc W (hM.below hb0) (by omega)
  have HF2 : Hid (∀ w', Below W.heap.size W w' → Calls Tryz.prog 6 #[.agg #[vv, vc, .bool m.has, vg], .slice a2 M.length cap2, .slice xa xs.length xc] w' fun e w2 => (∃ b : Bool, e = .returned (.bool b) ∧ (b = true → M.length ≤ 20000 ∧ xs.length ≤ 70)) ∧ Below w'.heap.size w' w2) := fun w' hb => few_any m vv vc vg a2 xa M.length xs.length cap2 xc w' (hM.below (HWs.out w' hb)) (by omega)
  have HK : Hid (∀ w', Below W.heap.size W w' → Calls Tryz.prog 7 #[] w' fun e w2 => e = .returned (.bool true) ∧ Below w'.heap.size w' w2) := fun w' hb => known_any w' ((hT.below hb0 hs).below hb hsW) (Nat.lt_of_lt_of_le hsW hb.size)
  have HBh : Hid (∀ w', Below W.heap.size W w' → Calls Tryz.prog 8 #[.agg #[vv, vc, .bool m.has, vg], .slice a L.length cap] w' (BhOut m L w')) := fun w' hb => behind_any m vv vc vg a cap L w' (hM.below (HWs.out w' hb)) (Nat.lt_of_lt_of_le hsW hb.size) (hL w' (HWs.out w' hb)) (by omega)
  have HTz : Hid (∀ w', Below W.heap.size W w' → Tz w') := fun w' hb => (hT.below hb0 hs).below hb hsW
  have HsW : Hid (0 < W.heap.size) := hsW
  have HC2 : Hid (∀ w', Below W.heap.size W w' → CtsAt w' a2 M) := fun w' hb => hL2 w' (HWs.out w' hb)
  have HCu : Hid (∀ B p nv mv s w', xs.length ≤ 70 → Below W.heap.size W w' → Alls s → StAt B w' p nv mv s → Calls Tryz.prog 9 #[.slice xa xs.length xc, .pointer (some ⟨p, 0, none⟩)] w' (HlCtOut s.now xs w')) := fun B p nv mv s w' hx hb hA hS => cuts_out xa xc xs (hX.below (HWs.out w' hb)) (by omega) hS hA (HTz.out w' hb) (Nat.lt_of_lt_of_le hsW hb.size)
  have HGc : Hid (∀ w', Below W.heap.size W w' → w'.cell? ⟨w.heap.size, 0, none⟩ = some vv ∧ w'.cell? ⟨w.heap.size, 1, none⟩ = some vc ∧ w'.cell? ⟨w.heap.size, 2, none⟩ = some (.bool m.has) ∧ w'.cell? ⟨w.heap.size, 3, none⟩ = some vg) := fun w' hb => by
    have e0 := (hb.block _ (Array.getElem?_eq_some_iff.1 g0).1).trans g0
    exact ⟨cell_of e0 0, cell_of e0 1, cell_of e0 2, cell_of e0 3⟩
  have hmv : moVal m vv vc vg = .agg #[vv, vc, .bool m.has, vg] := rfl
  rw [hmv]
  obtain ⟨p0, p1, p2, p3⟩ := HGc.out W (Below.refl _ _)
  clear hM hL hL2 hX hT hs hb0 g0 hsW hmv
  go_enter Tryz.func5, Tryz.ntmps5
  go_upto_region 1 with fail
  try rw [hW]
  clear hW
  go_cut [29] from 18 to 29 (fun s29 wx => (∃ b : Bool, s29 = .bool b ∧ Hid (b = false → xs.length ≤ 70)) ∧ Hid (Below W.heap.size W wx))
  case first =>
    go_wp2_with (first | (go_at_call 6; refine calls_at HF.out (by with_reducible rfl) (by with_reducible rfl) ?_; rintro e w1 ⟨⟨b1, rfl, hf1⟩, hb1⟩; (have HB1 : Hid (Below W.heap.size W w1) := hb1); (have HF1 : Hid (b1 = true → L.length ≤ 20000 ∧ xs.length ≤ 70) := hf1); clear hb1 hf1; (obtain ⟨p0, p1, p2, p3⟩ := HGc.out w1 HB1.out)) | (go_at_call 6; refine calls_at (HF2.out w1 HB1.out) (by with_reducible rfl) (by with_reducible rfl) ?_; rintro e w2 ⟨⟨b2, rfl, hf2⟩, hb2⟩; (have HB2 : Hid (Below W.heap.size W w2) := bl_next HB1.out hb2); (have HF3 : Hid (b2 = true → M.length ≤ 20000 ∧ xs.length ≤ 70) := hf2); clear hb2 hf2))
    all_goals go_meet
    all_goals first | exact ⟨⟨_, rfl, fun h => (HF3.out (by simpa using h)).2⟩, HB2⟩ | exact ⟨⟨_, rfl, (fun h => by cases h)⟩, HB1⟩
  case rest =>
  obtain ⟨⟨bf, rfl, HX70⟩, HB1⟩ := hcut
  rename World => w1
  clear HF HF2 p0 p1 p2 p3
  cases bf with
  | true =>
    go_wp2_with fail
    go_ret
    exact ⟨rfl, HWs.out _ HB1.out⟩
  | false =>
  have hx70 : xs.length ≤ 70 := HX70.out rfl
  go_upto_region 5 with (go_at_call 7; refine calls_at (HK.out w1 HB1.out) (by with_reducible rfl) (by with_reducible rfl) ?_; rintro e w2 ⟨rfl, hb2⟩)
  have HB2 : Hid (Below W.heap.size W w2) := bl_next HB1.out hb2
  clear hb2 HK HB1
  obtain ⟨p0, p1, p2, p3⟩ := HGc.out w2 HB2.out
  go_upto_region 8 with (go_at_call 8; refine calls_at (HBh.out w2 HB2.out) (by with_reducible rfl) (by with_reducible rfl) ?_; rintro e w3 ⟨B, p, nv, mv, hB, rfl, hS3, hb3⟩)
  have HB3 : Hid (Below W.heap.size W w3) := bl_next HB2.out hb3
  have hAs := (fold_less L (alls_new m)).1
  obtain ⟨s, hse⟩ : ∃ s, foldC (newS m) L = s := ⟨_, rfl⟩
  rw [hse] at hS3 hAs
  have HAs : Hid (Alls s) := hAs
  have HFm : Hid (Alls (foldC s M) ∧ Fewer (foldC s M).now s.now) := fold_less M hAs
  have HS : Hid (StAt B w3 p nv mv s) := hS3
  have HCp : Hid (Calls Tryz.prog 20 #[.pointer (some ⟨p, 0, none⟩)] w3 (CopyOut s w3)) := copy_any B p nv mv s w3 hS3
  clear hse hS3 hb3 hB HBh p0 p1 p2 p3 hAs
  go_upto_region 9 with (go_at_call 20; refine calls_at HCp.out (by with_reducible rfl) (by with_reducible rfl) ?_; rintro e w4 ⟨q, nw, mw, rfl, hS4, hb4⟩)
  have HP4 : Hid (Pr B w3.heap.size p q nv mv nw mw s (foldC s (M.take 0)) w4) := Pr.of HS.out hb4 hS4
  have HB4 : Hid (Below W.heap.size W w4) := bl_next HB3.out hb4
  have HW3 : Hid (W.heap.size ≤ w3.heap.size) := HB3.out.size
  have HCt : Hid (∀ Bq t (z : Ct) w', StAt Bq w' q nw mw t → Calls Tryz.prog 19 #[.pointer (some ⟨q, 0, none⟩), .agg #[.int .i64 z.k, .int .i64 z.x, .int .i64 z.v]] w' (CutOut Bq q nw mw t z.k z.x z.v w')) := fun Bq t z w' h => cut_any Bq q nw mw t z.k z.x z.v w' h
  clear hS4 hb4 HCp HS HB3
  go_wp2_with fail
  go_loopw [11] (fun iv wr => ∃ (k : Nat), iv = .int .i64 (k : Int) ∧ k ≤ M.length ∧ Hid (Pr B w3.heap.size p q nv mv nw mw s (foldC s (M.take k)) wr) ∧ Hid (Below W.heap.size W wr)) (fun iv _ => M.length - (intOf iv).toNat)
  case atStart => exact ⟨0, rfl, Nat.zero_le _, HP4, HB4⟩
  case round =>
  obtain ⟨k, rfl, hk, HP, HBr⟩ := hrel
  by_cases hkn : k < M.length
  · have hkI : (k : Int) < (M.length : Int) := by omega
    obtain ⟨b, off, rfl, c0, c1, c2⟩ := HC2.out wr HBr.out k hkn
    have HKc : Hid (Calls Tryz.prog 19 #[.pointer (some ⟨q, 0, none⟩), .agg #[.int .i64 M[k].k, .int .i64 M[k].x, .int .i64 M[k].v]] wr (CutOut w3.heap.size q nw mw (foldC s (M.take k)) M[k].k M[k].x M[k].v wr)) := HCt.out _ _ M[k] wr HP.out.b
    have HX : Hid (foldC s (M.take (k + 1)) = (foldC s (M.take k)).cut M[k].k M[k].x M[k].v) := foldC_next hkn
    go_wp2_with (go_at_call 19; refine calls_at HKc.out (by with_reducible rfl) (by with_reducible rfl) ?_; rintro e w5 ⟨rfl, hS5, hT5⟩)
    go_roundw
    case rel => exact ⟨k + 1, by go_num, hkn, (by show Pr _ _ _ _ _ _ _ _ _ _ _; rw [HX.out]; exact HP.out.stepB hS5 hT5), HBr.out.trans (hT5.below.mono HW3.out)⟩
    case measure => simp [intOf]; omega
  have hke : k = M.length := by omega
  subst hke
  have hkI : ¬ (M.length : Int) < (M.length : Int) := by omega
  obtain ⟨t, hte⟩ : ∃ t, foldC s M = t := ⟨_, rfl⟩
  have HP5 : Hid (Pr B w3.heap.size p q nv mv nw mw s t wr) := by have := HP.out; rw [List.take_length, hte] at this; exact this
  have HAt : Hid (Alls t ∧ Fewer t.now s.now) := by rw [← hte]; exact HFm.out
  clear HP HP4 HB4 HCt HFm hte hkn hk HC2
  have HN32 : Hid (s.now.length ≤ 32) := HP5.out.a.n32
  have HCs : Hid (Calls Tryz.prog 9 #[.slice xa xs.length xc, .pointer (some ⟨p, 0, none⟩)] wr (HlCtOut s.now xs wr)) := HCu.out B p nv mv s wr hx70 HBr.out HAs.out HP5.out.a
  have HCt : Hid (∀ w', Below W.heap.size W w' → StAt w3.heap.size w' q nw mw t → Calls Tryz.prog 9 #[.slice xa xs.length xc, .pointer (some ⟨q, 0, none⟩)] w' (HlCtOut t.now xs w')) := fun w' hb hS => HCu.out _ q nw mw t w' hx70 hb HAt.out.1 hS
  clear HCu
  go_upto_region 14 with (go_at_call 9; refine calls_at HCs.out (by with_reducible rfl) (by with_reducible rfl) ?_; intro e w6 hh; (obtain ⟨l, ok, a6, cp6, h1, h2, h3, h4, h5⟩ := hh); subst h3)
  have HB6 : Hid (Below W.heap.size W w6) := bl_next HBr.out h5
  have HR6 : Hid (CtR s.now xs l ok) := h1
  have HL6 : Hid (ZsAt w6 a6 l) := h4
  have hl6 : l.length ≤ 3072 := h2
  have HP6 : Hid (Pr B w3.heap.size p q nv mv nw mw s t w6) := HP5.out.below h5
  clear h1 h2 h4 h5 HCs HP5
  have HC6 : Hid (Calls Tryz.prog 9 #[.slice xa xs.length xc, .pointer (some ⟨q, 0, none⟩)] w6 (HlCtOut t.now xs w6)) := HCt.out w6 HB6.out HP6.out.b
  go_upto_region 15 with (go_at_call 9; refine calls_at HC6.out (by with_reducible rfl) (by with_reducible rfl) ?_; intro e w7 hh; (obtain ⟨kk, is, a7, cp7, h1, h2, h3, h4, h5⟩ := hh); subst h3)
  have HB7 : Hid (Below W.heap.size W w7) := bl_next HB6.out h5
  have HL7 : Hid (ZsAt w7 a6 l) := HL6.out.below h5
  have HK7 : Hid (ZsAt w7 a7 kk) := h4
  have hl7 : kk.length ≤ 3072 := h2
  have HS7 : Hid (StAt w3.heap.size w7 q nw mw t) := HP6.out.b.below h5
  have HFx : Hid ((is = true → ok = true) ∧ (is = true → ∀ z ∈ l, z.x < t.now.length ∧ ((dmAt t.now z.x).has z.v = true → goB kk (z.x : Int) z.v = true))) := less_two (fines_alls HAt.out.1) (fines_alls HAs.out) HAt.out.2 HN32.out HR6.out h1
  clear h1 h2 h4 h5 HC6 HCt HP6 HL6 HR6
  cases is with
  | false =>
    cases ok with
    | false =>
      go_wp2_with fail
      go_ret
      exact ⟨rfl, HWs.out _ HB7.out⟩
    | true =>
      go_wp2_with fail
      go_ret
      exact ⟨rfl, HWs.out _ HB7.out⟩
  | true =>
  obtain rfl := HFx.out.1 rfl
  have HFz : Hid (∀ (i : Nat) (hi : i < l.length), l[i].x < t.now.length ∧ ((dmAt t.now l[i].x).has l[i].v = true → goB kk (l[i].x : Int) l[i].v = true)) := fun i hi => HFx.out.2 rfl _ (List.getElem_mem hi)
  have HHa : Hid (∀ (x : Nat) (v : Int) w', x < t.now.length → Below w7.heap.size w7 w' → Calls Tryz.prog 14 #[.pointer (some ⟨q, 0, none⟩), .int .i64 (x : Int), .int .i64 v] w' fun e w2 => e = .returned (.bool ((dmAt t.now x).has v)) ∧ Below w'.heap.size w' w2) := fun x v w' hx hb => by
    have := has_in w3.heap.size q nw mw t x hx v w' (HS7.out.below hb)
    rw [has_dm hx] at this
    exact this
  have HGo : Hid (∀ (x v : Int) w', Below w7.heap.size w7 w' → Calls Tryz.prog 17 #[.slice a7 kk.length cp7, .int .i64 x, .int .i64 v] w' fun e w2 => e = .returned (.bool (goB kk x v)) ∧ Below w'.heap.size w' w2) := fun x v w' hb => goes_any a7 cp7 kk x v w' (HK7.out.below hb) (by omega)
  have HLc : Hid (∀ w', Below w7.heap.size w7 w' → ∀ j (h : j < l.length), ∃ b off, a6 = some ⟨b, off, none⟩ ∧ w'.cell? ⟨b, off + j * 7 + 1, none⟩ = some (.int .i64 3) ∧ w'.cell? ⟨b, off + j * 7 + 1 + 1, none⟩ = some (.int .i64 (l[j].x : Int)) ∧ w'.cell? ⟨b, off + j * 7 + 1 + 2, none⟩ = some (.int .i64 l[j].v)) := fun w' hb j hj => by
    obtain ⟨b, off, u, e, _, ⟨h1, h2, h3⟩, _⟩ := HL7.out.below hb j hj
    exact ⟨b, off, e, h1, h2, h3⟩
  have HW7 : Hid (Below w.heap.size w w7) := HWs.out _ HB7.out
  clear HFx HS7 HTz HL7 HK7 HB6 HBr HB7 HWs HAt HAs HN32
  go_wp2_with fail
  go_loopw [16] (fun iv wz => ∃ (x : Nat), iv = .int .i64 (x : Int) ∧ x ≤ l.length ∧ Hid (Below w7.heap.size w7 wz)) (fun iv _ => l.length - (intOf iv).toNat)
  case atStart => exact ⟨0, rfl, Nat.zero_le _, Below.refl _ _⟩
  case round =>
  obtain ⟨i, rfl, hi, HBx⟩ := hrel
  rename World => wz
  by_cases hin : i < l.length
  case neg =>
    have hie : i = l.length := by omega
    subst hie
    have hiI : ¬ (l.length : Int) < (l.length : Int) := by omega
    go_wp2_with fail
    go_ret
    exact ⟨rfl, bl_next HW7.out HBx.out⟩
  case pos =>
  have hiI : (i : Int) < (l.length : Int) := by omega
  obtain ⟨b, off, rfl, c0, c1, c2⟩ := HLc.out wz HBx.out i hin
  obtain ⟨hzx, hzg⟩ := HFz.out i hin
  obtain ⟨z, hz⟩ : ∃ z, l[i] = z := ⟨_, rfl⟩
  rw [hz] at c1 c2 hzx hzg
  clear hz
  obtain ⟨V, hV⟩ : ∃ V, wz.alloc (.cells #[.int .i64 3, .int .i64 (z.x : Int), .int .i64 z.v] 42) = V := ⟨_, rfl⟩
  have hbV : Below wz.heap.size wz V := by rw [← hV]; exact (Below.refl _ _).alloc (Nat.le_refl _) _
  have gV : V.heap[wz.heap.size]? = some (.cells #[.int .i64 3, .int .i64 (z.x : Int), .int .i64 z.v] 42 (0, 0)) := by rw [← hV]; exact heap_alloc_new wz _
  have HBV : Hid (Below w7.heap.size w7 V) := bl_next HBx.out hbV
  have HGV : Hid (∀ w', Below V.heap.size V w' → w'.cell? ⟨wz.heap.size, 1, none⟩ = some (.int .i64 (z.x : Int)) ∧ w'.cell? ⟨wz.heap.size, 2, none⟩ = some (.int .i64 z.v)) := fun w' hb => by
    have y := (hb.block _ (Array.getElem?_eq_some_iff.1 gV).1).trans gV
    exact ⟨cell_of y 1, cell_of y 2⟩
  have HH1 := HHa.out z.x z.v V hzx HBV.out
  obtain ⟨r, hr⟩ : ∃ r, (dmAt t.now z.x).has z.v = r := ⟨_, rfl⟩
  rw [hr] at hzg HH1
  have HH2 : Hid (Calls Tryz.prog 14 #[.pointer (some ⟨q, 0, none⟩), .int .i64 (z.x : Int), .int .i64 z.v] V fun e w2 => e = .returned (.bool r) ∧ Below V.heap.size V w2) := HH1
  have HZg : Hid (r = true → goB kk (z.x : Int) z.v = true) := hzg
  obtain ⟨v1, v2⟩ := HGV.out V (Below.refl _ _)
  go_upto_region 21 with fail
  try rw [hV]
  clear hV hbV gV c0 c1 c2 hzg HH1 hr
  cases r with
  | false =>
    go_wp2_with (go_at_call 14; refine calls_at HH2.out (by with_reducible rfl) (by with_reducible rfl) ?_; rintro e w8 ⟨rfl, hb8⟩)
    go_roundw
    case rel => exact ⟨i + 1, by go_num, hin, bl_next HBV.out hb8⟩
    case measure => simp [intOf]; omega
  | true =>
    have HG1 : Hid (∀ w', Below w7.heap.size w7 w' → Calls Tryz.prog 17 #[.slice a7 kk.length cp7, .int .i64 (z.x : Int), .int .i64 z.v] w' fun e w2 => e = .returned (.bool true) ∧ Below w'.heap.size w' w2) := fun w' hb => by
      have := HGo.out (z.x : Int) z.v w' hb
      rw [HZg.out rfl] at this
      exact this
    go_wp2_with (first | (go_at_call 14; refine calls_at HH2.out (by with_reducible rfl) (by with_reducible rfl) ?_; rintro e w8 ⟨rfl, hb8⟩; (have HB8 : Hid (Below V.heap.size V w8) := hb8); clear hb8; (obtain ⟨m1, m2⟩ := HGV.out w8 HB8.out)) | (go_at_call 17; refine calls_at (HG1.out w8 (bl_next HBV.out HB8.out)) (by with_reducible rfl) (by with_reducible rfl) ?_; rintro e w9 ⟨rfl, hb9⟩))
    go_roundw
    case rel => exact ⟨i + 1, by go_num, hin, bl_next (bl_next HBV.out HB8.out) hb9⟩
    case measure => simp [intOf]; omega
end Go.Proofs.YtemnbcilmbojhaaGreatDoor
