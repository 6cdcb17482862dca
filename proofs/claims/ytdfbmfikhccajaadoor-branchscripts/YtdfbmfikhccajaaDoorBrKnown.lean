/-
  The law's known: the chapter's examples.
-/
import Derived.Test.YtdfbmfikhccajaaDoorBrPick
import Derived.Test.YtdfbmfikhccajaaDoorBrScript
namespace Go.Proofs.YtdfbmfikhccajaaDoor
open Go.RowKit

theorem own_lt {B : Nat} {w : World} {p : Nat} {nv mv : Value} {s : St} (h : StAt B w p nv mv s) {k : Nat} (hk : Own p nv mv k) : k < w.heap.size := by
  rcases hk with h1 | h1 | h1
  · rw [h1]; exact h.lt
  · exact (row_lt h.n h1).2
  · exact (row_lt h.m h1).2
/-- The example's problem, and its store. -/
def kM : Md.Mo := ⟨[⟨⟨#[120]⟩, 0, 3⟩, ⟨⟨#[121]⟩, 7, 7⟩, ⟨⟨#[122]⟩, 1, 2⟩], [], false, []⟩
def k0 : St := ⟨[⟨0, 15, 0⟩, ⟨7, 1, 0⟩, ⟨1, 3, 0⟩], [], 0⟩
theorem kn0 : newS kM = k0 := by kernel_rfl
theorem kp1 : pkV k0 (-2) = .tuple #[.int .i64 0, .int .i64 3, .bool true] := by kernel_rfl
theorem kp2 : pkV k0 5 = .tuple #[.int .i64 2, .int .i64 2, .bool true] := by kernel_rfl
theorem kM_at {W : World} {N : Nat} (h : W.heap[N]? = some (.cells #[.string ⟨#[120]⟩, .int .i64 0, .int .i64 3, .string ⟨#[121]⟩, .int .i64 7, .int .i64 7, .string ⟨#[122]⟩, .int .i64 1, .int .i64 2] 39 (0, 0))) : MoAt W kM (.slice (some ⟨N, 0, none⟩) 3 3) (.slice none 0 0) (.slice none 0 0) := by
  refine ⟨⟨_, 3, rfl, by unfold maxLen; decide, ?_, fun _ => ⟨N, 0, rfl, (Array.getElem?_eq_some_iff.1 h).1, fun j hj => ?_⟩⟩, ?_, ⟨none, 0, rfl, Nat.zero_le _, fun h0 => absurd h0 (Nat.not_lt_zero _)⟩, ?_⟩
  · intro x hx
    have : x.name.size = 1 := by
      simp only [kM, List.mem_cons, List.not_mem_nil, or_false] at hx
      rcases hx with rfl | rfl | rfl <;> rfl
    rw [this]
    unfold maxLen
    decide
  · match j, hj with
    | 0, _ => exact ⟨cell_of h 0, cell_of h 1, cell_of h 2⟩
    | 1, _ => exact ⟨cell_of h 3, cell_of h 4, cell_of h 5⟩
    | 2, _ => exact ⟨cell_of h 6, cell_of h 7, cell_of h 8⟩
  · intro a n cp e
    injection e with _ e1 e2
    omega
  · exact ⟨none, 0, rfl, Nat.zero_le _, fun h0 => absurd h0 (Nat.not_lt_zero _)⟩
theorem lit_ints {W : World} {N : Nat} {L : List Int} {cs : Array Value} {t : TypeId} (h : W.heap[N]? = some (.cells cs t (0, 0))) (hc : cs = (L.map (.int .i64)).toArray) (hl : L.length ≤ 1000) : IntsAt W (.slice (some ⟨N, 0, none⟩) L.length L.length) L := by
  subst hc
  refine ⟨_, _, rfl, by unfold maxLen; omega, fun _ => ⟨N, 0, rfl, (Array.getElem?_eq_some_iff.1 h).1, fun j hj => ?_⟩⟩
  rw [Nat.zero_add, cell_of h]
  simp [hj]
section
variable {B p : Nat} {nv mv : Value} {w : World} {O : Nat → Prop}
theorem k_pick1 (h : StAt B w p nv mv k0) (ha : Alls k0) (hT : Tz w) : Calls Tryd.prog 12 #[.pointer (some ⟨p, 0, none⟩), .int .i64 (-2)] w fun e w' => e = .returned (.tuple #[.int .i64 0, .int .i64 3, .bool true]) ∧ Below w.heap.size w w' := by
  have := pick_any (-2) h ha hT
  rw [kp1] at this
  exact this
theorem k_pick2 (h : StAt B w p nv mv k0) (ha : Alls k0) (hT : Tz w) : Calls Tryd.prog 12 #[.pointer (some ⟨p, 0, none⟩), .int .i64 5] w fun e w' => e = .returned (.tuple #[.int .i64 2, .int .i64 2, .bool true]) ∧ Below w.heap.size w w' := by
  have := pick_any 5 h ha hT
  rw [kp2] at this
  exact this
theorem k_next {x : Int} {L M : List Int} (hL : L.headD 0 = x ∧ L.tail = M) (h : ScAt B O w p L) : Calls Tryd.prog 7 #[.pointer (some ⟨p, 0, none⟩)] w fun e w' => e = .returned (.int .i64 x) ∧ ScAt B O w' p M ∧ Off (fun k => k = p) w w' ∧ ∀ C, C ≤ p → Below C w w' := by
  obtain ⟨rfl, rfl⟩ := hL
  exact scNext_any B O p L w h
end
/-- What New leaves of the example. -/
theorem k_new {W w' : World} {e : Ending} (h : NewOut kM W e w') : ∃ p nv mv, e = .returned (.pointer (some ⟨p, 0, none⟩)) ∧ StAt W.heap.size w' p nv mv k0 ∧ Below W.heap.size W w' := by
  obtain ⟨p, nv, mv, h1, h2, h3⟩ := h
  rw [kn0] at h2
  exact ⟨p, nv, mv, h1, h2, h3⟩
set_option maxRecDepth 10000 in
set_option maxHeartbeats 2000000 in
theorem known_any (w : World) (hT : Tz w) (hs : 0 < w.heap.size) : Calls Tryd.prog 4 #[] w fun e w' => e = .returned (.bool true) ∧ Below w.heap.size w w' := by
  obtain ⟨W, hW⟩ : ∃ W, w.alloc (.cells #[.string ⟨#[120]⟩, .int .i64 0, .int .i64 3, .string ⟨#[121]⟩, .int .i64 7, .int .i64 7, .string ⟨#[122]⟩, .int .i64 1, .int .i64 2] 39) = W := ⟨_, rfl⟩
  have hb0 : Below w.heap.size w W := by rw [← hW]; exact (Below.refl _ _).alloc (Nat.le_refl _) _
  have g0 : W.heap[w.heap.size]? = some (.cells #[.string ⟨#[120]⟩, .int .i64 0, .int .i64 3, .string ⟨#[121]⟩, .int .i64 7, .int .i64 7, .string ⟨#[122]⟩, .int .i64 1, .int .i64 2] 39 (0, 0)) := by rw [← hW]; exact heap_alloc_new w _
  have hsW : 0 < W.heap.size := Nat.lt_of_lt_of_le hs hb0.size
  have HB : Hid (Below w.heap.size w W) := hb0
  have HTz : Hid (∀ w', Below W.heap.size W w' → Tz w') := fun w' hb => (hT.below hb0 hs).below hb hsW
  have HNew : Hid (Calls Tryd.prog 11 #[.agg #[.slice (some ⟨w.heap.size, 0, none⟩) 3 3, .slice none 0 0, .bool false, .slice none 0 0]] W (fun e w' => ∃ p nv mv, e = .returned (.pointer (some ⟨p, 0, none⟩)) ∧ StAt W.heap.size w' p nv mv k0 ∧ Below W.heap.size W w')) := (new_any kM _ _ _ W (kM_at g0) hsW).mono fun e w' h => k_new h
  have HAl : Hid (Alls k0) := by rw [← kn0]; exact alls_new kM
  clear hb0 g0 hT
  go_enter Tryd.func4, Tryd.ntmps4
  go_wp2_with fail
  refine calls_at HNew.out (by with_reducible rfl) (by with_reducible rfl) ?_
  rintro e w1 ⟨p, nv, mv, rfl, hA1, hb1⟩
  have HA1 : Hid (StAt W.heap.size w1 p nv mv k0) := hA1
  have HB1 : Hid (Below W.heap.size W w1) := hb1
  clear hA1 hb1 hW
  obtain ⟨X, hX⟩ : ∃ X, w1.alloc (.cells #[.int .i64 4, .int .i64 5] 3) = X := ⟨_, rfl⟩
  have hbX : Below w1.heap.size w1 X := by rw [← hX]; exact (Below.refl _ _).alloc (Nat.le_refl _) _
  have gX : X.heap[w1.heap.size]? = some (.cells #[.int .i64 4, .int .i64 5] 3 (0, 0)) := by rw [← hX]; exact heap_alloc_new w1 _
  have HA2 : Hid (StAt W.heap.size X p nv mv k0) := HA1.out.below hbX
  have HB2 : Hid (Below W.heap.size W X) := bl_next HB1.out hbX
  have HSc : Hid (Calls Tryd.prog 5 #[.slice (some ⟨w1.heap.size, 0, none⟩) 2 2] X (ScOut [4, 5] X)) := scNew_any _ [4, 5] X (lit_ints (L := [4, 5]) gX rfl (by decide)) (by decide)
  clear hbX gX
  go_wp2_with fail
  refine calls_at HSc.out (by with_reducible rfl) (by with_reducible rfl) ?_
  rintro e w3 ⟨q, O, rfl, hS3, hb3⟩
  have HA3 : Hid (StAt W.heap.size w3 p nv mv k0) := HA2.out.below hb3
  have HB3 : Hid (Below W.heap.size W w3) := bl_next HB2.out hb3
  have HS3 : Hid (ScAt X.heap.size O w3 q [4, 5]) := hS3
  have HQ : Hid (∀ k, Own p nv mv k → k ≠ q) := fun k hk e => by
    have h1 := own_lt HA2.out hk
    have h2 := hS3.lo q hS3.op
    omega
  have HQB : Hid (W.heap.size ≤ q) := Nat.le_trans HB2.out.size (hS3.lo q hS3.op)
  clear hS3 hb3 hX
  go_wp2_with fail
  refine calls_at (k_next (x := 4) (M := [5]) ⟨rfl, rfl⟩ HS3.out) (by with_reducible rfl) (by with_reducible rfl) ?_
  rintro e w4 ⟨rfl, hS4, ho4, hc4⟩
  have HA4 : Hid (StAt W.heap.size w4 p nv mv k0) := HA3.out.keep fun k hk hO => ho4.block k hk (HQ.out k hO)
  have HB4 : Hid (Below W.heap.size W w4) := HB3.out.trans (hc4 _ HQB.out)
  have HS4 : Hid (ScAt X.heap.size O w4 q [5]) := hS4
  clear hS4 ho4 hc4
  go_wp2_with fail
  refine calls_at (k_next (x := 5) (M := []) ⟨rfl, rfl⟩ HS4.out) (by with_reducible rfl) (by with_reducible rfl) ?_
  rintro e w5 ⟨rfl, hS5, ho5, hc5⟩
  have HA5 : Hid (StAt W.heap.size w5 p nv mv k0) := HA4.out.keep fun k hk hO => ho5.block k hk (HQ.out k hO)
  have HB5 : Hid (Below W.heap.size W w5) := HB4.out.trans (hc5 _ HQB.out)
  have HS5 : Hid (ScAt X.heap.size O w5 q []) := hS5
  clear hS5 ho5 hc5
  go_wp2_with fail
  refine calls_at (k_next (x := 0) (M := []) ⟨rfl, rfl⟩ HS5.out) (by with_reducible rfl) (by with_reducible rfl) ?_
  rintro e w6 ⟨rfl, hS6, ho6, hc6⟩
  have HA6 : Hid (StAt W.heap.size w6 p nv mv k0) := HA5.out.keep fun k hk hO => ho6.block k hk (HQ.out k hO)
  have HB6 : Hid (Below W.heap.size W w6) := HB5.out.trans (hc6 _ HQB.out)
  clear hS6 ho6 hc6
  go_wp2_with fail
  refine calls_at (k_pick1 HA6.out HAl.out (HTz.out _ HB6.out)) (by with_reducible rfl) (by with_reducible rfl) ?_
  rintro e w7 ⟨rfl, hb7⟩
  have HA7 : Hid (StAt W.heap.size w7 p nv mv k0) := HA6.out.below hb7
  have HB7 : Hid (Below W.heap.size W w7) := bl_next HB6.out hb7
  clear hb7
  go_wp2_with fail
  refine calls_at (k_pick2 HA7.out HAl.out (HTz.out _ HB7.out)) (by with_reducible rfl) (by with_reducible rfl) ?_
  rintro e w8 ⟨rfl, hb8⟩
  have HB8 : Hid (Below W.heap.size W w8) := bl_next HB7.out hb8
  clear hb8
  go_wp2_with fail
  go_ret
  exact ⟨rfl, HB.out.trans (HB8.out.mono HB.out.size)⟩
end Go.Proofs.YtdfbmfikhccajaaDoor
