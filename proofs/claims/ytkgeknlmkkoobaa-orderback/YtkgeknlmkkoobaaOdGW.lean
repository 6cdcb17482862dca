/-
  Put together: OdG, OdWithin.
-/
import Derived.Test.YtkgeknlmkkoobaaOdAsgs
namespace Od
open Go.Proofs.Ytkgeknlmkkoobaa
def GV (vs : List Md.Vr) (cs : List Md.Cn) (l : List Int) (g : Nat → Bool) (k : Nat) : Prop := ∀ x (_ : x < vs.length), x < k →
  (∀ i : Nat, (i : Int) < vs[x].hi - vs[x].lo → g ((aS vs x).toNat + i) = decide (vs[x].lo + 1 + (i : Int) ≤ l.getD x 0)) ∧
  (∀ i : Nat, (i : Int) < pTo cs vs[x] x - vs[x].lo + 1 → g ((aP vs cs x).toNat + i) = (l.getD x 0 == vs[x].lo + (i : Int)))
def GK (vs : List Md.Vr) (cs : List Md.Cn) (l : List Int) (g : Nat → Bool) (k : Nat) : Prop := ∀ c (_ : c < cs.length), c < k → ∀ i : Nat, i < rN cs[c] → g ((aK vs cs c).toNat + i) = pickP (rowsOf cs[c]) (xsOf cs[c]) l i
theorem GV.keep {vs : List Md.Vr} {cs : List Md.Cn} {l : List Int} {g g' : Nat → Bool} {k : Nat} (hg : Good vs) (h : GV vs cs l g k) (hk : k ≤ vs.length) (hs : ∀ j : Nat, (j : Int) < aS vs k → g' j = g j) (hp : ∀ j : Nat, aS vs vs.length ≤ (j : Int) → (j : Int) < aP vs cs k → g' j = g j) : GV vs cs l g' k := by
  intro x hx hxk
  obtain ⟨h1, h2⟩ := h x hx hxk
  have b1 := aS_bd hg x (by omega)
  have b2 := aS_mono hg (x := x + 1) (y := k) (by omega) hk
  have b3 := aP_bd hg cs x (by omega)
  have b4 := aP_mono hg cs (x := x + 1) (y := k) (by omega) hk
  have b5 := aS_bd hg vs.length (Nat.le_refl _)
  rw [aS_next hx] at b2
  rw [aP_next hx] at b4
  refine ⟨fun i hi => ?_, fun i hi => ?_⟩
  · rw [hs _ (by omega)]; exact h1 i hi
  · rw [hp _ (by omega) (by omega)]; exact h2 i hi
theorem GV.next {vs : List Md.Vr} {cs : List Md.Cn} {l : List Int} {g : Nat → Bool} {k : Nat} (hg : Good vs) (h : GV vs cs l g k) (hk : k < vs.length) :
    GV vs cs l (asgB (asgB g (stR vs k vs[k]).a.toNat (stR vs k vs[k]).size.toNat (pred31 (stR vs k vs[k]).f (l.getD k 0))) (ptR vs cs k vs[k]).a.toNat (ptR vs cs k vs[k]).size.toNat (pred32 (ptR vs cs k vs[k]).f (l.getD k 0))) (k + 1) := by
  have b1 := aS_bd hg k (by omega)
  have b2 := aS_mono hg (x := k + 1) (y := vs.length) (by omega) (Nat.le_refl _)
  have b3 := aP_bd hg cs k (by omega)
  have b5 := aS_bd hg vs.length (Nat.le_refl _)
  have b6 := hg.b k hk
  have b7 := pTo_bd hg cs k hk
  rw [aS_next hk] at b2
  have e1 : (stR vs k vs[k]).size.toNat = (vs[k].hi - vs[k].lo).toNat := by simp only [stR, Run.size]; omega
  have e2 : (ptR vs cs k vs[k]).size.toNat = (pTo cs vs[k] k - vs[k].lo + 1).toNat := rfl
  have e3 : (stR vs k vs[k]).a.toNat = (aS vs k).toNat := rfl
  have e4 : (ptR vs cs k vs[k]).a.toNat = (aP vs cs k).toNat := rfl
  have hkeep := h.keep hg (g' := asgB (asgB g (stR vs k vs[k]).a.toNat (stR vs k vs[k]).size.toNat (pred31 (stR vs k vs[k]).f (l.getD k 0))) (ptR vs cs k vs[k]).a.toNat (ptR vs cs k vs[k]).size.toNat (pred32 (ptR vs cs k vs[k]).f (l.getD k 0))) (by omega)
    (fun j hj => by rw [asgB_out (by rw [e4]; omega), asgB_out (by rw [e3]; omega)])
    (fun j hj1 hj2 => by rw [asgB_out (by rw [e4]; omega), asgB_out (by rw [e3, e1]; omega)])
  intro x hx hxk
  by_cases e : x = k
  · subst e
    refine ⟨fun i hi => ?_, fun i hi => ?_⟩
    · rw [asgB_out (by rw [e4]; omega), ← e3, asgB_in (by rw [e1]; omega)]
      rfl
    · rw [← e4, asgB_in (by rw [e2]; omega)]
      rfl
  · exact hkeep x hx (by omega)
theorem GK.next {vs : List Md.Vr} {cs : List Md.Cn} {l : List Int} {g : Nat → Bool} {k : Nat} (hg : Good vs) (hgc : GoodC vs.length cs) (hv : GV vs cs l g vs.length) (h : GK vs cs l g k) (hk : k < cs.length) :
    GV vs cs l (asgB g (pkR vs cs k cs[k]).a.toNat (pkR vs cs k cs[k]).size.toNat (pickP (rowsOf cs[k]) (xsOf cs[k]) l)) vs.length ∧ GK vs cs l (asgB g (pkR vs cs k cs[k]).a.toNat (pkR vs cs k cs[k]).size.toNat (pickP (rowsOf cs[k]) (xsOf cs[k]) l)) (k + 1) := by
  have b1 := aK_bd hg hgc k (by omega)
  have b2 := aP_bd hg cs vs.length (Nat.le_refl _)
  have b5 := aS_bd hg vs.length (Nat.le_refl _)
  have e1 : (pkR vs cs k cs[k]).a.toNat = (aK vs cs k).toNat := rfl
  have e2 : (pkR vs cs k cs[k]).size.toNat = rN cs[k] := by simp only [pkR, Run.size]; omega
  refine ⟨hv.keep hg (Nat.le_refl _) (fun j hj => asgB_out (by rw [e1]; omega)) (fun j _ hj => asgB_out (by rw [e1]; omega)), fun c hc hck i hi => ?_⟩
  by_cases e : c = k
  · subst e
    rw [← e1, asgB_in (by rw [e2]; omega)]
  · have b3 := aK_mono (vs := vs) (cs := cs) (x := c + 1) (y := k) (by omega) (by omega)
    have b4 := aK_bd hg hgc c (by omega)
    rw [aK_next hc] at b3
    rw [asgB_out (by rw [e1]; omega)]
    exact h c hc (by omega) i hi
end Od

namespace Go.Proofs.Ytkgeknlmkkoobaa
open Go.RowKit

def W6 (N lb li : Nat) (a0 a1 a2 v : Int) (X w' : World) : Prop := w'.cell? ⟨N, 0, none⟩ = some (.int .i64 a0) ∧ w'.cell? ⟨N, 1, none⟩ = some (.int .i64 a1) ∧ w'.cell? ⟨N, 2, none⟩ = some (.int .i64 a2) ∧ w'.cell? ⟨lb, li, none⟩ = some (.int .i64 v) ∧ Below X.heap.size X w'
theorem W6.next {N lb li : Nat} {a0 a1 a2 v : Int} {X w1 w2 : World} (h : w1.cell? ⟨N, 0, none⟩ = some (.int .i64 a0) ∧ w1.cell? ⟨N, 1, none⟩ = some (.int .i64 a1) ∧ w1.cell? ⟨N, 2, none⟩ = some (.int .i64 a2) ∧ w1.cell? ⟨lb, li, none⟩ = some (.int .i64 v) ∧ Below X.heap.size X w1) (hb : Below w1.heap.size w1 w2) : w2.cell? ⟨N, 0, none⟩ = some (.int .i64 a0) ∧ w2.cell? ⟨N, 1, none⟩ = some (.int .i64 a1) ∧ w2.cell? ⟨N, 2, none⟩ = some (.int .i64 a2) ∧ w2.cell? ⟨lb, li, none⟩ = some (.int .i64 v) ∧ Below X.heap.size X w2 :=
  ⟨one_next hb h.1, one_next hb h.2.1, one_next hb h.2.2.1, one_next hb h.2.2.2.1, h.2.2.2.2.trans (hb.mono h.2.2.2.2.size)⟩

set_option maxRecDepth 10000 in
set_option maxHeartbeats 4000000 in
theorem within_any {vs : List Md.Vr} {cs : List Md.Cn} {s : Sh} {V M K : Nat → Value} {B2 : Nat} {w : World} (h : Mk vs cs s V M K B2 w) (vl : Value) (l : List Int) (hI : IntsAt w vl l) (hl : l.length = vs.length) (hin : ∀ x (h : x < vs.length) (h2 : x < l.length), vs[x].lo ≤ l[x] ∧ l[x] ≤ vs[x].hi) :
    Calls Try.prog 30 #[.pointer (some ⟨s.P, 0, none⟩), vl] w fun e w' => e = .returned (.bool true) ∧ Below w.heap.size w w' := by
  have hvl : vs.length ≤ 32 := h.g.n1
  have Hn : Hid (s.n = vs.length) := h.hn
  have HG : Hid (Od.Good vs) := h.g
  obtain ⟨la, lc, rfl, _⟩ := hI.form
  have HM : Hid (∀ w', Below w.heap.size w w' → Mk vs cs s V M K B2 w') := fun w' hb => h.next hb
  have HI : Hid (∀ w', Below w.heap.size w w' → IntsAt w' (.slice la l.length lc) l) := fun w' hb => hI.below hb
  have Hl : Hid (l.length = vs.length) := hl
  have HIn : Hid (∀ x (h : x < vs.length) (h2 : x < l.length), vs[x].lo ≤ l[x] ∧ l[x] ≤ vs[x].hi) := hin
  have hne : ((l.length : Int) != (s.n : Int)) = false := by have := Hn.out; simp; omega
  obtain ⟨⟨c0, c1, c2, c3⟩, _⟩ := h.o.cells
  clear h hI hl hin
  go_enter Try.func30, Try.ntmps30
  go_wp2_with fail
  clear c0 c1 c2 c3
  go_loopw [20] (fun iv wr => ∃ k : Nat, iv = .int .i64 (k : Int) ∧ k ≤ vs.length ∧ Hid (Below w.heap.size w wr)) (fun iv _ => vs.length - (intOf iv).toNat)
  case atStart => exact ⟨0, rfl, Nat.zero_le _, Below.refl _ _⟩
  case round =>
    obtain ⟨k, rfl, hk, hB⟩ := hrel
    by_cases hlt : k < vs.length
    · have hkI : (k : Int) < (s.n : Int) := by have := Hn.out; omega
      have hkl : k < l.length := by have := Hl.out; omega
      have hklI : (k : Int) < (l.length : Int) := by omega
      obtain ⟨v0, v1, v2, v3, v4, v5⟩ := (HM.out wr hB.out).var k hlt
      obtain ⟨lb, lo', rfl, hlb, hlc⟩ := ints_all (HI.out wr hB.out) (by omega)
      have l0 := hlc k hkl
      have HL : Hid (∀ w, Calls Try.prog 44 #[runVal (Od.stR vs k vs[k])] w fun e w' => e = .returned (.int .i64 (vs[k].lo + 1 - 1)) ∧ Below w.heap.size w w') := fun w => least_any (Od.stR vs k vs[k]) w (Od.stR_fit HG.out k hlt)
      unfold runVal Od.stR at HL
      simp only at HL
      obtain ⟨i1, i2⟩ := HIn.out k hlt hkl
      clear hlc
      generalize Od.aS vs k = as0 at *
      generalize Od.aP vs cs k = ap0 at *
      generalize Od.pTo cs vs[k] k = tt at *
      generalize vs[k].lo = lo at *
      generalize vs[k].hi = hi at *
      generalize l[k] = lv at *
      rw [show lo + 1 - 1 = lo by omega] at HL
      have d1 : decide (lv < lo) = false := decide_eq_false (by omega)
      have d2 : decide (hi < lv) = false := decide_eq_false (by omega)
      have d1' : ¬ lv < lo := by omega
      have d2' : ¬ hi < lv := by omega
      obtain ⟨X, hX⟩ : ∃ X, wr.alloc (.cells #[.int .i64 as0, .int .i64 (lo + 1), .int .i64 hi, .int .i64 ap0, .int .i64 lo, .int .i64 tt] 77) = X := ⟨_, rfl⟩
      have hbX : Below wr.heap.size wr X := by rw [← hX]; exact (Below.refl _ _).alloc (Nat.le_refl _) _
      have hNX : X.heap[wr.heap.size]? = some (.cells #[.int .i64 as0, .int .i64 (lo + 1), .int .i64 hi, .int .i64 ap0, .int .i64 lo, .int .i64 tt] 77) := by rw [← hX]; exact heap_alloc_new wr _
      have HBX : Hid (Below w.heap.size w X) := hB.out.trans (hbX.mono hB.out.size)
      obtain ⟨p0, p1, p2, p3, p4, p5⟩ := box6' hNX
      have hS0 : Hid (X.cell? ⟨wr.heap.size, 0, none⟩ = some (.int .i64 as0) ∧ X.cell? ⟨wr.heap.size, 1, none⟩ = some (.int .i64 (lo + 1)) ∧ X.cell? ⟨wr.heap.size, 2, none⟩ = some (.int .i64 hi) ∧ X.cell? ⟨lb, lo' + k, none⟩ = some (.int .i64 lv) ∧ Below X.heap.size X X) := ⟨p0, p1, p2, one_next hbX l0, Below.refl _ _⟩
      clear hbX hNX p0 p1 p2 p3 p4 p5 i1 i2
      go_wp2_with fail
      clear v0 v1 v2 v3 v4 v5 l0
      go_region_held3 (fun w' => w'.cell? ⟨wr.heap.size, 0, none⟩ = some (.int .i64 as0) ∧ w'.cell? ⟨wr.heap.size, 1, none⟩ = some (.int .i64 (lo + 1)) ∧ w'.cell? ⟨wr.heap.size, 2, none⟩ = some (.int .i64 hi) ∧ w'.cell? ⟨lb, lo' + k, none⟩ = some (.int .i64 lv) ∧ Below X.heap.size X w')
        (first | exact W6.next hS0.out (Below.refl _ _).drew | exact W6.next (by assumption) (by assumption) | assumption)
        (first | (go_at_call 44; refine calls_at (HL.out _) (by with_reducible rfl) (by with_reducible rfl) ?_; rintro e w' ⟨rfl, hb⟩))
      rename_i hHeld
      rename World => wh
      have HW : Hid (Below w.heap.size w wh) := HBX.out.trans (hHeld.2.2.2.2.mono HBX.out.size)
      clear hHeld
      go_wp2_with fail
      go_roundw
      case rel => exact ⟨k + 1, by go_num, by omega, HW⟩
      case measure => simp [intOf]; omega
    · have hkI : ¬ (k : Int) < (s.n : Int) := by have := Hn.out; omega
      go_wp2_with fail
      go_ret
      exact ⟨rfl, hB.out⟩
end Go.Proofs.Ytkgeknlmkkoobaa
