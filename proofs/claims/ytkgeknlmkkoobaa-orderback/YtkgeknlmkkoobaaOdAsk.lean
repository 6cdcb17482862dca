/-
  What an order tells: AtLeast, Is, Pick, Count: the program's.
-/
import Derived.Test.YtkgeknlmkkoobaaOdEq
namespace Go.Proofs.Ytkgeknlmkkoobaa
open Go.RowKit

/-- The order of a right problem, in memory. -/
structure Mk (vs : List Md.Vr) (cs : List Md.Cn) (s : Sh) (V M K : Nat → Value) (B2 : Nat) (w : World) : Prop where
  g : Od.Good vs
  gc : Od.GoodC vs.length cs
  hn : s.n = vs.length
  hq : s.nc = cs.length
  o : OrdAt s w (Od.aK vs cs cs.length) V M K
  st : StOk vs vs.length V
  pt : PtOk vs cs vs.length V
  ms : MsOk vs (vs.length + 1) M
  mp : MpOk vs cs (vs.length + 1) M
  k : KOk w B2 vs cs cs.length K
section
variable {vs : List Md.Vr} {cs : List Md.Cn} {s : Sh} {V M K : Nat → Value} {B2 : Nat} {w w' : World}
theorem Mk.next (h : Mk vs cs s V M K B2 w) (hb : Below w.heap.size w w') : Mk vs cs s V M K B2 w' :=
  ⟨h.g, h.gc, h.hn, h.hq, h.o.next hb, h.st, h.pt, h.ms, h.mp, h.k.off (S := fun _ => False) (fun _ h => h.elim) (Off.of_below hb)⟩
theorem Mk.var (h : Mk vs cs s V M K B2 w) (x : Nat) (hx : x < vs.length) : w.cell? ⟨s.vb, x * 6, none⟩ = some (.int .i64 (Od.aS vs x)) ∧ w.cell? ⟨s.vb, x * 6 + 1, none⟩ = some (.int .i64 (vs[x].lo + 1)) ∧ w.cell? ⟨s.vb, x * 6 + 2, none⟩ = some (.int .i64 vs[x].hi) ∧ w.cell? ⟨s.vb, x * 6 + 3, none⟩ = some (.int .i64 (Od.aP vs cs x)) ∧ w.cell? ⟨s.vb, x * 6 + 4, none⟩ = some (.int .i64 vs[x].lo) ∧ w.cell? ⟨s.vb, x * 6 + 5, none⟩ = some (.int .i64 (Od.pTo cs vs[x] x)) := by
  have hn := h.hn
  obtain ⟨a0, a1, a2⟩ := h.st x hx hx
  obtain ⟨a3, a4, a5⟩ := h.pt x hx hx
  have c := fun i hi => h.o.v.cell (i := i) hi
  refine ⟨?_, ?_, ?_, ?_, ?_, ?_⟩
  · rw [c _ (by omega), a0]
  · rw [c _ (by omega), a1]
  · rw [c _ (by omega), a2]
  · rw [c _ (by omega), a3]
  · rw [c _ (by omega), a4]
  · rw [c _ (by omega), a5]
theorem Mk.mark (h : Mk vs cs s V M K B2 w) (x : Nat) (hx : x ≤ vs.length) : w.cell? ⟨s.mb, x * 2, none⟩ = some (.int .i64 (Od.aS vs x)) ∧ w.cell? ⟨s.mb, x * 2 + 1, none⟩ = some (.int .i64 (Od.aP vs cs x)) := by
  have hn := h.hn
  have c := fun i hi => h.o.m.cell (i := i) hi
  refine ⟨?_, ?_⟩
  · rw [c _ (by omega), h.ms x (by omega)]
  · rw [c _ (by omega), h.mp x (by omega)]
theorem Mk.con (h : Mk vs cs s V M K B2 w) (x : Nat) (hx : x < cs.length) : ∃ vx vr, (w.cell? ⟨s.kb, x * 5, none⟩ = some (.int .i64 (Od.aK vs cs x)) ∧ w.cell? ⟨s.kb, x * 5 + 1, none⟩ = some (.int .i64 0) ∧ w.cell? ⟨s.kb, x * 5 + 2, none⟩ = some (.int .i64 ((Od.rN cs[x] : Int) - 1)) ∧ w.cell? ⟨s.kb, x * 5 + 3, none⟩ = some vx ∧ w.cell? ⟨s.kb, x * 5 + 4, none⟩ = some vr) ∧ vx = K (x * 5 + 3) ∧ vr = K (x * 5 + 4) ∧ PickAt w B2 cs[x] vx vr := by
  have hq := h.hq
  obtain ⟨a0, a1, a2, a3⟩ := h.k.1 x hx hx
  have c := fun i hi => h.o.k.cell (i := i) hi
  refine ⟨_, _, ⟨?_, ?_, ?_, c _ (by omega), c _ (by omega)⟩, rfl, rfl, a3⟩
  · rw [c _ (by omega), a0]
  · rw [c _ (by omega), a1]
  · rw [c _ (by omega), a2]

set_option maxHeartbeats 400000 in
theorem count_any (h : Mk vs cs s V M K B2 w) : Calls Try.prog 17 #[.pointer (some ⟨s.P, 0, none⟩)] w fun e w' => e = .returned (.int .i64 (Od.aK vs cs cs.length)) ∧ w' = w := by
  obtain ⟨⟨c0, c1, c2, c3⟩, _⟩ := h.o.cells
  clear h
  generalize Od.aK vs cs cs.length = cnt at *
  go_enter Try.func17, Try.ntmps17
  go_wp2_with fail
  go_ret
  exact ⟨rfl, rfl⟩

set_option maxHeartbeats 1000000 in
theorem atLeastO_any (h : Mk vs cs s V M K B2 w) (x : Nat) (hx : x < vs.length) (k : Int) : Calls Try.prog 10 #[.pointer (some ⟨s.P, 0, none⟩), .int .i64 (x : Int), .int .i64 k] w fun e w' => e = .returned (pairVal ((Od.stR vs x vs[x]).atLeast k)) ∧ Below w.heap.size w w' := by
  obtain ⟨⟨c0, c1, c2, c3⟩, _⟩ := h.o.cells
  obtain ⟨v0, v1, v2, v3, v4, v5⟩ := h.var x hx
  have HA : Hid (∀ w, Calls Try.prog 25 #[runVal (Od.stR vs x vs[x]), .int .i64 k] w fun e w' => e = .returned (pairVal ((Od.stR vs x vs[x]).atLeast k)) ∧ Below w.heap.size w w') := fun w => atLeast_any _ k w (Od.stR_fit h.g x hx)
  generalize (Od.stR vs x vs[x]).atLeast k = p at *
  unfold runVal Od.stR at HA
  unfold pairVal at HA
  simp only at HA
  have hxI : (x : Int) < (s.n : Int) := by have := h.hn; omega
  have hx0 : ¬ (x : Int) < 0 := by omega
  have hxd : decide ((x : Int) < 0) = false := decide_eq_false hx0
  have hx1 : ¬ (s.n : Int) ≤ (x : Int) := by omega
  clear h
  go_enter Try.func10, Try.ntmps10
  go_wp2_with fail
  refine calls_at (HA.out _) (by with_reducible rfl) (by with_reducible rfl) ?_
  rintro e w1 ⟨rfl, hb1⟩
  go_wp2_with fail
  go_ret2
  exact ⟨rfl, hb1⟩
set_option maxHeartbeats 1000000 in
theorem isO_any (h : Mk vs cs s V M K B2 w) (x : Nat) (hx : x < vs.length) (k : Int) : Calls Try.prog 13 #[.pointer (some ⟨s.P, 0, none⟩), .int .i64 (x : Int), .int .i64 k] w fun e w' => e = .returned (pairVal ((Od.ptR vs cs x vs[x]).is k)) ∧ Below w.heap.size w w' := by
  obtain ⟨⟨c0, c1, c2, c3⟩, _⟩ := h.o.cells
  obtain ⟨v0, v1, v2, v3, v4, v5⟩ := h.var x hx
  have HA : Hid (∀ w, Calls Try.prog 29 #[runVal (Od.ptR vs cs x vs[x]), .int .i64 k] w fun e w' => e = .returned (pairVal ((Od.ptR vs cs x vs[x]).is k)) ∧ Below w.heap.size w w') := fun w => is_any _ k w (Od.ptR_fit h.g cs x hx)
  generalize (Od.ptR vs cs x vs[x]).is k = p at *
  unfold runVal Od.ptR at HA
  unfold pairVal at HA
  simp only at HA
  have hxI : (x : Int) < (s.n : Int) := by have := h.hn; omega
  have hx0 : ¬ (x : Int) < 0 := by omega
  have hxd : decide ((x : Int) < 0) = false := decide_eq_false hx0
  have hx1 : ¬ (s.n : Int) ≤ (x : Int) := by omega
  clear h
  go_enter Try.func13, Try.ntmps13
  go_wp2_with fail
  refine calls_at (HA.out _) (by with_reducible rfl) (by with_reducible rfl) ?_
  rintro e w1 ⟨rfl, hb1⟩
  go_wp2_with fail
  go_ret2
  exact ⟨rfl, hb1⟩
set_option maxHeartbeats 1000000 in
theorem pickO_any (h : Mk vs cs s V M K B2 w) (x : Nat) (hx : x < cs.length) (k : Int) : Calls Try.prog 15 #[.pointer (some ⟨s.P, 0, none⟩), .int .i64 (x : Int), .int .i64 k] w fun e w' => e = .returned (pairVal ((Od.pkR vs cs x cs[x]).pick k)) ∧ Below w.heap.size w w' := by
  obtain ⟨⟨c0, c1, c2, c3⟩, _⟩ := h.o.cells
  obtain ⟨vx, vr, ⟨v0, v1, v2, v3, v4⟩, e1, e2, hP⟩ := h.con x hx
  clear e1 e2
  have HA : Hid (∀ w, Calls Try.prog 34 #[.agg #[.int .i64 (Od.aK vs cs x), .int .i64 0, .int .i64 ((Od.rN cs[x] : Int) - 1), vx, vr], .int .i64 k] w fun e w' => e = .returned (pairVal ((Od.pkR vs cs x cs[x]).pick k)) ∧ Below w.heap.size w w') := fun w => pick_any (Od.pkR vs cs x cs[x]) vx vr k w (Od.pkR_fit h.g h.gc x hx) hP.forms.1 hP.forms.2
  obtain ⟨⟨xa, xn, xc, rfl⟩, ⟨ra, rn, rc, rfl⟩⟩ := hP.forms
  generalize (Od.pkR vs cs x cs[x]).pick k = p at *
  unfold pairVal at HA
  have hxI : (x : Int) < (s.nc : Int) := by have := h.hq; omega
  have hx0 : ¬ (x : Int) < 0 := by omega
  have hxd : decide ((x : Int) < 0) = false := decide_eq_false hx0
  have hx1 : ¬ (s.nc : Int) ≤ (x : Int) := by omega
  clear h hP
  go_enter Try.func15, Try.ntmps15
  go_wp2_with fail
  refine calls_at (HA.out _) (by with_reducible rfl) (by with_reducible rfl) ?_
  rintro e w1 ⟨rfl, hb1⟩
  go_wp2_with fail
  go_ret2
  exact ⟨rfl, hb1⟩
end
end Go.Proofs.Ytkgeknlmkkoobaa
