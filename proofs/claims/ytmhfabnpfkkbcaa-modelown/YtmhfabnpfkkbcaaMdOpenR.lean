/-
  A constraint, as it comes in, with its numbers' bounds.
-/
import Derived.Test.YtmhfabnpfkkbcaaMdOpen
import Derived.OpenShut
namespace Go.Proofs.Ytmhfabnpfkkbcaa
open Go.ChangeShapes Go.WideShapes Go.ChangeAt Go.RowKit Go.Deep

section
variable {H : Type} {enc : TypeId × Value → H} {w : World} {base : Nat} {spare : Nat → Bool} {held : Bool} {fuel : Nat} {cs : List Value} {x : DataW H × List MemPlace}

theorem rows_cap {v : Value} (h : DataW.trod enc Try.prog w base spare held fuel 38 [v] = some x) : ∀ a n cp, v = .slice a n cp → n ≤ cp := by
  intro a' n' cp' hv
  rcases open_slice1 und30 cells27p h with ⟨he, _⟩ | ⟨a, len, cap, m, n, V, D, Pl, he, _, hl, _⟩
  · simp only [List.cons.injEq, and_true] at he
    rw [he] at hv
    injection hv with h1 h2 h3
    omega
  · simp only [List.cons.injEq, and_true] at he
    rw [he] at hv
    injection hv with h1 h2 h3
    omega
set_option maxRecDepth 100000 in
theorem terms_open2 (h : DataW.trod enc Try.prog w base spare held fuel 24 cs = some x) : ∃ v l, cs = [v] ∧ TermsAt w v l ∧ ∀ t ∈ l, -9223372036854775808 ≤ t.1 ∧ t.1 ≤ 9223372036854775807 := by
  rcases open_slice und24 h with ⟨rfl, _⟩ | ⟨a, len, cap, m, n, D, Pl, rfl, _, hl, hm, hmm, _, hx⟩
  · exact ⟨_, [], rfl, ⟨none, 0, rfl, Nat.zero_le _, fun h => absurd h (by decide)⟩, fun t ht => by simp at ht⟩
  · have hlm : len ≤ m := by rw [hmm]; split <;> omega
    have each : ∀ i, i < len → ∃ z : Int × Int, w.cell? (a.add (i * 2)) = some (.int .i64 z.1) ∧ w.cell? (a.add (i * 2 + 1)) = some (.int .i64 z.2) ∧ -9223372036854775808 ≤ z.1 ∧ z.1 ≤ 9223372036854775807 := fun i hi => by
      obtain ⟨cs', h1, h2⟩ := hx i (by omega)
      rw [cells107] at h1
      obtain ⟨xs, k, _, _, hl, hxl, hf⟩ := DataW.trod_struct und107 h2
      replace hl : cs'.length = 2 := hl.trans cells107
      match cs', hl with
      | [v0, v1], _ =>
        have g0 := hf 0 _ rfl
        have g1 := hf 1 _ rfl
        simp [cells3p] at g0 g1
        have hx : ∀ i, i < 2 → ∃ y, xs[i]? = some y := fun i hi => ⟨xs[i]'(by rw [hxl]; exact hi), List.getElem?_eq_getElem _⟩
        obtain ⟨y0, e0⟩ := hx 0 (by decide)
        obtain ⟨y1, e1⟩ := hx 1 (by decide)
        rw [e0] at g0; rw [e1] at g1
        obtain ⟨n0, h0, _, hw0⟩ := DataW.trod_int Try.underlying3 g0
        obtain ⟨n1, h1', _, _⟩ := DataW.trod_int Try.underlying3 g1
        simp at h0 h1'
        subst h0 h1'
        obtain ⟨_, _, hcell⟩ := World.cells?_some h1
        have e0 := hcell 0 (by simp)
        have e1 := hcell 1 (by simp)
        rw [add_add] at e0 e1
        exact ⟨(n0, n1), by simpa using e0, by simpa using e1, bounds_i64 hw0⟩
    obtain ⟨l, hll, hl2⟩ := list_of each
    refine ⟨_, l, rfl, ⟨some a, cap, by rw [hll], by omega, fun h0 => ?_⟩, fun t ht => by
      obtain ⟨j, hj, rfl⟩ := List.mem_iff_getElem.1 ht
      exact (hl2 j hj).2.2⟩
    obtain ⟨b, off, spot⟩ := a
    have e0 := (hl2 0 h0).1
    have hspot : spot = none := World.cell?_spot e0
    subst hspot
    refine ⟨b, off, rfl, World.block_lt_of_cell? w _ e0, fun j hj => ?_⟩
    have := hl2 j hj
    rw [addr_none, addr_none] at this
    exact ⟨this.1, by rw [Nat.add_assoc]; exact this.2.1⟩
set_option maxRecDepth 100000 in
theorem con_open2 (h : DataW.trod enc Try.prog w base spare held fuel 40 cs = some x) : ∃ c vt vx vb vr, cs = [.int .i64 c.kind, .int .i64 c.op, vt, .int .i64 c.k, .int .i64 c.v, .int .i64 c.x, .int .i64 c.y, vx, vb, vr] ∧ CnAt w c vt vx vb vr ∧ (∀ a n cp, vr = .slice a n cp → n ≤ cp) ∧ (∀ t ∈ c.terms, -9223372036854775808 ≤ t.1 ∧ t.1 ≤ 9223372036854775807) ∧ -9223372036854775808 ≤ c.k ∧ c.k ≤ 9223372036854775807 := by
  obtain ⟨xs, k, _, _, hl, hxl, hf⟩ := DataW.trod_struct und62 h
  replace hl : cs.length = 10 := hl.trans cells62
  match cs, hl with
  | [v0, v1, v2, v3, v4, v5, v6, v7, v8, v9], _ =>
    have g0 := hf 0 _ rfl
    have g1 := hf 1 _ rfl
    have g2 := hf 2 _ rfl
    have g3 := hf 3 _ rfl
    have g4 := hf 4 _ rfl
    have g5 := hf 5 _ rfl
    have g6 := hf 6 _ rfl
    have g7 := hf 7 _ rfl
    have g8 := hf 8 _ rfl
    have g9 := hf 9 _ rfl
    simp [cells3p, cells24p, cells27p, cells30p] at g0 g1 g2 g3 g4 g5 g6 g7 g8 g9
    have hx : ∀ i, i < 10 → ∃ y, xs[i]? = some y := fun i hi => ⟨xs[i]'(by rw [hxl]; exact hi), List.getElem?_eq_getElem _⟩
    obtain ⟨y0, e0⟩ := hx 0 (by decide)
    obtain ⟨y1, e1⟩ := hx 1 (by decide)
    obtain ⟨y2, e2⟩ := hx 2 (by decide)
    obtain ⟨y3, e3⟩ := hx 3 (by decide)
    obtain ⟨y4, e4⟩ := hx 4 (by decide)
    obtain ⟨y5, e5⟩ := hx 5 (by decide)
    obtain ⟨y6, e6⟩ := hx 6 (by decide)
    obtain ⟨y7, e7⟩ := hx 7 (by decide)
    obtain ⟨y8, e8⟩ := hx 8 (by decide)
    obtain ⟨y9, e9⟩ := hx 9 (by decide)
    rw [e0] at g0; rw [e1] at g1; rw [e2] at g2; rw [e3] at g3; rw [e4] at g4; rw [e5] at g5; rw [e6] at g6; rw [e7] at g7; rw [e8] at g8; rw [e9] at g9
    obtain ⟨n0, h0, _, _⟩ := DataW.trod_int Try.underlying3 g0
    obtain ⟨n1, h1, _, _⟩ := DataW.trod_int Try.underlying3 g1
    obtain ⟨u2, l2, h2, A2, R2⟩ := terms_open2 g2
    obtain ⟨n3, h3, _, W3⟩ := DataW.trod_int Try.underlying3 g3
    obtain ⟨n4, h4, _, _⟩ := DataW.trod_int Try.underlying3 g4
    obtain ⟨n5, h5, _, _⟩ := DataW.trod_int Try.underlying3 g5
    obtain ⟨n6, h6, _, _⟩ := DataW.trod_int Try.underlying3 g6
    obtain ⟨u7, l7, h7, A7, C7⟩ := ints_open g7
    obtain ⟨u8, l8, h8, A8, _⟩ := ints_open g8
    have C9 := rows_cap g9
    obtain ⟨u9, l9, h9, A9⟩ := rows_open g9
    simp at h0 h1 h2 h3 h4 h5 h6 h7 h8 h9
    subst h0 h1 h2 h3 h4 h5 h6 h7 h8 h9
    exact ⟨⟨n0, n1, l2, n3, n4, n5, n6, l7, l8, l9⟩, _, _, _, _, rfl, ⟨A2, A7, C7, A8, A9⟩, C9, R2, bounds_i64 W3⟩
end
end Go.Proofs.Ytmhfabnpfkkbcaa
