/-
  Put together: MdOpen, MdOpenM.
-/
import Derived.Test.YtmhfabnpfkkbcaaGreatMdAt
import Derived.Test.YtmhfabnpfkkbcaaGreatMdLay
import Derived.Deep.Slices
import Derived.ChangeSame
import Derived.ChangeMaps
import Derived.WideShapes
import Derived.ProofKit
import Derived.Test.YtmhfabnpfkkbcaaGreatMdRoomMN
namespace Go.Proofs.YtmhfabnpfkkbcaaGreat
open Go.ChangeShapes Go.WideShapes Go.ChangeAt Go.RowKit Go.Deep

theorem und107 : Tryz.prog.underlying 107 = some (.struct #[⟨"C", 3, 0, false, "", "", 0⟩, ⟨"X", 3, 1, false, "", "", 8⟩]) := by kernel_rfl
theorem und62 : Tryz.prog.underlying 62 = some (.struct #[⟨"Kind", 3, 0, false, "", "", 0⟩, ⟨"Op", 3, 1, false, "", "", 8⟩, ⟨"Terms", 24, 2, false, "", "", 16⟩, ⟨"K", 3, 3, false, "", "", 40⟩, ⟨"V", 3, 4, false, "", "", 48⟩, ⟨"X", 3, 5, false, "", "", 56⟩, ⟨"Y", 3, 6, false, "", "", 64⟩, ⟨"Xs", 27, 7, false, "", "", 72⟩, ⟨"Table", 27, 8, false, "", "", 96⟩, ⟨"Rows", 30, 9, false, "", "", 120⟩]) := by kernel_rfl
theorem cells62 : Tryz.prog.cellsOf 62 = 10 := by kernel_rfl
theorem cells107 : Tryz.prog.cellsOf 107 = 2 := by kernel_rfl
theorem cells3p : Tryz.prog.cellsOf 3 = 1 := by kernel_rfl
theorem cells27p : Tryz.prog.cellsOf 27 = 1 := by kernel_rfl
theorem cells24p : Tryz.prog.cellsOf 24 = 1 := by kernel_rfl
theorem cells30p : Tryz.prog.cellsOf 30 = 1 := by kernel_rfl

theorem list_of {α : Type} [Inhabited α] {n : Nat} {p : Nat → α → Prop} (h : ∀ i, i < n → ∃ a, p i a) : ∃ l : List α, l.length = n ∧ ∀ i (hi : i < l.length), p i l[i] := by
  obtain ⟨f, hf⟩ := choose_lt h
  exact ⟨(List.range n).map f, by simp, fun i hi => by simp only [List.getElem_map, List.getElem_range]; exact hf i (by simpa using hi)⟩

section
variable {H : Type} {enc : TypeId × Value → H} {w : World} {base : Nat} {spare : Nat → Bool} {held : Bool} {fuel : Nat} {cs : List Value} {x : DataW H × List MemPlace}

theorem ints_open (h : DataW.trod enc Tryz.prog w base spare held fuel 27 cs = some x) : ∃ v l, cs = [v] ∧ IntsAt w v l ∧ ∀ a n cp, v = .slice a n cp → n ≤ cp := by
  rcases open_slice1 und27 cells3p h with ⟨rfl, _⟩ | ⟨a, len, cap, m, n, V, D, Pl, rfl, _, hl, hm, hmm, _, hx⟩
  · exact ⟨_, [], rfl, ⟨none, 0, rfl, Nat.zero_le _, fun h => absurd h (by decide)⟩, fun a n cp h => by injection h with h1 h2 h3; omega⟩
  · have hlm : len ≤ m := by rw [hmm]; split <;> omega
    have each : ∀ i, i < len → ∃ z : Int, w.cell? (a.add i) = some (.int .i64 z) := fun i hi => by
      obtain ⟨h1, h2⟩ := hx i (by omega)
      obtain ⟨z, hz, _⟩ := DataW.trod_int Tryz.underlying3 h2
      rw [h1]
      exact ⟨z, congrArg some (by simpa using hz)⟩
    obtain ⟨l, hll, hl2⟩ := list_of each
    refine ⟨_, l, rfl, ⟨some a, cap, by rw [hll], by omega, fun h0 => ?_⟩, fun a n cp h => by injection h with h1 h2 h3; omega⟩
    obtain ⟨b, off, spot⟩ := a
    have e0 := hl2 0 h0
    have hspot : spot = none := World.cell?_spot e0
    subst hspot
    refine ⟨b, off, rfl, World.block_lt_of_cell? w _ e0, fun j hj => ?_⟩
    have := hl2 j hj
    rwa [addr_none] at this

set_option maxRecDepth 100000 in
theorem terms_open (h : DataW.trod enc Tryz.prog w base spare held fuel 24 cs = some x) : ∃ v l, cs = [v] ∧ TermsAt w v l := by
  rcases open_slice und24 h with ⟨rfl, _⟩ | ⟨a, len, cap, m, n, D, Pl, rfl, _, hl, hm, hmm, _, hx⟩
  · exact ⟨_, [], rfl, ⟨none, 0, rfl, Nat.zero_le _, fun h => absurd h (by decide)⟩⟩
  · have hlm : len ≤ m := by rw [hmm]; split <;> omega
    have each : ∀ i, i < len → ∃ z : Int × Int, w.cell? (a.add (i * 2)) = some (.int .i64 z.1) ∧ w.cell? (a.add (i * 2 + 1)) = some (.int .i64 z.2) := fun i hi => by
      obtain ⟨cs', h1, h2⟩ := hx i (by omega)
      rw [cells107] at h1
      obtain ⟨xs, k, _, _, hl, hxl, hf⟩ := DataW.trod_struct und107 h2
      replace hl : cs'.length = 2 := hl.trans cells107
      match cs', hl with
      | [v0, v1], _ =>
        have g0 := hf 0 _ rfl
        have g1 := hf 1 _ rfl
        simp [cells3p] at g0 g1
        have hx : ∀ i, i < 2 → ∃ y, xs[i]? = some y := fun i hi => ⟨xs[i]'(by rw [hxl]; exact hi), List.getElem?_eq_getElem _⟩
        obtain ⟨y0, e0⟩ := hx 0 (by decide)
        obtain ⟨y1, e1⟩ := hx 1 (by decide)
        rw [e0] at g0; rw [e1] at g1
        obtain ⟨n0, h0, _, _⟩ := DataW.trod_int Tryz.underlying3 g0
        obtain ⟨n1, h1', _, _⟩ := DataW.trod_int Tryz.underlying3 g1
        simp at h0 h1'
        subst h0 h1'
        obtain ⟨_, _, hcell⟩ := World.cells?_some h1
        have e0 := hcell 0 (by simp)
        have e1 := hcell 1 (by simp)
        rw [add_add] at e0 e1
        exact ⟨(n0, n1), by simpa using e0, by simpa using e1⟩
    obtain ⟨l, hll, hl2⟩ := list_of each
    refine ⟨_, l, rfl, ⟨some a, cap, by rw [hll], by omega, fun h0 => ?_⟩⟩
    obtain ⟨b, off, spot⟩ := a
    have e0 := (hl2 0 h0).1
    have hspot : spot = none := World.cell?_spot e0
    subst hspot
    refine ⟨b, off, rfl, World.block_lt_of_cell? w _ e0, fun j hj => ?_⟩
    have := hl2 j hj
    rw [addr_none, addr_none] at this
    exact ⟨this.1, by rw [Nat.add_assoc]; exact this.2⟩

theorem rows_open (h : DataW.trod enc Tryz.prog w base spare held fuel 30 cs = some x) : ∃ v l, cs = [v] ∧ RowsAt w v l := by
  rcases open_slice1 und30 cells27p h with ⟨rfl, _⟩ | ⟨a, len, cap, m, n, V, D, Pl, rfl, _, hl, hm, hmm, _, hx⟩
  · exact ⟨_, [], rfl, ⟨none, 0, rfl, Nat.zero_le _, fun h => absurd h (by decide)⟩⟩
  · have hlm : len ≤ m := by rw [hmm]; split <;> omega
    have each : ∀ i, i < len → ∃ z : List Int, ∃ u, w.cell? (a.add i) = some u ∧ IntsAt w u z := fun i hi => by
      obtain ⟨h1, h2⟩ := hx i (by omega)
      obtain ⟨v, l, hv, hI, _⟩ := ints_open h2
      rw [h1]
      exact ⟨l, V i, rfl, by have e : V i = v := by simpa using hv
                             rw [e]; exact hI⟩
    obtain ⟨l, hll, hl2⟩ := list_of each
    refine ⟨_, l, rfl, ⟨some a, cap, by rw [hll], by omega, fun h0 => ?_⟩⟩
    obtain ⟨b, off, spot⟩ := a
    obtain ⟨u0, e0, _⟩ := hl2 0 h0
    have hspot : spot = none := World.cell?_spot e0
    subst hspot
    refine ⟨b, off, rfl, World.block_lt_of_cell? w _ e0, fun j hj => ?_⟩
    have := hl2 j hj
    rwa [addr_none] at this

set_option maxRecDepth 100000 in
theorem con_open (h : DataW.trod enc Tryz.prog w base spare held fuel 62 cs = some x) : ∃ c vt vx vb vr, cs = [.int .i64 c.kind, .int .i64 c.op, vt, .int .i64 c.k, .int .i64 c.v, .int .i64 c.x, .int .i64 c.y, vx, vb, vr] ∧ CnAt w c vt vx vb vr := by
  obtain ⟨xs, k, _, _, hl, hxl, hf⟩ := DataW.trod_struct und62 h
  replace hl : cs.length = 10 := hl.trans cells62
  match cs, hl with
  | [v0, v1, v2, v3, v4, v5, v6, v7, v8, v9], _ =>
    have g0 := hf 0 _ rfl
    have g1 := hf 1 _ rfl
    have g2 := hf 2 _ rfl
    have g3 := hf 3 _ rfl
    have g4 := hf 4 _ rfl
    have g5 := hf 5 _ rfl
    have g6 := hf 6 _ rfl
    have g7 := hf 7 _ rfl
    have g8 := hf 8 _ rfl
    have g9 := hf 9 _ rfl
    simp [cells3p, cells24p, cells27p, cells30p] at g0 g1 g2 g3 g4 g5 g6 g7 g8 g9
    have hx : ∀ i, i < 10 → ∃ y, xs[i]? = some y := fun i hi => ⟨xs[i]'(by rw [hxl]; exact hi), List.getElem?_eq_getElem _⟩
    obtain ⟨y0, e0⟩ := hx 0 (by decide)
    obtain ⟨y1, e1⟩ := hx 1 (by decide)
    obtain ⟨y2, e2⟩ := hx 2 (by decide)
    obtain ⟨y3, e3⟩ := hx 3 (by decide)
    obtain ⟨y4, e4⟩ := hx 4 (by decide)
    obtain ⟨y5, e5⟩ := hx 5 (by decide)
    obtain ⟨y6, e6⟩ := hx 6 (by decide)
    obtain ⟨y7, e7⟩ := hx 7 (by decide)
    obtain ⟨y8, e8⟩ := hx 8 (by decide)
    obtain ⟨y9, e9⟩ := hx 9 (by decide)
    rw [e0] at g0; rw [e1] at g1; rw [e2] at g2; rw [e3] at g3; rw [e4] at g4; rw [e5] at g5; rw [e6] at g6; rw [e7] at g7; rw [e8] at g8; rw [e9] at g9
    obtain ⟨n0, h0, _, _⟩ := DataW.trod_int Tryz.underlying3 g0
    obtain ⟨n1, h1, _, _⟩ := DataW.trod_int Tryz.underlying3 g1
    obtain ⟨u2, l2, h2, A2⟩ := terms_open g2
    obtain ⟨n3, h3, _, _⟩ := DataW.trod_int Tryz.underlying3 g3
    obtain ⟨n4, h4, _, _⟩ := DataW.trod_int Tryz.underlying3 g4
    obtain ⟨n5, h5, _, _⟩ := DataW.trod_int Tryz.underlying3 g5
    obtain ⟨n6, h6, _, _⟩ := DataW.trod_int Tryz.underlying3 g6
    obtain ⟨u7, l7, h7, A7, C7⟩ := ints_open g7
    obtain ⟨u8, l8, h8, A8, _⟩ := ints_open g8
    obtain ⟨u9, l9, h9, A9⟩ := rows_open g9
    simp at h0 h1 h2 h3 h4 h5 h6 h7 h8 h9
    subst h0 h1 h2 h3 h4 h5 h6 h7 h8 h9
    exact ⟨⟨n0, n1, l2, n3, n4, n5, n6, l7, l8, l9⟩, _, _, _, _, rfl, ⟨A2, A7, C7, A8, A9⟩⟩
end
end Go.Proofs.YtmhfabnpfkkbcaaGreat

namespace Go.Proofs.YtmhfabnpfkkbcaaGreat
open Go.ChangeShapes Go.WideShapes Go.ChangeAt Go.RowKit Go.Deep

theorem und78 : Tryz.prog.underlying 78 = some (.struct #[⟨"Name", 9, 0, false, "", "", 0⟩, ⟨"Lo", 3, 1, false, "", "", 16⟩, ⟨"Hi", 3, 2, false, "", "", 24⟩]) := by kernel_rfl
theorem und26 : Tryz.prog.underlying 26 = some (.struct #[⟨"Vars", 22, 0, false, "", "", 0⟩, ⟨"Cons", 23, 1, false, "", "", 24⟩, ⟨"HasGoal", 4, 2, false, "", "", 48⟩, ⟨"Goal", 24, 3, false, "", "", 56⟩]) := by kernel_rfl
theorem cells78p : Tryz.prog.cellsOf 78 = 3 := by kernel_rfl
theorem cells26p : Tryz.prog.cellsOf 26 = 4 := by kernel_rfl
theorem cells9p : Tryz.prog.cellsOf 9 = 1 := by kernel_rfl
theorem cells4p : Tryz.prog.cellsOf 4 = 1 := by kernel_rfl
theorem cells22p : Tryz.prog.cellsOf 22 = 1 := by kernel_rfl
theorem cells23p : Tryz.prog.cellsOf 23 = 1 := by kernel_rfl

section
variable {H : Type} {enc : TypeId × Value → H} {w : World} {base : Nat} {spare : Nat → Bool} {held : Bool} {fuel : Nat} {cs : List Value} {x : DataW H × List MemPlace}

set_option maxRecDepth 100000 in
theorem vars_open (h : DataW.trod enc Tryz.prog w base spare held fuel 22 cs = some x) : ∃ v l, cs = [v] ∧ VarsAt w v l ∧ ∀ a n cp, v = .slice a n cp → n ≤ cp := by
  rcases open_slice und22 h with ⟨rfl, _⟩ | ⟨a, len, cap, m, n, D, Pl, rfl, _, hl, hm, hmm, _, hx⟩
  · exact ⟨_, [], rfl, ⟨none, 0, rfl, Nat.zero_le _, fun x hx => by simp at hx, fun h => absurd h (by decide)⟩, fun a n cp h => by injection h with h1 h2 h3; omega⟩
  · have hlm : len ≤ m := by rw [hmm]; split <;> omega
    have each : ∀ i, i < len → ∃ z : Md.Vr, (w.cell? (a.add (i * 3)) = some (.string z.name) ∧ w.cell? (a.add (i * 3 + 1)) = some (.int .i64 z.lo) ∧ w.cell? (a.add (i * 3 + 2)) = some (.int .i64 z.hi)) ∧ z.name.size ≤ maxLen := fun i hi => by
      obtain ⟨cs', h1, h2⟩ := hx i (by omega)
      rw [cells78p] at h1
      obtain ⟨xs, k, _, _, hl, hxl, hf⟩ := DataW.trod_struct und78 h2
      replace hl : cs'.length = 3 := hl.trans cells78p
      match cs', hl with
      | [v0, v1, v2], _ =>
        have g0 := hf 0 _ rfl
        have g1 := hf 1 _ rfl
        have g2 := hf 2 _ rfl
        simp [cells3p, cells9p] at g0 g1 g2
        have hx : ∀ i, i < 3 → ∃ y, xs[i]? = some y := fun i hi => ⟨xs[i]'(by rw [hxl]; exact hi), List.getElem?_eq_getElem _⟩
        obtain ⟨y0, e0⟩ := hx 0 (by decide)
        obtain ⟨y1, e1⟩ := hx 1 (by decide)
        obtain ⟨y2, e2⟩ := hx 2 (by decide)
        rw [e0] at g0; rw [e1] at g1; rw [e2] at g2
        obtain ⟨s, h0, _, hs⟩ := DataW.trod_string Tryz.underlying9 g0
        obtain ⟨n1, h1', _, _⟩ := DataW.trod_int Tryz.underlying3 g1
        obtain ⟨n2, h2', _, _⟩ := DataW.trod_int Tryz.underlying3 g2
        simp at h0 h1' h2'
        subst h0 h1' h2'
        obtain ⟨_, _, hcell⟩ := World.cells?_some h1
        have e0 := hcell 0 (by simp)
        have e1 := hcell 1 (by simp)
        have e2 := hcell 2 (by simp)
        rw [add_add] at e0 e1 e2
        exact ⟨⟨s, n1, n2⟩, ⟨by simpa using e0, by simpa using e1, by simpa using e2⟩, hs⟩
    haveI : Inhabited Md.Vr := ⟨⟨⟨#[]⟩, 0, 0⟩⟩
    obtain ⟨l, hll, hl2⟩ := list_of each
    refine ⟨_, l, rfl, ⟨some a, cap, by rw [hll], by omega, fun x hx => ?_, fun h0 => ?_⟩, fun a n cp h => by injection h with h1 h2 h3; omega⟩
    · obtain ⟨i, hi, rfl⟩ := List.getElem_of_mem hx
      exact (hl2 i hi).2
    · obtain ⟨b, off, spot⟩ := a
      have e0 := (hl2 0 h0).1.1
      have hspot : spot = none := World.cell?_spot e0
      subst hspot
      refine ⟨b, off, rfl, World.block_lt_of_cell? w _ e0, fun j hj => ?_⟩
      have := (hl2 j hj).1
      rw [addr_none, addr_none, addr_none] at this
      exact ⟨this.1, by rw [Nat.add_assoc]; exact this.2.1, by rw [Nat.add_assoc]; exact this.2.2⟩

theorem cons_open (h : DataW.trod enc Tryz.prog w base spare held fuel 23 cs = some x) : ∃ v l, cs = [v] ∧ ConsAt w v l := by
  rcases open_slice und23 h with ⟨rfl, _⟩ | ⟨a, len, cap, m, n, D, Pl, rfl, _, hl, hm, hmm, _, hx⟩
  · exact ⟨_, [], rfl, ⟨none, 0, rfl, Nat.zero_le _, fun h => absurd h (by decide)⟩⟩
  · have hlm : len ≤ m := by rw [hmm]; split <;> omega
    have each : ∀ i, i < len → ∃ c : Md.Cn, ∃ vt vx vb vr, CnAt w c vt vx vb vr ∧ ∀ j u, [.int .i64 c.kind, .int .i64 c.op, vt, .int .i64 c.k, .int .i64 c.v, .int .i64 c.x, .int .i64 c.y, vx, vb, vr][j]? = some u → w.cell? (a.add (i * 10 + j)) = some u := fun i hi => by
      obtain ⟨cs', h1, h2⟩ := hx i (by omega)
      rw [cells62] at h1
      obtain ⟨c, vt, vx, vb, vr, hc, hC⟩ := con_open h2
      subst hc
      obtain ⟨_, _, hcell⟩ := World.cells?_some h1
      refine ⟨c, vt, vx, vb, vr, hC, fun j u hj => ?_⟩
      have := hcell j (List.getElem?_eq_some_iff.1 hj).1
      rw [add_add] at this
      rw [this]; exact hj
    haveI : Inhabited Md.Cn := ⟨⟨0, 0, [], 0, 0, 0, 0, [], [], []⟩⟩
    obtain ⟨l, hll, hl2⟩ := list_of each
    refine ⟨_, l, rfl, ⟨some a, cap, by rw [hll], by omega, fun h0 => ?_⟩⟩
    obtain ⟨b, off, spot⟩ := a
    obtain ⟨_, _, _, _, _, e0⟩ := hl2 0 h0
    have e0' := e0 0 _ rfl
    have hspot : spot = none := World.cell?_spot e0'
    subst hspot
    refine ⟨b, off, rfl, World.block_lt_of_cell? w _ e0', fun j hj => ?_⟩
    obtain ⟨vt, vx, vb, vr, hC, he⟩ := hl2 j hj
    have he' : ∀ i u, [.int .i64 l[j].kind, .int .i64 l[j].op, vt, .int .i64 l[j].k, .int .i64 l[j].v, .int .i64 l[j].x, .int .i64 l[j].y, vx, vb, vr][i]? = some u → w.cell? ⟨b, off + j * 10 + i, none⟩ = some u := fun i u hu => by
      have := he i u hu
      rw [addr_none] at this
      rw [Nat.add_assoc]; exact this
    exact ⟨vt, vx, vb, vr, hC, he' 0 _ rfl, he' 1 _ rfl, he' 2 _ rfl, he' 3 _ rfl, he' 4 _ rfl, he' 5 _ rfl, he' 6 _ rfl, he' 7 _ rfl, he' 8 _ rfl, he' 9 _ rfl⟩

set_option maxRecDepth 100000 in
theorem mo_open (h : DataW.trod enc Tryz.prog w base spare held fuel 26 cs = some x) : ∃ m vv vc vg, cs = [vv, vc, .bool m.has, vg] ∧ MoAt w m vv vc vg := by
  obtain ⟨xs, k, _, _, hl, hxl, hf⟩ := DataW.trod_struct und26 h
  replace hl : cs.length = 4 := hl.trans cells26p
  match cs, hl with
  | [v0, v1, v2, v3], _ =>
    have g0 := hf 0 _ rfl
    have g1 := hf 1 _ rfl
    have g2 := hf 2 _ rfl
    have g3 := hf 3 _ rfl
    simp [cells22p, cells23p, cells24p, cells4p] at g0 g1 g2 g3
    have hx : ∀ i, i < 4 → ∃ y, xs[i]? = some y := fun i hi => ⟨xs[i]'(by rw [hxl]; exact hi), List.getElem?_eq_getElem _⟩
    obtain ⟨y0, e0⟩ := hx 0 (by decide)
    obtain ⟨y1, e1⟩ := hx 1 (by decide)
    obtain ⟨y2, e2⟩ := hx 2 (by decide)
    obtain ⟨y3, e3⟩ := hx 3 (by decide)
    rw [e0] at g0; rw [e1] at g1; rw [e2] at g2; rw [e3] at g3
    obtain ⟨u0, l0, h0, A0, C0⟩ := vars_open g0
    obtain ⟨u1, l1, h1, A1⟩ := cons_open g1
    obtain ⟨b2, h2, _⟩ := DataW.trod_bool Tryz.underlying4 g2
    obtain ⟨u3, l3, h3, A3⟩ := terms_open g3
    simp at h0 h1 h2 h3
    subst h0 h1 h2 h3
    exact ⟨⟨l0, l1, b2, l3⟩, _, _, _, rfl, ⟨A0, C0, A1, A3⟩⟩
end
end Go.Proofs.YtmhfabnpfkkbcaaGreat
