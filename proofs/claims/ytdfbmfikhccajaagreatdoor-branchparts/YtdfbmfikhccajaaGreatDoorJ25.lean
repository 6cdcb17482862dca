/-
  Put together: MdIns, MdInsM, MdOpenM.
-/
import Derived.Test.YtdfbmfikhccajaaGreatDoorJ22
import Derived.Test.YtdfbmfikhccajaaGreatDoorJ03
import Derived.Test.YtdfbmfikhccajaaGreatDoorMdOpen
import Derived.Deep.QuietTactic
import Derived.BigQuiet
namespace Go.Proofs.YtdfbmfikhccajaaGreatDoor
open Go.RowKit

theorem info3 : (Tryz.prog.info? 3).map (fun i => (i.zero, i.size, i.bytes)) = some (some (.int .i64 0), 1, 8) := by kernel_rfl
/-- The value at a place, within the bounds. -/
def insV (vars : List Md.Vr) (l : List Int) (j : Nat) : Int :=
  match vars[j]? with
  | some v => (match l[j]? with | some a => v.lo + plc a (v.hi - v.lo + 1) | none => v.lo)
  | none => 0
def insL (vars : List Md.Vr) (l : List Int) (k : Nat) : List Value := (List.range k).map fun j => .int .i64 (insV vars l j)
theorem insL_next (vars : List Md.Vr) (l : List Int) (k : Nat) : insL vars l (k + 1) = insL vars l k ++ [.int .i64 (insV vars l k)] := by
  unfold insL; rw [List.range_succ]; simp
theorem insV_a {vars : List Md.Vr} {l : List Int} {k : Nat} (h : k < vars.length) (h2 : k < l.length) : insV vars l k = vars[k].lo + plc l[k] (vars[k].hi - vars[k].lo + 1) := by
  unfold insV; rw [List.getElem?_eq_getElem h, List.getElem?_eq_getElem h2]
theorem insV_b {vars : List Md.Vr} {l : List Int} {k : Nat} (h : k < vars.length) (h2 : ¬ k < l.length) : insV vars l k = vars[k].lo := by
  unfold insV; rw [List.getElem?_eq_getElem h, List.getElem?_eq_none (by omega)]
theorem own_dn {w : World} {B e size n : Nat} {v : Value} {xs : List Value} (h : w.ownsRow B e size v n xs) : ∀ q, (w.drewN q).ownsRow B e size v n xs
  | 0 => h
  | q + 1 => (own_dn h q).drew

theorem own_lower {w : World} {B B' e size n : Nat} {v : Value} {xs : List Value} (h : w.ownsRow B e size v n xs) (hB : B' ≤ B) : w.ownsRow B' e size v n xs := by
  refine ⟨h.1, ?_⟩
  rcases h.2 with h2 | ⟨g, cap, cur, hv, hg, rest⟩
  · exact .inl h2
  · exact .inr ⟨g, cap, cur, hv, Nat.le_trans hB hg, rest⟩

end Go.Proofs.YtdfbmfikhccajaaGreatDoor

namespace Go.Proofs.YtdfbmfikhccajaaGreatDoor
open Go.RowKit

/-- The values that inside makes. -/
def insI (vars : List Md.Vr) (l : List Int) : List Int := (List.range vars.length).map (insV vars l)
theorem insI_len (vars : List Md.Vr) (l : List Int) : (insI vars l).length = vars.length := by simp [insI]
theorem insL_eq (vars : List Md.Vr) (l : List Int) : insL vars l vars.length = (insI vars l).map (.int .i64) := by simp [insL, insI]
theorem insV_in {vars : List Md.Vr} {l : List Int} {k : Nat} (h : k < vars.length) (hb : Md.boundsB vars[k].lo vars[k].hi = true) : vars[k].lo ≤ insV vars l k ∧ insV vars l k ≤ vars[k].hi := by
  obtain ⟨_, _, b5, b6⟩ := Md.bounds_of hb
  by_cases h2 : k < l.length
  · rw [insV_a h h2]
    obtain ⟨q1, q2⟩ := plc_in l[k] (vars[k].hi - vars[k].lo + 1) (by omega)
    omega
  · rw [insV_b h h2]
    omega
theorem insI_num {vars : List Md.Vr} {l : List Int} (hb : ∀ v ∈ vars, Md.boundsB v.lo v.hi = true) : (insI vars l).all Md.numB = true := by
  rw [List.all_eq_true]
  intro x hx
  obtain ⟨k, hk, rfl⟩ := List.mem_map.1 hx
  have hk : k < vars.length := List.mem_range.1 hk
  have h := insV_in (l := l) hk (hb _ (List.getElem_mem hk))
  obtain ⟨⟨b1, b2⟩, ⟨b3, b4⟩, _⟩ := Md.bounds_of (hb _ (List.getElem_mem hk))
  simp only [Md.numB, decide_eq_true_eq]
  omega

/-- A row of the call's own, of ints. -/
theorem own_ints {w : World} {B : Nat} {v : Value} {l : List Int} (h : w.ownsRow B 3 1 v l.length (l.map (.int .i64))) (hm : l.length ≤ maxLen) : IntsAt w v l := by
  rcases h.2 with ⟨rfl, hn⟩ | ⟨g, cap, cur, rfl, hg, hc, _, _, _, ht⟩
  · exact ⟨none, 0, by rw [hn], hm, fun h0 => by omega⟩
  · refine ⟨_, cap, rfl, hm, fun _ => ⟨g, 0, rfl, (Array.getElem?_eq_some_iff.1 hc).1, fun j hj => ?_⟩⟩
    have hj2 : (cur.toList.take (l.length * 1))[j]? = some (.int .i64 l[j]) := by rw [ht]; simp [hj]
    rw [List.getElem?_take, if_pos (by omega)] at hj2
    have hj3 : cur[j]? = some (.int .i64 l[j]) := by simpa using hj2
    simp [World.cell?, hc, hj3]
end Go.Proofs.YtdfbmfikhccajaaGreatDoor

namespace Go.Proofs.YtdfbmfikhccajaaGreatDoor
open Go.ChangeShapes Go.WideShapes Go.ChangeAt Go.RowKit Go.Deep

theorem und22 : Tryz.prog.underlying 22 = some (.slice 51) := by kernel_rfl
theorem und23 : Tryz.prog.underlying 23 = some (.slice 61) := by kernel_rfl

theorem und78 : Tryz.prog.underlying 51 = some (.struct #[⟨"Name", 9, 0, false, "", "", 0⟩, ⟨"Lo", 3, 1, false, "", "", 16⟩, ⟨"Hi", 3, 2, false, "", "", 24⟩]) := by kernel_rfl
theorem und26 : Tryz.prog.underlying 26 = some (.struct #[⟨"Vars", 22, 0, false, "", "", 0⟩, ⟨"Cons", 23, 1, false, "", "", 24⟩, ⟨"HasGoal", 4, 2, false, "", "", 48⟩, ⟨"Goal", 24, 3, false, "", "", 56⟩]) := by kernel_rfl
theorem cells78p : Tryz.prog.cellsOf 51 = 3 := by kernel_rfl
theorem cells26p : Tryz.prog.cellsOf 26 = 4 := by kernel_rfl
theorem cells9p : Tryz.prog.cellsOf 9 = 1 := by kernel_rfl
theorem cells4p : Tryz.prog.cellsOf 4 = 1 := by kernel_rfl
theorem cells22p : Tryz.prog.cellsOf 22 = 1 := by kernel_rfl
theorem cells23p : Tryz.prog.cellsOf 23 = 1 := by kernel_rfl

section
variable {H : Type} {enc : TypeId × Value → H} {w : World} {base : Nat} {spare : Nat → Bool} {held : Bool} {fuel : Nat} {cs : List Value} {x : DataW H × List MemPlace}

set_option maxRecDepth 100000 in
theorem vars_open (h : DataW.trod enc Tryz.prog w base spare held fuel 22 cs = some x) : ∃ v l, cs = [v] ∧ VarsAt w v l ∧ ∀ a n cp, v = .slice a n cp → n ≤ cp := by
  rcases open_slice und22 h with ⟨rfl, _⟩ | ⟨a, len, cap, m, n, D, Pl, rfl, _, hl, hm, hmm, _, hx⟩
  · exact ⟨_, [], rfl, ⟨none, 0, rfl, Nat.zero_le _, fun x hx => by simp at hx, fun h => absurd h (by decide)⟩, fun a n cp h => by injection h with h1 h2 h3; omega⟩
  · have hlm : len ≤ m := by rw [hmm]; split <;> omega
    have each : ∀ i, i < len → ∃ z : Md.Vr, (w.cell? (a.add (i * 3)) = some (.string z.name) ∧ w.cell? (a.add (i * 3 + 1)) = some (.int .i64 z.lo) ∧ w.cell? (a.add (i * 3 + 2)) = some (.int .i64 z.hi)) ∧ z.name.size ≤ maxLen := fun i hi => by
      obtain ⟨cs', h1, h2⟩ := hx i (by omega)
      rw [cells78p] at h1
      obtain ⟨xs, k, _, _, hl, hxl, hf⟩ := DataW.trod_struct und78 h2
      replace hl : cs'.length = 3 := hl.trans cells78p
      match cs', hl with
      | [v0, v1, v2], _ =>
        have g0 := hf 0 _ rfl
        have g1 := hf 1 _ rfl
        have g2 := hf 2 _ rfl
        simp [cells3p, cells9p] at g0 g1 g2
        have hx : ∀ i, i < 3 → ∃ y, xs[i]? = some y := fun i hi => ⟨xs[i]'(by rw [hxl]; exact hi), List.getElem?_eq_getElem _⟩
        obtain ⟨y0, e0⟩ := hx 0 (by decide)
        obtain ⟨y1, e1⟩ := hx 1 (by decide)
        obtain ⟨y2, e2⟩ := hx 2 (by decide)
        rw [e0] at g0; rw [e1] at g1; rw [e2] at g2
        obtain ⟨s, h0, _, hs⟩ := DataW.trod_string Tryz.underlying9 g0
        obtain ⟨n1, h1', _, _⟩ := DataW.trod_int Tryz.underlying3 g1
        obtain ⟨n2, h2', _, _⟩ := DataW.trod_int Tryz.underlying3 g2
        simp at h0 h1' h2'
        subst h0 h1' h2'
        obtain ⟨_, _, hcell⟩ := World.cells?_some h1
        have e0 := hcell 0 (by simp)
        have e1 := hcell 1 (by simp)
        have e2 := hcell 2 (by simp)
        rw [add_add] at e0 e1 e2
        exact ⟨⟨s, n1, n2⟩, ⟨by simpa using e0, by simpa using e1, by simpa using e2⟩, hs⟩
    haveI : Inhabited Md.Vr := ⟨⟨⟨#[]⟩, 0, 0⟩⟩
    obtain ⟨l, hll, hl2⟩ := list_of each
    refine ⟨_, l, rfl, ⟨some a, cap, by rw [hll], by omega, fun x hx => ?_, fun h0 => ?_⟩, fun a n cp h => by injection h with h1 h2 h3; omega⟩
    · obtain ⟨i, hi, rfl⟩ := List.getElem_of_mem hx
      exact (hl2 i hi).2
    · obtain ⟨b, off, spot⟩ := a
      have e0 := (hl2 0 h0).1.1
      have hspot : spot = none := World.cell?_spot e0
      subst hspot
      refine ⟨b, off, rfl, World.block_lt_of_cell? w _ e0, fun j hj => ?_⟩
      have := (hl2 j hj).1
      rw [addr_none, addr_none, addr_none] at this
      exact ⟨this.1, by rw [Nat.add_assoc]; exact this.2.1, by rw [Nat.add_assoc]; exact this.2.2⟩

theorem cons_open (h : DataW.trod enc Tryz.prog w base spare held fuel 23 cs = some x) : ∃ v l, cs = [v] ∧ ConsAt w v l := by
  rcases open_slice und23 h with ⟨rfl, _⟩ | ⟨a, len, cap, m, n, D, Pl, rfl, _, hl, hm, hmm, _, hx⟩
  · exact ⟨_, [], rfl, ⟨none, 0, rfl, Nat.zero_le _, fun h => absurd h (by decide)⟩⟩
  · have hlm : len ≤ m := by rw [hmm]; split <;> omega
    have each : ∀ i, i < len → ∃ c : Md.Cn, ∃ vt vx vb vr, CnAt w c vt vx vb vr ∧ ∀ j u, [.int .i64 c.kind, .int .i64 c.op, vt, .int .i64 c.k, .int .i64 c.v, .int .i64 c.x, .int .i64 c.y, vx, vb, vr][j]? = some u → w.cell? (a.add (i * 10 + j)) = some u := fun i hi => by
      obtain ⟨cs', h1, h2⟩ := hx i (by omega)
      rw [cells62] at h1
      obtain ⟨c, vt, vx, vb, vr, hc, hC⟩ := con_open h2
      subst hc
      obtain ⟨_, _, hcell⟩ := World.cells?_some h1
      refine ⟨c, vt, vx, vb, vr, hC, fun j u hj => ?_⟩
      have := hcell j (List.getElem?_eq_some_iff.1 hj).1
      rw [add_add] at this
      rw [this]; exact hj
    haveI : Inhabited Md.Cn := ⟨⟨0, 0, [], 0, 0, 0, 0, [], [], []⟩⟩
    obtain ⟨l, hll, hl2⟩ := list_of each
    refine ⟨_, l, rfl, ⟨some a, cap, by rw [hll], by omega, fun h0 => ?_⟩⟩
    obtain ⟨b, off, spot⟩ := a
    obtain ⟨_, _, _, _, _, e0⟩ := hl2 0 h0
    have e0' := e0 0 _ rfl
    have hspot : spot = none := World.cell?_spot e0'
    subst hspot
    refine ⟨b, off, rfl, World.block_lt_of_cell? w _ e0', fun j hj => ?_⟩
    obtain ⟨vt, vx, vb, vr, hC, he⟩ := hl2 j hj
    have he' : ∀ i u, [.int .i64 l[j].kind, .int .i64 l[j].op, vt, .int .i64 l[j].k, .int .i64 l[j].v, .int .i64 l[j].x, .int .i64 l[j].y, vx, vb, vr][i]? = some u → w.cell? ⟨b, off + j * 10 + i, none⟩ = some u := fun i u hu => by
      have := he i u hu
      rw [addr_none] at this
      rw [Nat.add_assoc]; exact this
    exact ⟨vt, vx, vb, vr, hC, he' 0 _ rfl, he' 1 _ rfl, he' 2 _ rfl, he' 3 _ rfl, he' 4 _ rfl, he' 5 _ rfl, he' 6 _ rfl, he' 7 _ rfl, he' 8 _ rfl, he' 9 _ rfl⟩

set_option maxRecDepth 100000 in
theorem mo_open (h : DataW.trod enc Tryz.prog w base spare held fuel 26 cs = some x) : ∃ m vv vc vg, cs = [vv, vc, .bool m.has, vg] ∧ MoAt w m vv vc vg := by
  obtain ⟨xs, k, _, _, hl, hxl, hf⟩ := DataW.trod_struct und26 h
  replace hl : cs.length = 4 := hl.trans cells26p
  match cs, hl with
  | [v0, v1, v2, v3], _ =>
    have g0 := hf 0 _ rfl
    have g1 := hf 1 _ rfl
    have g2 := hf 2 _ rfl
    have g3 := hf 3 _ rfl
    simp [cells22p, cells23p, cells24p, cells4p] at g0 g1 g2 g3
    have hx : ∀ i, i < 4 → ∃ y, xs[i]? = some y := fun i hi => ⟨xs[i]'(by rw [hxl]; exact hi), List.getElem?_eq_getElem _⟩
    obtain ⟨y0, e0⟩ := hx 0 (by decide)
    obtain ⟨y1, e1⟩ := hx 1 (by decide)
    obtain ⟨y2, e2⟩ := hx 2 (by decide)
    obtain ⟨y3, e3⟩ := hx 3 (by decide)
    rw [e0] at g0; rw [e1] at g1; rw [e2] at g2; rw [e3] at g3
    obtain ⟨u0, l0, h0, A0, C0⟩ := vars_open g0
    obtain ⟨u1, l1, h1, A1⟩ := cons_open g1
    obtain ⟨b2, h2, _⟩ := DataW.trod_bool Tryz.underlying4 g2
    obtain ⟨u3, l3, h3, A3⟩ := terms_open g3
    simp at h0 h1 h2 h3
    subst h0 h1 h2 h3
    exact ⟨⟨l0, l1, b2, l3⟩, _, _, _, rfl, ⟨A0, C0, A1, A3⟩⟩
end
end Go.Proofs.YtdfbmfikhccajaaGreatDoor
