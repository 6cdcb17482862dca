/-
  BigPlays: a script, as it comes in.
-/
import Derived.Test.YtangepgiamhenaaDoorPlaysAll
import Derived.Test.YtangepgiamhenaaDoorLaid
import Derived.Deep.Slices
import Derived.ChangeSame
namespace Go.Proofs.YtangepgiamhenaaDoor
open Go.ChangeShapes Go.WideShapes Go.ChangeAt Go.RowKit Go.Deep
open Bn (limbs)

theorem und49 : Tryd.prog.underlying 49 = some (.slice 52) := by kernel_rfl
theorem und52 : Tryd.prog.underlying 52 = some (.struct #[⟨"Kind", 3, 0, false, "", "", 0⟩, ⟨"N", 3, 1, false, "", "", 8⟩, ⟨"A", 3, 2, false, "", "", 16⟩, ⟨"B", 3, 3, false, "", "", 24⟩, ⟨"S", 9, 4, false, "", "", 32⟩]) := by kernel_rfl
theorem cells52 : Tryd.prog.cellsOf 52 = 5 := by kernel_rfl
theorem cells3p : Tryd.prog.cellsOf 3 = 1 := by kernel_rfl
theorem cells9p : Tryd.prog.cellsOf 9 = 1 := by kernel_rfl

set_option maxRecDepth 100000 in
theorem op_cells {H : Type} {enc : TypeId × Value → H} {w : World} {base : Nat} {spare : Nat → Bool} {held : Bool} {fuel : Nat} {cs : List Value} {x : DataW H × List MemPlace} (h : DataW.trod enc Tryd.prog w base spare held fuel 52 cs = some x) :
    ∃ (k n a b : Int) (s : ByteArray), cs = [.int .i64 k, .int .i64 n, .int .i64 a, .int .i64 b, .string s] ∧ Fits n := by
  obtain ⟨xs, k, _, _, hl, hxl, hf⟩ := DataW.trod_struct und52 h
  replace hl : cs.length = 5 := hl.trans cells52
  match cs, hl with
  | [v0, v1, v2, v3, v4], _ =>
    have g0 := hf 0 _ rfl
    have g1 := hf 1 _ rfl
    have g2 := hf 2 _ rfl
    have g3 := hf 3 _ rfl
    have g4 := hf 4 _ rfl
    simp [cells3p, cells9p] at g0 g1 g2 g3 g4
    have hx : ∀ i, i < 5 → ∃ y, xs[i]? = some y := fun i hi => ⟨xs[i]'(by rw [hxl]; exact hi), List.getElem?_eq_getElem _⟩
    obtain ⟨y0, e0⟩ := hx 0 (by decide)
    obtain ⟨y1, e1⟩ := hx 1 (by decide)
    obtain ⟨y2, e2⟩ := hx 2 (by decide)
    obtain ⟨y3, e3⟩ := hx 3 (by decide)
    obtain ⟨y4, e4⟩ := hx 4 (by decide)
    rw [e0] at g0; rw [e1] at g1; rw [e2] at g2; rw [e3] at g3; rw [e4] at g4
    obtain ⟨n0, h0, _, _⟩ := DataW.trod_int Tryd.underlying3 g0
    obtain ⟨n1, h1, _, w1⟩ := DataW.trod_int Tryd.underlying3 g1
    obtain ⟨n2, h2, _, _⟩ := DataW.trod_int Tryd.underlying3 g2
    obtain ⟨n3, h3, _, _⟩ := DataW.trod_int Tryd.underlying3 g3
    obtain ⟨s, h4, _, _⟩ := DataW.trod_string Tryd.underlying9 g4
    refine ⟨n0, n1, n2, n3, s, ?_, ?_⟩
    · simp at h0 h1 h2 h3 h4
      simp [h0, h1, h2, h3, h4]
    · have h1 : (decide (IntKind.i64.min ≤ n1) && decide (n1 ≤ IntKind.i64.max)) = true := w1
      have e1 : IntKind.i64.min = -9223372036854775808 := by decide
      have e2 : IntKind.i64.max = 9223372036854775807 := by decide
      rw [e1, e2, Bool.and_eq_true, decide_eq_true_eq, decide_eq_true_eq] at h1
      exact h1
end Go.Proofs.YtangepgiamhenaaDoor
