/-
  Put together: MdOpenM, TpProof.
-/
import Derived.Test.YtjanpglnahagdaaGreatDoorJ51
import Derived.Test.YtjanpglnahagdaaGreatDoorJ36
import Derived.Test.YtjanpglnahagdaaGreatDoorRows
import Derived.Test.YtjanpglnahagdaaGreatDoorCards
import Derived.Test.YtjanpglnahagdaaGreatDoorTie
import Derived.ProofKit
import Derived.OpenShut
import Derived.LaidMore
import Derived.LaidSub
import Derived.Lay
import Derived.Lib.LaidTab
import Derived.Stop.Joined
import Derived.SevenTiedAt
namespace Go.Proofs.YtjanpglnahagdaaGreatDoor
open Go.ChangeShapes Go.WideShapes Go.ChangeAt Go.RowKit Go.Deep

theorem und78 : Tryz.prog.underlying 61 = some (.struct #[⟨"Name", 9, 0, false, "", "", 0⟩, ⟨"Lo", 3, 1, false, "", "", 16⟩, ⟨"Hi", 3, 2, false, "", "", 24⟩]) := by kernel_rfl
theorem und26 : Tryz.prog.underlying 26 = some (.struct #[⟨"Vars", 22, 0, false, "", "", 0⟩, ⟨"Cons", 23, 1, false, "", "", 24⟩, ⟨"HasGoal", 4, 2, false, "", "", 48⟩, ⟨"Goal", 24, 3, false, "", "", 56⟩]) := by kernel_rfl
theorem cells78p : Tryz.prog.cellsOf 61 = 3 := by kernel_rfl
theorem cells26p : Tryz.prog.cellsOf 26 = 4 := by kernel_rfl
theorem cells9p : Tryz.prog.cellsOf 9 = 1 := by kernel_rfl
theorem cells4p : Tryz.prog.cellsOf 4 = 1 := by kernel_rfl
theorem cells22p : Tryz.prog.cellsOf 22 = 1 := by kernel_rfl
theorem cells23p : Tryz.prog.cellsOf 23 = 1 := by kernel_rfl

section
variable {H : Type} {enc : TypeId × Value → H} {w : World} {base : Nat} {spare : Nat → Bool} {held : Bool} {fuel : Nat} {cs : List Value} {x : DataW H × List MemPlace}

set_option maxRecDepth 100000 in
theorem vars_open (h : DataW.trod enc Tryz.prog w base spare held fuel 22 cs = some x) : ∃ v l, cs = [v] ∧ VarsAt w v l ∧ ∀ a n cp, v = .slice a n cp → n ≤ cp := by
  rcases open_slice und22 h with ⟨rfl, _⟩ | ⟨a, len, cap, m, n, D, Pl, rfl, _, hl, hm, hmm, _, hx⟩
  · exact ⟨_, [], rfl, ⟨none, 0, rfl, Nat.zero_le _, fun x hx => by simp at hx, fun h => absurd h (by decide)⟩, fun a n cp h => by injection h with h1 h2 h3; omega⟩
  · have hlm : len ≤ m := by rw [hmm]; split <;> omega
    have each : ∀ i, i < len → ∃ z : Md.Vr, (w.cell? (a.add (i * 3)) = some (.string z.name) ∧ w.cell? (a.add (i * 3 + 1)) = some (.int .i64 z.lo) ∧ w.cell? (a.add (i * 3 + 2)) = some (.int .i64 z.hi)) ∧ z.name.size ≤ maxLen := fun i hi => by
      obtain ⟨cs', h1, h2⟩ := hx i (by omega)
      rw [cells78p] at h1
      obtain ⟨xs, k, _, _, hl, hxl, hf⟩ := DataW.trod_struct und78 h2
      replace hl : cs'.length = 3 := hl.trans cells78p
      match cs', hl with
      | [v0, v1, v2], _ =>
        have g0 := hf 0 _ rfl
        have g1 := hf 1 _ rfl
        have g2 := hf 2 _ rfl
        simp [cells3p, cells9p] at g0 g1 g2
        have hx : ∀ i, i < 3 → ∃ y, xs[i]? = some y := fun i hi => ⟨xs[i]'(by rw [hxl]; exact hi), List.getElem?_eq_getElem _⟩
        obtain ⟨y0, e0⟩ := hx 0 (by decide)
        obtain ⟨y1, e1⟩ := hx 1 (by decide)
        obtain ⟨y2, e2⟩ := hx 2 (by decide)
        rw [e0] at g0; rw [e1] at g1; rw [e2] at g2
        obtain ⟨s, h0, _, hs⟩ := DataW.trod_string Tryz.underlying9 g0
        obtain ⟨n1, h1', _, _⟩ := DataW.trod_int Tryz.underlying3 g1
        obtain ⟨n2, h2', _, _⟩ := DataW.trod_int Tryz.underlying3 g2
        simp at h0 h1' h2'
        subst h0 h1' h2'
        obtain ⟨_, _, hcell⟩ := World.cells?_some h1
        have e0 := hcell 0 (by simp)
        have e1 := hcell 1 (by simp)
        have e2 := hcell 2 (by simp)
        rw [add_add] at e0 e1 e2
        exact ⟨⟨s, n1, n2⟩, ⟨by simpa using e0, by simpa using e1, by simpa using e2⟩, hs⟩
    haveI : Inhabited Md.Vr := ⟨⟨⟨#[]⟩, 0, 0⟩⟩
    obtain ⟨l, hll, hl2⟩ := list_of each
    refine ⟨_, l, rfl, ⟨some a, cap, by rw [hll], by omega, fun x hx => ?_, fun h0 => ?_⟩, fun a n cp h => by injection h with h1 h2 h3; omega⟩
    · obtain ⟨i, hi, rfl⟩ := List.getElem_of_mem hx
      exact (hl2 i hi).2
    · obtain ⟨b, off, spot⟩ := a
      have e0 := (hl2 0 h0).1.1
      have hspot : spot = none := World.cell?_spot e0
      subst hspot
      refine ⟨b, off, rfl, World.block_lt_of_cell? w _ e0, fun j hj => ?_⟩
      have := (hl2 j hj).1
      rw [addr_none, addr_none, addr_none] at this
      exact ⟨this.1, by rw [Nat.add_assoc]; exact this.2.1, by rw [Nat.add_assoc]; exact this.2.2⟩

theorem cons_open (h : DataW.trod enc Tryz.prog w base spare held fuel 23 cs = some x) : ∃ v l, cs = [v] ∧ ConsAt w v l := by
  rcases open_slice und23 h with ⟨rfl, _⟩ | ⟨a, len, cap, m, n, D, Pl, rfl, _, hl, hm, hmm, _, hx⟩
  · exact ⟨_, [], rfl, ⟨none, 0, rfl, Nat.zero_le _, fun h => absurd h (by decide)⟩⟩
  · have hlm : len ≤ m := by rw [hmm]; split <;> omega
    have each : ∀ i, i < len → ∃ c : Md.Cn, ∃ vt vx vb vr, CnAt w c vt vx vb vr ∧ ∀ j u, [.int .i64 c.kind, .int .i64 c.op, vt, .int .i64 c.k, .int .i64 c.v, .int .i64 c.x, .int .i64 c.y, vx, vb, vr][j]? = some u → w.cell? (a.add (i * 10 + j)) = some u := fun i hi => by
      obtain ⟨cs', h1, h2⟩ := hx i (by omega)
      rw [cells62] at h1
      obtain ⟨c, vt, vx, vb, vr, hc, hC⟩ := con_open h2
      subst hc
      obtain ⟨_, _, hcell⟩ := World.cells?_some h1
      refine ⟨c, vt, vx, vb, vr, hC, fun j u hj => ?_⟩
      have := hcell j (List.getElem?_eq_some_iff.1 hj).1
      rw [add_add] at this
      rw [this]; exact hj
    haveI : Inhabited Md.Cn := ⟨⟨0, 0, [], 0, 0, 0, 0, [], [], []⟩⟩
    obtain ⟨l, hll, hl2⟩ := list_of each
    refine ⟨_, l, rfl, ⟨some a, cap, by rw [hll], by omega, fun h0 => ?_⟩⟩
    obtain ⟨b, off, spot⟩ := a
    obtain ⟨_, _, _, _, _, e0⟩ := hl2 0 h0
    have e0' := e0 0 _ rfl
    have hspot : spot = none := World.cell?_spot e0'
    subst hspot
    refine ⟨b, off, rfl, World.block_lt_of_cell? w _ e0', fun j hj => ?_⟩
    obtain ⟨vt, vx, vb, vr, hC, he⟩ := hl2 j hj
    have he' : ∀ i u, [.int .i64 l[j].kind, .int .i64 l[j].op, vt, .int .i64 l[j].k, .int .i64 l[j].v, .int .i64 l[j].x, .int .i64 l[j].y, vx, vb, vr][i]? = some u → w.cell? ⟨b, off + j * 10 + i, none⟩ = some u := fun i u hu => by
      have := he i u hu
      rw [addr_none] at this
      rw [Nat.add_assoc]; exact this
    exact ⟨vt, vx, vb, vr, hC, he' 0 _ rfl, he' 1 _ rfl, he' 2 _ rfl, he' 3 _ rfl, he' 4 _ rfl, he' 5 _ rfl, he' 6 _ rfl, he' 7 _ rfl, he' 8 _ rfl, he' 9 _ rfl⟩

set_option maxRecDepth 100000 in
theorem mo_open (h : DataW.trod enc Tryz.prog w base spare held fuel 26 cs = some x) : ∃ m vv vc vg, cs = [vv, vc, .bool m.has, vg] ∧ MoAt w m vv vc vg := by
  obtain ⟨xs, k, _, _, hl, hxl, hf⟩ := DataW.trod_struct und26 h
  replace hl : cs.length = 4 := hl.trans cells26p
  match cs, hl with
  | [v0, v1, v2, v3], _ =>
    have g0 := hf 0 _ rfl
    have g1 := hf 1 _ rfl
    have g2 := hf 2 _ rfl
    have g3 := hf 3 _ rfl
    simp [cells22p, cells23p, cells24p, cells4p] at g0 g1 g2 g3
    have hx : ∀ i, i < 4 → ∃ y, xs[i]? = some y := fun i hi => ⟨xs[i]'(by rw [hxl]; exact hi), List.getElem?_eq_getElem _⟩
    obtain ⟨y0, e0⟩ := hx 0 (by decide)
    obtain ⟨y1, e1⟩ := hx 1 (by decide)
    obtain ⟨y2, e2⟩ := hx 2 (by decide)
    obtain ⟨y3, e3⟩ := hx 3 (by decide)
    rw [e0] at g0; rw [e1] at g1; rw [e2] at g2; rw [e3] at g3
    obtain ⟨u0, l0, h0, A0, C0⟩ := vars_open g0
    obtain ⟨u1, l1, h1, A1⟩ := cons_open g1
    obtain ⟨b2, h2, _⟩ := DataW.trod_bool Tryz.underlying4 g2
    obtain ⟨u3, l3, h3, A3⟩ := terms_open g3
    simp at h0 h1 h2 h3
    subst h0 h1 h2 h3
    exact ⟨⟨l0, l1, b2, l3⟩, _, _, _, rfl, ⟨A0, C0, A1, A3⟩⟩
end
end Go.Proofs.YtjanpglnahagdaaGreatDoor

namespace Go.Proofs.YtjanpglnahagdaaGreatDoor
open Go.ChangeShapes Go.WideShapes Go.ChangeAt Go.RowKit Go.Deep

theorem laidOut : laidOutB Tryz.prog = true := by kernel_rfl
theorem own : ownKnob Tryz.prog.godebug = none := by kernel_rfl

/-- The tables that the row lists. -/
def laid6 : List (String × DataW Unit) := [("math/bits.deBruijn32tab", Rows.laid_math_bits_deBruijn32tab), ("math/bits.deBruijn64tab", Rows.laid_math_bits_deBruijn64tab), ("internal/strconv.uint64pow10", Rows.laid_internal_strconv_uint64pow10), ("unicode/utf8.acceptRanges", Rows.laid_unicode_utf8_acceptRanges), ("hallmark/text.opWords", Rows.laid_hallmark_text_opWords), ("unicode/utf8.first", Rows.laid_unicode_utf8_first)]

theorem opw_of_laid {W : World} (h : laidMetH Tryz.prog laid6 W) : W.cell? ⟨0, 1, none⟩ = some (.string ⟨#[60, 61]⟩) ∧ W.cell? ⟨0, 2, none⟩ = some (.string ⟨#[61]⟩) ∧ W.cell? ⟨0, 3, none⟩ = some (.string ⟨#[62, 61]⟩) := by
  rw [MakeChecks.laidMetH_plain _ _ _ (by kernel_rfl)] at h
  have h1 := laidMet.filter (fun x => x.1 == "hallmark/text.opWords") h
  have e : laid6.filter (fun x => x.1 == "hallmark/text.opWords") = [("hallmark/text.opWords", Rows.laid_hallmark_text_opWords)] := by kernel_rfl
  rw [e] at h1
  obtain ⟨ps, ⟨g, t, cs, fuel, p, q, hg, ht, hv, hd, _, _⟩, _, _⟩ := h1
  obtain rfl := Option.some.inj ((show Tryz.prog.globalNamed "hallmark/text.opWords" = some 0 by kernel_rfl).symm.trans hg)
  obtain rfl := Option.some.inj ((show (Tryz.prog.globals[0]?).map (·.type) = some 174 by kernel_rfl).symm.trans ht)
  obtain ⟨xs, m, _, ex, _, hl, hel⟩ := DataW.trod_array Tryz.underlying174 hd
  have c9 : Tryz.prog.cellsOf 9 = 1 := by kernel_rfl
  have e3 : (xs.map (·.1)) = [.lit (.string []), .lit (.string [60, 61]), .lit (.string [61]), .lit (.string [62, 61])] := (DataW.agg.inj (Prod.mk.inj ex).1).symm
  have key : ∀ r (l : List UInt8), r < 4 → ([.lit (.string []), .lit (.string [60, 61]), .lit (.string [61]), .lit (.string [62, 61])] : List (DataW Unit))[r]? = some (.lit (.string l)) → W.cell? ⟨0, r, none⟩ = some (.string ⟨l.toArray⟩) := fun r l hr hq => by
    have hE := hel r hr
    rw [c9, Nat.mul_one, List.getElem?_eq_getElem (by omega)] at hE
    obtain ⟨s, e1, e2, _⟩ := DataW.trod_string Tryz.underlying9 hE
    have e4 : (xs.map (·.1))[r]? = some (.lit (.string l)) := by rw [e3]; exact hq
    rw [List.getElem?_map, List.getElem?_eq_getElem (by omega : r < xs.length), e2] at e4
    have hs : s.data.toList = l := by
      simp only [Option.map_some, Option.some.injEq, DataW.lit.injEq, Lit.string.injEq] at e4
      exact e4
    have es : (⟨l.toArray⟩ : ByteArray) = s := by subst hs; simp
    rw [World.var?_cell hg hv r, es]
    have : cs.toList[r]? = some (.string s) := by
      have h0 : ((cs.toList.drop r).take 1)[0]? = some (.string s) := by rw [e1]; rfl
      simpa using h0
    simpa using this
  exact ⟨key 1 _ (by decide) rfl, key 2 _ (by decide) rfl, key 3 _ (by decide) rfl⟩

theorem way_of_laid {W : World} (h : laidMetH Tryz.prog laid6 W) : Way W W := by
  have hop := opw_of_laid h
  rw [MakeChecks.laidMetH_plain _ _ _ (by kernel_rfl)] at h
  have h1 := laidMet.filter (fun x => x.1 == "internal/strconv.uint64pow10") h
  have e : laid6.filter (fun x => x.1 == "internal/strconv.uint64pow10") = [("internal/strconv.uint64pow10", Lib.tabData .u64 Lib.pow10Tab)] := by kernel_rfl
  rw [e] at h1
  have ht : Lib.TabIs Tryz.prog W "internal/strconv.uint64pow10" .u64 Lib.pow10Tab :=
    Lib.tabIs_of_head (g := 1) (t := 234) (e := 222) (n := 20) (by kernel_rfl) (by kernel_rfl) (by kernel_rfl) (by kernel_rfl) (by kernel_rfl) (by kernel_rfl) h1
  refine ⟨Below.refl _ _, ht, ?_, hop⟩
  have hg : Tryz.prog.globalNamed "internal/strconv.uint64pow10" = some 1 := by kernel_rfl
  unfold Lib.TabIs World.var? at ht
  rcases Nat.lt_or_ge 1 W.heap.size with h0 | h0
  · exact h0
  · rw [hg] at ht
    have : W.heap[1]? = none := by rw [Array.getElem?_eq_none_iff]; omega
    simp [this] at ht

set_option maxRecDepth 100000 in
theorem textPrints_lifted (os : Os) (started : os.Started) (H : Type) (enc : TypeId × Value → H) :
    ReturnsInHanded {} Tryz.checked os 3 .any (fun w args => (Rows.textPrintsSpec.pre enc Tryz.prog Tryz.f3 [] false w args ∧ laidMetH Tryz.prog laid6 w) ∧ sizedMet enc Tryz.prog Tryz.f3 (OpenSpec.ofChange Rows.textPrintsSpec) false w args)
      (Rows.textPrintsSpec.post enc Tryz.prog Tryz.f3 false true false false) := by
  refine returnsInHanded_of_change_and (C := Tryz.checked) (X := fun w _ => laidMetH Tryz.prog laid6 w) (fun _ _ _ hh h => h.of_heap hh) own started (by kernel_rfl) Tryz.func3
    (ChangeSpec.witness_shaped (enc := enc) (C := Tryz.checked) (os := os) (X := fun w _ => laidMetH Tryz.prog laid6 w) false (World.laidAll Tryz.prog os laid6) #[.agg #[.slice none 0 0, .slice none 0 0, .bool false, .slice none 0 0]] 8 (World.laidAll_os _ _ _)
      (World.shaped_of_ZipB (by kernel_rfl) (by kernel_rfl)) (by kernel_rfl) (by kernel_rfl) (by kernel_rfl)
      (by rw [MakeChecks.laidMetH_plain _ _ _ (by kernel_rfl)]; exact laidMet_laidAll _ (by kernel_rfl) (by kernel_rfl))) ?_
  intro W base args ds gs before hval0 hW _ _ hL _
  have hval : ∀ (j : Nat) t v, Tryz.f3.params[j]? = some t → args[j]? = some v → Value.okWide Tryz.prog W .any base t v := hval0
  have hW' := hW
  obtain ⟨p, q, hA0, hV, rfl, hfz, hnd⟩ := hW
  have hA : DataW.TrodAll enc Tryz.prog W 0 (fun _ => true) true Tryz.f3.params.toList args.toList ds p := hA0
  rw [Tryz.params3] at hA hval
  obtain ⟨v0, d0, rfl, rfl, h0⟩ := trodAll_one hA
  obtain ⟨rfl, rfl⟩ := trodVars_none hV
  have h0k := h0
  obtain ⟨fuel, hf⟩ := h0
  clear hA0 hval0
  simp only [List.append_nil] at hW'
  have hlt : ∀ x ∈ p, x.block < W.heap.size := fun x hx => by simpa using hW'.lt x hx
  have hT := way_of_laid hL
  obtain ⟨cs, rfl, hcs⟩ := okWide_struct und26 (hval 0 26 v0 rfl rfl)
  obtain ⟨m, vv, vc, vg, hc, hM⟩ := mo_open hf
  have hcell : cs = #[vv, vc, .bool m.has, vg] := by
    have := congrArg List.toArray hc
    simpa [Value.cells] using this
  subst hcell
  refine (textPrints_walk m vv vc vg W hM hT).mono fun e W' ⟨he, hb⟩ => ?_
  subst he
  exact ⟨_, rfl, _, _, _, [], _, [], hW', trodAll_mk1 (shut_bool Tryz.underlying4 true), trodAll_mk1 (Below.trod laidOut (by kernel_rfl) (of_decide_eq_true (by kernel_rfl)) h0k hb hlt), rfl, hb.frame _, fun h => by cases h⟩

theorem textPrints_row : Rows.TextPrintsSaid :=
  OpenClaim.holds_of_wide 3 Tryz.f3 rfl rfl rfl rfl rfl rfl rfl ⟨rfl, rfl, rfl, rfl, rfl⟩ rfl rfl rfl rfl rfl (by kernel_rfl) Tryz.func3 (by kernel_rfl)
    (of_decide_eq_true (by kernel_rfl)) (by unfold Func.isWrapper; first | (rw [if_pos (by decide +kernel)]; kernel_rfl) | (rw [if_neg (by decide +kernel)]; exact ⟨rfl, rfl⟩))
    (fun os started H enc _ => textPrints_lifted os started H enc)

/-- The statement. -/
theorem textPrints_holds : Rows.TextPrintsCardSaid :=
  Claim7.holds_tied_plain_at .later [] [.data, .data, .data, .data, .data, .pinned] true (true, "0208191a4bdfad6b0484d6512ef76301958d288a001dcb6ecf966eea7bad3d74") false
    textPrints_row (fun _ h => by cases h) (by kernel_rfl) (fun _ h => by cases h) textPrints_row_tie rfl ⟨rfl, rfl⟩ (by kernel_rfl) rfl
    (fun f fn hf hfn => by
      obtain rfl : f = 3 := Option.some.inj ((show Tryz.prog.funcNamed "hallmark/hallmarklaw5.TextPrints" = some 3 by kernel_rfl).symm.trans hf) |>.symm
      obtain rfl : fn = Tryz.f3 := (Option.some.inj (Tryz.func3.symm.trans hfn)).symm
      exact ⟨by kernel_rfl, fun j t ht => by
        rw [Tryz.params3] at ht
        have hm : t ∈ [26] := by simpa using Array.mem_of_getElem? ht
        have hall : ([26].all fun u => !Tryz.prog.wantsStandIn u) = true := by kernel_rfl
        exact (show Tryz.prog.wantsStandIn t = false by simpa using List.all_eq_true.1 hall t hm)⟩)
    (by kernel_rfl)
end Go.Proofs.YtjanpglnahagdaaGreatDoor
