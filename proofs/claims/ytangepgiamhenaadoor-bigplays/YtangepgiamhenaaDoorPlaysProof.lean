/-
  BigPlays: the row, and its card.
-/
import Derived.Test.YtangepgiamhenaaDoorPlaysOpen
import Derived.Test.YtangepgiamhenaaDoorPlaysWalk
import Derived.Test.YtangepgiamhenaaDoorParsesWalk
import Derived.Test.YtangepgiamhenaaDoorRefDiv
import Derived.Test.YtangepgiamhenaaDoorDivUp
import Derived.Test.YtangepgiamhenaaDoorDivSmall
import Derived.Test.YtangepgiamhenaaDoorThere
import Derived.ChangeMaps
namespace Go.Proofs.YtangepgiamhenaaDoor
open Go.ChangeShapes Go.WideShapes Go.ChangeAt Go.RowKit Go.Deep
open Bn (limbs)

theorem laidOut : laidOutB Tryd.prog = true := by kernel_rfl

theorem made_all : Made where
  of := of_any
  refOf := fun n w h => refOf_any n w h.1 h.2
  parse := fun s hs => ⟨(parseZ s.data.toList).getD 0, _, _, by
      have h1 := parse_len s.data.toList
      have h2 : s.data.toList.length = s.size := by simp
      omega, fun w => parse_any s w (by omega), fun w => refParse_any s w (by omega)⟩
  neg := neg_big
  opp := opposite_any
  add := add_big
  radd := refAdd_any
  sub := sub_big
  rsub := refSub_any
  mul := mul_big
  rmul := refMul_any
  div := fun x y hx hy => by
    by_cases h : y < 1
    · refine ⟨0, 11, false, by rw [show limbs (0 : Int).natAbs = [] from by decide]; exact Nat.zero_le _, fun va vb w h1 h2 => ?_, fun va vb w h1 h2 => refDivUp_none x y va vb w h1 h2 h⟩
      refine (divUp_none x y va vb w h1 h2 h).mono ?_
      rintro e w' ⟨rfl, hb⟩
      exact ⟨_, rfl, .inl ⟨by unfold Fits; omega, rfl⟩, hb⟩
    · have hy' : 0 < y := by omega
      refine ⟨divUpI x y, 0, true, ?_, fun va vb w h1 h2 => divUp_big x y va vb w h1 h2 hx hy', fun va vb w h1 h2 => refDivUp_any x y va vb w h1 h2 hx hy hy'⟩
      refine limbs_mono ?_ (Nat.le_refl _)
      have h1 := divUpI_bound (a := x) hy'
      rcases Int.le_total 0 x with h | h
      · have := h1.1 h; omega
      · have := h1.2 h; omega
  ok := pairOk_any

set_option maxRecDepth 100000 in
set_option maxHeartbeats 1000000 in
/-- BigPlays, where there are too many calls. -/
theorem bigPlays_long (p : Option Addr) (n c : Nat) (w : World) (h : 60 < n) :
    Calls Tryd.prog 6 #[.slice p n c] w fun e w' => e = .returned (.bool true) ∧ Below w.heap.size w w' := by
  have hI : (60 : Int) < (n : Int) := by omega
  go_enter Tryd.func6, Tryd.ntmps6
  go_wp2
  go_ret
  exact ⟨rfl, Below.refl _ _⟩

set_option maxRecDepth 100000 in
theorem bigPlays_lifted (os : Os) (started : os.Started) (H : Type) (enc : TypeId × Value → H) :
    ReturnsInHanded {} Tryd.checked os 6 .any (fun w args => (Rows.bigPlaysSpec.pre enc Tryd.prog Tryd.f6 [] false w args ∧ laidMetH Tryd.prog laid3 w) ∧ sizedMet enc Tryd.prog Tryd.f6 (OpenSpec.ofChange Rows.bigPlaysSpec) false w args)
      (Rows.bigPlaysSpec.post enc Tryd.prog Tryd.f6 false true false false) := by
  refine returnsInHanded_of_change_and (C := Tryd.checked) (X := fun w _ => laidMetH Tryd.prog laid3 w) (fun _ _ _ hh h => h.of_heap hh) own started (by kernel_rfl) Tryd.func6
    (ChangeSpec.witness_shaped (enc := enc) (C := Tryd.checked) (os := os) (X := fun w _ => laidMetH Tryd.prog laid3 w) false (World.doorLaid Tryd.prog 400 os) #[.slice none 0 0] 8 rfl (World.shaped_of_RefB (by kernel_rfl) (by kernel_rfl)) (by kernel_rfl) (by kernel_rfl) (by kernel_rfl) (door_met os _)) ?_
  intro W base args ds gs before hval0 hW _ _ hL _
  have hval : ∀ (j : Nat) t v, Tryd.f6.params[j]? = some t → args[j]? = some v → Value.okWide Tryd.prog W .any base t v := hval0
  have hW' := hW
  obtain ⟨p, q, hA0, hV, rfl, hfz, hnd⟩ := hW
  have hA : DataW.TrodAll enc Tryd.prog W 0 (fun _ => true) true Tryd.f6.params.toList args.toList ds p := hA0
  rw [Tryd.params6] at hA hval
  obtain ⟨v0, d0, rfl, rfl, h0⟩ := trodAll_one hA
  obtain ⟨rfl, rfl⟩ := trodVars_none hV
  have h0k := h0
  obtain ⟨fuel, hf⟩ := h0
  clear hA0 hval0
  simp only [List.append_nil] at hW'
  have hlt : ∀ x ∈ p, x.block < W.heap.size := fun x hx => by simpa using hW'.lt x hx
  have hT := tab_of_laid hL
  obtain ⟨a0, len, cap, rfl⟩ := okWide_slice und49 (hval 0 49 v0 rfl rfl)
  have hcall : Calls Tryd.prog 6 #[.slice a0 len cap] W fun e w' => e = .returned (.bool true) ∧ Below W.heap.size W w' := by
    by_cases hlen : 60 < len
    · exact bigPlays_long a0 len cap W hlen
    · rcases open_slice und49 hf with ⟨hcs, _⟩ | ⟨a, len', cap', m, n, D, Pl, hcs, _, hl, hm, hmm, _, hx⟩
      · simp [Value.cells] at hcs
        obtain ⟨rfl, rfl, rfl⟩ := hcs
        exact bigPlays_walk made_all none 0 0 0 [] W hT (fun h => by simp at h) ⟨hT.2, fun k hk => by simp at hk⟩ (by simp)
      · simp [Value.cells] at hcs
        obtain ⟨rfl, rfl, rfl⟩ := hcs
        have hlm : len ≤ m := by rw [hmm]; split <;> omega
        obtain ⟨b, off, spot⟩ := a
        by_cases h0l : len = 0
        · subst h0l
          exact bigPlays_walk made_all _ 0 0 cap [] W hT (fun h => by simp at h) ⟨hT.2, fun k hk => by simp at hk⟩ (by simp)
        have hspot : spot = none := by
          obtain ⟨cs', h1, h2⟩ := hx 0 (by omega)
          rw [cells52] at h1
          obtain ⟨k, n', a', b', s', rfl, hfit⟩ := op_cells h2
          obtain ⟨_, _, hcell⟩ := World.cells?_some h1
          have e0 := hcell 0 (by simp)
          simpa [Addr.add] using World.cell?_spot e0
        subst hspot
        have each : ∀ i, i < len → ∃ o : OpV, b < W.heap.size ∧ W.cell? ⟨b, off + i * 5, none⟩ = some (.int .i64 o.k) ∧ W.cell? ⟨b, off + i * 5 + 1, none⟩ = some (.int .i64 o.n) ∧ W.cell? ⟨b, off + i * 5 + 2, none⟩ = some (.int .i64 o.a) ∧
            W.cell? ⟨b, off + i * 5 + 3, none⟩ = some (.int .i64 o.b) ∧ W.cell? ⟨b, off + i * 5 + 4, none⟩ = some (.string o.s) ∧ Fits o.n := by
          intro i hi
          obtain ⟨cs', h1, h2⟩ := hx i (by omega)
          rw [cells52] at h1
          obtain ⟨k, n', a', b', s', rfl, hfit⟩ := op_cells h2
          obtain ⟨_, _, hcell⟩ := World.cells?_some h1
          have e0 := hcell 0 (by simp)
          have e1 := hcell 1 (by simp)
          have e2 := hcell 2 (by simp)
          have e3 := hcell 3 (by simp)
          have e4 := hcell 4 (by simp)
          rw [add_add, addr_none] at e0 e1 e2 e3 e4
          have hb : b < W.heap.size := World.block_lt_of_cell? W _ e0
          exact ⟨⟨k, n', a', b', s'⟩, hb, by simpa using e0, by simpa [Nat.add_assoc] using e1, by simpa [Nat.add_assoc] using e2, by simpa [Nat.add_assoc] using e3, by simpa [Nat.add_assoc] using e4, hfit⟩
        haveI : Inhabited OpV := ⟨⟨0, 0, 0, 0, ⟨#[]⟩⟩⟩
        obtain ⟨f, hf'⟩ := choose_lt each
        have := bigPlays_walk made_all (some ⟨b, off, none⟩) b off cap ((List.range len).map f) W hT (fun _ => rfl) ⟨(hf' 0 (by omega)).1, fun k hk => by
          have hk' : k < len := by simpa using hk
          simp only [List.getElem_map, List.getElem_range]
          exact (hf' k hk').2⟩ (by simp; omega)
        simpa using this
  refine hcall.mono fun e W' ⟨he, hb⟩ => ?_
  subst he
  exact ⟨_, rfl, _, _, _, [], _, [], hW', trodAll_mk1 (shut_bool Tryd.underlying4 true), trodAll_mk1 (Below.trod laidOut (by kernel_rfl) (of_decide_eq_true (by kernel_rfl)) h0k hb hlt), rfl, hb.frame _, fun h => by cases h⟩

theorem bigPlays_row : Rows.BigPlaysSaid :=
  OpenClaim.holds_of_wide 6 Tryd.f6 rfl rfl rfl rfl rfl rfl rfl ⟨rfl, rfl, rfl, rfl, rfl⟩ rfl rfl rfl rfl rfl (by kernel_rfl) Tryd.func6 (by kernel_rfl)
    (of_decide_eq_true (by kernel_rfl)) (by unfold Func.isWrapper; first | (rw [if_pos (by decide +kernel)]; kernel_rfl) | (rw [if_neg (by decide +kernel)]; exact ⟨rfl, rfl⟩))
    (fun os started H enc _ => bigPlays_lifted os started H enc)

/-- The statement. -/
theorem bigPlays_holds : Rows.BigPlaysCardSaid :=
  Claim7.holds_tied_plain_at .later [] [.data, .data, .data] true (true, "5a5df85e1cf99a72e39d10f06d12b3f48c6686ba944ce6c46bfa08f2b9904a62") false
    bigPlays_row (fun _ h => by cases h) (by kernel_rfl) (fun _ h => by cases h) bigPlays_row_tie rfl ⟨rfl, rfl⟩ (by kernel_rfl) rfl
    (fun f fn hf hfn => by
      obtain rfl : f = 6 := Option.some.inj ((show Tryd.prog.funcNamed "hallmark/hallmarklaw1.BigPlays" = some 6 by kernel_rfl).symm.trans hf) |>.symm
      obtain rfl : fn = Tryd.f6 := (Option.some.inj (Tryd.func6.symm.trans hfn)).symm
      exact ⟨by kernel_rfl, fun j t ht => by
        rw [Tryd.params6] at ht
        have hm : t ∈ [49] := by simpa using Array.mem_of_getElem? ht
        have hall : ([49].all fun u => !Tryd.prog.wantsStandIn u) = true := by kernel_rfl
        exact (show Tryd.prog.wantsStandIn t = false by simpa using List.all_eq_true.1 hall t hm)⟩)
    (by kernel_rfl)

end Go.Proofs.YtangepgiamhenaaDoor
