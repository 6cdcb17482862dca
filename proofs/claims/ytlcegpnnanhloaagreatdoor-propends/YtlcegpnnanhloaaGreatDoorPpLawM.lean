/-
  may.
-/
import Derived.Test.YtlcegpnnanhloaaGreatDoorMdOff
import Derived.Test.YtlcegpnnanhloaaGreatDoorJ15
import Derived.Test.YtlcegpnnanhloaaGreatDoorJ04
import Derived.Laws.BytesArg
namespace Md

def mayName (i : Nat) : ByteArray := ⟨#[UInt8.ofNat (97 + i % 26), UInt8.ofNat (97 + i / 26)]⟩
def mayV (i : Nat) : Vr := ⟨mayName i, 0, 0⟩
def mayM (c : Cn) (n : Nat) : Mo := ⟨(List.range n).map mayV, [c], false, []⟩
theorem may_vars : (List.range 32).all (fun j => varFault (mayV j) ((List.range j).map mayV) == 0) = true := by kernel_rfl
theorem may_check {c : Cn} {n : Nat} (h1 : 1 ≤ n) (h2 : n ≤ 32) : (check (mayM c n)).2 = fault c n := by
  have hl : (mayM c n).vars.length = n := by simp [mayM]
  have hf : fewB (mayM c n).vars.length 32 = false := by rw [hl]; simp [fewB]; omega
  have hv : firstBad (mayM c n).vars.length (vFault (mayM c n).vars) = none := firstBad_none fun j hj => by
    rw [hl] at hj
    rw [vFault_get (by rw [hl]; exact hj)]
    have e1 : (mayM c n).vars[j]'(by rw [hl]; exact hj) = mayV j := by simp [mayM]
    have e2 : (mayM c n).vars.take j = (List.range j).map mayV := by simp [mayM, ← List.map_take, List.take_range, Nat.min_eq_left (Nat.le_of_lt hj)]
    rw [e1, e2]
    have := List.all_eq_true.1 may_vars j (List.mem_range.2 (by omega))
    simpa using this
  have hc : ¬ 64 < (mayM c n).cons.length := by simp [mayM]
  have hg : goalFault (mayM c n) = 0 := by simp [goalFault, mayM]
  unfold check
  rw [if_neg (by rw [hf]; simp), hv]
  simp only [if_neg hc]
  by_cases h0 : fault c n = 0
  · have hk : firstBad (mayM c n).cons.length (cFault (mayM c n).cons (mayM c n).vars.length) = none := firstBad_none fun j hj => by
      have hj0 : j = 0 := by simp [mayM] at hj; exact hj
      subst hj0
      rw [cFault_get hj, hl]
      exact h0
    rw [hk]
    simp only [hg, if_true, h0]
  · have hk : firstBad (mayM c n).cons.length (cFault (mayM c n).cons (mayM c n).vars.length) = some 0 := firstBad_some (by simp [mayM]) (by rw [cFault_get (by simp [mayM]), hl]; exact h0) (fun j hj => absurd hj (Nat.not_lt_zero _))
    rw [hk]
    simp only []
    rw [cFault_get (by simp [mayM]), hl]
    rfl
end Md
namespace Go.Proofs.YtlcegpnnanhloaaGreatDoor
open Go.RowKit

theorem may_next (k : Nat) : varCells ((List.range (k + 1)).map Md.mayV) = varCells ((List.range k).map Md.mayV) ++ [.string (Md.mayName k), .int .i64 0, .int .i64 0] := by
  rw [List.range_succ, List.map_append, varCells_append]
  rfl
theorem und22' : Tryz.prog.underlying 22 = some (.slice 60) := by kernel_rfl
theorem info60' : (Tryz.prog.info? 60).map (fun i => (i.zero, i.size, i.bytes)) = some (some (.agg #[.string ⟨#[]⟩, .int .i64 0, .int .i64 0]), 3, 32) := by kernel_rfl
theorem und90' : Tryz.prog.underlying 90 = some (.slice 5) := by kernel_rfl
theorem und5' : Tryz.prog.underlying 5 = some (.int .u8) := by kernel_rfl
theorem und9' : Tryz.prog.underlying 9 = some .string := by kernel_rfl
theorem may_conv (k : Nat) (wr : World) : (convert 90 9 (.slice (some ⟨wr.heap.size, 0, none⟩) 2 2)).run Tryz.prog (wr.alloc (.cells #[.int .u8 (97 + (k : Int) % 26), .int .u8 (97 + (k : Int) / 26)] 5)) = .ok (.string (Md.mayName k)) (wr.alloc (.cells #[.int .u8 (97 + (k : Int) % 26), .int .u8 (97 + (k : Int) / 26)] 5)) := by
  have h := run_convert_bytes_arg (P := Tryz.prog) (wr.alloc (.cells #[.int .u8 (97 + (k : Int) % 26), .int .u8 (97 + (k : Int) / 26)] 5)) 90 5 und90' und5' wr.heap.size 0 2 2 [97 + (k : Int) % 26, 97 + (k : Int) / 26] rfl (fun i hi => by
    have hn : (wr.alloc (.cells #[.int .u8 (97 + (k : Int) % 26), .int .u8 (97 + (k : Int) / 26)] 5)).heap[wr.heap.size]? = some (.cells #[.int .u8 (97 + (k : Int) % 26), .int .u8 (97 + (k : Int) / 26)] 5) := heap_alloc_new wr _
    match i, hi with
    | 0, _ => show World.cell? _ ⟨wr.heap.size, 0, none⟩ = _; unfold World.cell?; rw [hn]; rfl
    | 1, _ => show World.cell? _ ⟨wr.heap.size, 1, none⟩ = _; unfold World.cell?; rw [hn]; rfl) 9 und9'
  rw [h]
  have e1 : (97 + (k : Int) % 26).toNat = 97 + k % 26 := by omega
  have e2 : (97 + (k : Int) / 26).toNat = 97 + k / 26 := by omega
  have e : strOfNums [97 + (k : Int) % 26, 97 + (k : Int) / 26] = Md.mayName k := by simp [strOfNums, Md.mayName, e1, e2]
  rw [e]
/-- The problem that may makes, after k variables. -/
def MayI (W : World) (C : Array Value) (W3 : World) (k : Nat) (wr : World) : Prop :=
  ∃ v, wr.heap[W.heap.size + 1]? = some (.cells #[v, .slice (some ⟨W.heap.size, 0, none⟩) 1 1, .bool false, .slice none 0 0] 26 (0, 0)) ∧ wr.heap[W.heap.size]? = some (.cells C 31 (0, 0)) ∧ Below W.heap.size W wr ∧ wr.ownsRow W3.heap.size 60 3 v k (varCells ((List.range k).map Md.mayV))
/-- One variable more, not yet laid in the box. -/
structure MayN (W : World) (C : Array Value) (W3 wr : World) (k : Nat) (v v7 : Value) (w7 : World) : Prop where
  box : w7.heap[W.heap.size + 1]? = some (.cells #[v, .slice (some ⟨W.heap.size, 0, none⟩) 1 1, .bool false, .slice none 0 0] 26 (0, 0))
  cn : w7.heap[W.heap.size]? = some (.cells C 31 (0, 0))
  below : Below W.heap.size W w7
  own : w7.ownsRow W3.heap.size 60 3 v7 (k + 1) (varCells ((List.range (k + 1)).map Md.mayV))
theorem may_grown {W W3 wr w7 : World} {C : Array Value} {k : Nat} {v v7 : Value} {o : Obj} (hb : Below W.heap.size W wr) (hs3 : W3.heap.size = W.heap.size + 2) (hP : wr.heap[W.heap.size + 1]? = some (.cells #[v, .slice (some ⟨W.heap.size, 0, none⟩) 1 1, .bool false, .slice none 0 0] 26 (0, 0))) (hQ : wr.heap[W.heap.size]? = some (.cells C 31 (0, 0))) (hO : wr.ownsRow W3.heap.size 60 3 v k (varCells ((List.range k).map Md.mayV))) (ho : w7.ownsRow W3.heap.size 60 3 v7 (k + 1) (varCells ((List.range k).map Md.mayV) ++ [.string (Md.mayName k), .int .i64 0, .int .i64 0])) (hg : ((wr.alloc o).alloc (.cells [.string (Md.mayName k), .int .i64 0, .int .i64 0].toArray 60)).grownBy w7 v.ownBlock) (_hn : v7.ownBlock = v.ownBlock ∨ v7.ownBlock = some ((wr.alloc o).heap.size + 1)) : MayN W C W3 wr k v v7 w7 := by
  have lP := (Array.getElem?_eq_some_iff.1 hP).1
  have lQ := (Array.getElem?_eq_some_iff.1 hQ).1
  have hl := hO.lt
  refine ⟨?_, ?_, ?_, by rw [may_next]; exact ho⟩
  · exact (hg.block _ (by simp; omega) (fun e => by have := (hl _ e.symm).1; omega)).trans ((Below.heap_alloc _ _ _ (by simp; omega)).trans ((Below.heap_alloc _ _ _ lP).trans hP))
  · exact (hg.block _ (by simp; omega) (fun e => by have := (hl _ e.symm).1; omega)).trans ((Below.heap_alloc _ _ _ (by simp; omega)).trans ((Below.heap_alloc _ _ _ lQ).trans hQ))
  · exact ((hb.alloc hb.size _).alloc (by simp; omega) _).grown hg (by simp; omega) (fun k hk => by have := (hl k hk).1; omega)
theorem MayN.next {W W3 wr w7 : World} {C : Array Value} {k : Nat} {v v7 : Value} (h : MayN W C W3 wr k v v7 w7) (hs3 : W3.heap.size = W.heap.size + 2) : MayI W C W3 (k + 1) (w7.setCell ⟨W.heap.size + 1, 0, none⟩ v7) := by
  refine ⟨v7, heap_setCell_same w7 _ 0 _ 26 _ h.box, (heap_setCell_other w7 ⟨W.heap.size + 1, 0, none⟩ _ _ (by show W.heap.size ≠ W.heap.size + 1; omega)).trans h.cn, h.below.setCell (by show W.heap.size ≤ W.heap.size + 1; omega) _, own_off h.own (fun g hg e => by have := (h.own.lt g hg).1; omega) (Off.set (S := fun b => b = W.heap.size + 1) _ rfl)⟩
theorem may_mo {W W3 wr : World} {c : Md.Cn} {vt vx vb vr v : Value} {k : Nat} (hI : MayI W #[.int .i64 c.kind, .int .i64 c.op, vt, .int .i64 c.k, .int .i64 c.v, .int .i64 c.x, .int .i64 c.y, vx, vb, vr] W3 k wr) (hP : wr.heap[W.heap.size + 1]? = some (.cells #[v, .slice (some ⟨W.heap.size, 0, none⟩) 1 1, .bool false, .slice none 0 0] 26 (0, 0))) (hC : CnAt wr c vt vx vb vr) (hk : k ≤ 32) : MoAt wr (Md.mayM c k) v (.slice (some ⟨W.heap.size, 0, none⟩) 1 1) (.slice none 0 0) := by
  obtain ⟨v', hP', hQ, _, hO⟩ := hI
  have hv : v' = v := by
    rw [hP] at hP'
    injection hP' with h1
    injection h1 with h2
    have h3 := congrArg (fun a => a[0]?) h2
    simpa using h3.symm
  subst hv
  have hl : ((List.range k).map Md.mayV).length = k := by simp
  refine ⟨own_vars (l := (List.range k).map Md.mayV) (by rw [hl]; exact hO) (by rw [hl]; unfold maxLen; omega) (fun x hx => ?_), own_cap hO, ?_, ⟨none, 0, rfl, Nat.zero_le _, fun h => absurd h (Nat.not_lt_zero _)⟩⟩
  · obtain ⟨j, _, rfl⟩ := List.mem_map.1 hx
    show (2 : Nat) ≤ maxLen
    unfold maxLen
    omega
  · refine ⟨some ⟨W.heap.size, 0, none⟩, 1, rfl, by show (1 : Nat) ≤ maxLen; unfold maxLen; omega, fun _ => ⟨W.heap.size, 0, rfl, (Array.getElem?_eq_some_iff.1 hQ).1, fun j hj => ?_⟩⟩
    have hj0 : j = 0 := by simp [Md.mayM] at hj; exact hj
    subst hj0
    obtain ⟨⟨p0, p1, p2, p3, p4, p5, p6, p7, p8, p9⟩, _⟩ := box10 hQ
    exact ⟨vt, vx, vb, vr, hC, p0, p1, p2, p3, p4, p5, p6, p7, p8, p9⟩

set_option maxRecDepth 10000 in
set_option maxHeartbeats 1000000 in
theorem may_any (c : Md.Cn) (vt vx vb vr : Value) (n : Int) (w : World) (hC : CnAt w c vt vx vb vr) : Calls Tryz.prog 15 #[cnVal c vt vx vb vr, .int .i64 n] w fun e w' => e = .returned (.bool (decide (1 ≤ n ∧ n ≤ 32 ∧ Md.fault c n = 0))) ∧ Below w.heap.size w w' := by
  obtain ⟨ta, tc, rfl, _⟩ := hC.t.form
  obtain ⟨xa, xc, rfl, _⟩ := hC.x.form
  obtain ⟨ba, bc, rfl, _⟩ := hC.b.form
  obtain ⟨ra, rc, rfl, _⟩ := hC.r.form
  obtain ⟨W, hW⟩ : ∃ W, w.alloc (.cells #[.int .i64 c.kind, .int .i64 c.op, .slice ta c.terms.length tc, .int .i64 c.k, .int .i64 c.v, .int .i64 c.x, .int .i64 c.y, .slice xa c.xs.length xc, .slice ba c.table.length bc, .slice ra c.rows.length rc] 31) = W := ⟨_, rfl⟩
  have hbW : Below w.heap.size w W := by rw [← hW]; exact (Below.refl _ _).alloc (Nat.le_refl _) _
  have hN : W.heap[w.heap.size]? = some (.cells #[.int .i64 c.kind, .int .i64 c.op, .slice ta c.terms.length tc, .int .i64 c.k, .int .i64 c.v, .int .i64 c.x, .int .i64 c.y, .slice xa c.xs.length xc, .slice ba c.table.length bc, .slice ra c.rows.length rc] 31) := by rw [← hW]; exact heap_alloc_new w _
  have HB : Hid (Below w.heap.size w W) := hbW
  have HCc : Hid (∀ w', Below w.heap.size w w' → CnAt w' c (.slice ta c.terms.length tc) (.slice xa c.xs.length xc) (.slice ba c.table.length bc) (.slice ra c.rows.length rc)) := fun w' hb => hC.below hb
  obtain ⟨⟨p0, p1, p2, p3, p4, p5, p6, p7, p8, p9⟩, _⟩ := box10 hN
  have hs : W.heap.size = w.heap.size + 1 := by rw [← hW]; simp
  have HS : Hid (W.heap.size = w.heap.size + 1) := hs
  unfold cnVal
  clear hC hbW hN hs
  go_enter Tryz.func15, Tryz.ntmps15
  by_cases h1 : n < 1
  · go_wp2_with fail
    go_ret
    exact ⟨by rw [decide_eq_false (by omega)]; rfl, HB.out⟩
  by_cases h2 : 32 < n
  · go_wp2_with fail
    go_ret
    exact ⟨by rw [decide_eq_false (by omega)]; rfl, HB.out⟩
  obtain ⟨m, rfl⟩ : ∃ m : Nat, n = (m : Int) := ⟨n.toNat, by omega⟩
  have hm1 : 1 ≤ m := by omega
  have hm2 : m ≤ 32 := by omega
  obtain ⟨W3, hW3⟩ : ∃ W3, (W.alloc (.cells #[.int .i64 c.kind, .int .i64 c.op, .slice ta c.terms.length tc, .int .i64 c.k, .int .i64 c.v, .int .i64 c.x, .int .i64 c.y, .slice xa c.xs.length xc, .slice ba c.table.length bc, .slice ra c.rows.length rc] 31)).alloc (.cells #[.slice none 0 0, .slice (some ⟨W.heap.size, 0, none⟩) 1 1, .bool false, .slice none 0 0] 26) = W3 := ⟨_, rfl⟩
  have hb3 : Below W.heap.size W W3 := by rw [← hW3]; exact ((Below.refl _ _).alloc (Nat.le_refl _) _).alloc (by simp) _
  have hQ3 : W3.heap[W.heap.size]? = some (.cells #[.int .i64 c.kind, .int .i64 c.op, .slice ta c.terms.length tc, .int .i64 c.k, .int .i64 c.v, .int .i64 c.x, .int .i64 c.y, .slice xa c.xs.length xc, .slice ba c.table.length bc, .slice ra c.rows.length rc] 31) := by
    rw [← hW3, Below.heap_alloc _ _ _ (by simp)]; exact heap_alloc_new W _
  have hP3 : W3.heap[W.heap.size + 1]? = some (.cells #[.slice none 0 0, .slice (some ⟨W.heap.size, 0, none⟩) 1 1, .bool false, .slice none 0 0] 26) := by
    rw [← hW3]
    have := heap_alloc_new (W.alloc (.cells #[.int .i64 c.kind, .int .i64 c.op, .slice ta c.terms.length tc, .int .i64 c.k, .int .i64 c.v, .int .i64 c.x, .int .i64 c.y, .slice xa c.xs.length xc, .slice ba c.table.length bc, .slice ra c.rows.length rc] 31)) (.cells #[.slice none 0 0, .slice (some ⟨W.heap.size, 0, none⟩) 1 1, .bool false, .slice none 0 0] 26)
    simpa using this
  have hs3 : W3.heap.size = W.heap.size + 2 := by rw [← hW3]; simp
  have HI3 : Hid (MayI W (#[.int .i64 c.kind, .int .i64 c.op, .slice ta c.terms.length tc, .int .i64 c.k, .int .i64 c.v, .int .i64 c.x, .int .i64 c.y, .slice xa c.xs.length xc, .slice ba c.table.length bc, .slice ra c.rows.length rc]) W3 0 W3) := ⟨_, hP3, hQ3, hb3, World.ownsRow_nil _ _ _ _⟩
  have HS3 : Hid (W3.heap.size = W.heap.size + 2) := hs3
  have HW3 : Hid ((W.alloc (.cells #[.int .i64 c.kind, .int .i64 c.op, .slice ta c.terms.length tc, .int .i64 c.k, .int .i64 c.v, .int .i64 c.x, .int .i64 c.y, .slice xa c.xs.length xc, .slice ba c.table.length bc, .slice ra c.rows.length rc] 31)).alloc (.cells #[.slice none 0 0, .slice (some ⟨W.heap.size, 0, none⟩) 1 1, .bool false, .slice none 0 0] 26) = W3) := hW3
  clear hb3 hQ3 hP3 hs3 hW3
  go_wp2_with fail
  rw [HW3.out]
  go_loopw [6] (fun iv wr => ∃ k : Nat, iv = .int .i64 (k : Int) ∧ k ≤ m ∧ Hid (MayI W (#[.int .i64 c.kind, .int .i64 c.op, .slice ta c.terms.length tc, .int .i64 c.k, .int .i64 c.v, .int .i64 c.x, .int .i64 c.y, .slice xa c.xs.length xc, .slice ba c.table.length bc, .slice ra c.rows.length rc]) W3 k wr)) (fun iv _ => m - (intOf iv).toNat)
  case atStart => exact ⟨0, rfl, Nat.zero_le _, HI3⟩
  case round =>
    obtain ⟨k, rfl, hk, hI⟩ := hrel
    obtain ⟨v, hP, hQ, hb, hO⟩ := hI.out
    obtain ⟨va, vp, rfl⟩ := own_form hO
    obtain ⟨⟨z0, z1, z2, z3⟩, hz⟩ := box4 hP
    have hz0 := hz 0
    by_cases hlt : k < m
    · have hkI : (k : Int) < (m : Int) := by omega
      have HO : Hid (wr.ownsRow W3.heap.size 60 3 (.slice va k vp) k (varCells ((List.range k).map Md.mayV))) := hO
      have HP : Hid (wr.heap[W.heap.size + 1]? = some (.cells #[.slice va k vp, .slice (some ⟨W.heap.size, 0, none⟩) 1 1, .bool false, .slice none 0 0] 26)) := hP
      have HQ : Hid (wr.heap[W.heap.size]? = some (.cells #[.int .i64 c.kind, .int .i64 c.op, .slice ta c.terms.length tc, .int .i64 c.k, .int .i64 c.v, .int .i64 c.x, .int .i64 c.y, .slice xa c.xs.length xc, .slice ba c.table.length bc, .slice ra c.rows.length rc] 31)) := hQ
      have Hb : Hid (Below W.heap.size W wr) := hb
      have hltP : W.heap.size + 1 < wr.heap.size := (Array.getElem?_eq_some_iff.1 hP).1
      have zx0 : (wr.alloc (.cells #[.int .u8 (97 + (k : Int) % 26), .int .u8 (97 + (k : Int) / 26)] 5)).cell? ⟨W.heap.size + 1, 0, none⟩ = some (.slice va k vp) := cell_of ((heap_alloc_old wr _ hltP).trans hP) 0
      clear hz hO hP hQ hb
      have hconv : (convert 90 9 (.slice (some ⟨wr.heap.size, 0, none⟩) 2 2)).run Tryz.prog (wr.alloc (.cells #[.int .u8 (97 + (k : Int) % 26), .int .u8 (97 + (k : Int) / 26)] 5)) = .ok (.string (Md.mayName k)) (wr.alloc (.cells #[.int .u8 (97 + (k : Int) % 26), .int .u8 (97 + (k : Int) / 26)] 5)) := may_conv k wr
      have HO2 : Hid ((wr.alloc (.cells #[.int .u8 (97 + (k : Int) % 26), .int .u8 (97 + (k : Int) / 26)] 5)).ownsRow W3.heap.size 60 3 (.slice va k vp) k (varCells ((List.range k).map Md.mayV))) := HO.out.alloc _
      have HSz : Hid ((wr.alloc (.cells #[.int .u8 (97 + (k : Int) % 26), .int .u8 (97 + (k : Int) / 26)] 5)).heap.size = wr.heap.size + 1) := by
        show _ = _
        simp
      have HOne : Hid (∀ u ∈ ([.string (Md.mayName k), .int .i64 0, .int .i64 0] : List Value), u.oneCell' = true) := by
        intro u hu
        simp only [List.mem_cons, List.not_mem_nil, or_false] at hu
        rcases hu with rfl | rfl | rfl <;> rfl
      have HLe : Hid (W3.heap.size ≤ (wr.alloc (.cells #[.int .u8 (97 + (k : Int) % 26), .int .u8 (97 + (k : Int) / 26)] 5)).heap.size) := by
        have := Hb.out.size
        have := HS3.out
        have := (Array.getElem?_eq_some_iff.1 HP.out).1
        show _ ≤ _
        simp
        omega
      go_wp2_with (at_builtin; refine append_els (wr.alloc (.cells #[.int .u8 (97 + (k : Int) % 26), .int .u8 (97 + (k : Int) / 26)] 5)) [.string (Md.mayName k), .int .i64 0, .int .i64 0] 3 rfl (by decide) rfl (.tmp 34) (.tmp 38) 22 60 (.agg #[.string ⟨#[]⟩, .int .i64 0, .int .i64 0]) 32 rfl und22' info60' rfl W3.heap.size _ _ _ (by rfl) HO2.out HOne.out (wr.heap.size + 1) HSz.out (by rfl) (by unfold maxLen; omega) (by omega) HLe.out ?_; intro v7 w7 ho7 hg7 hn7; obtain ⟨a7, c7, rfl⟩ := own_form ho7; have HQ7 : Hid (MayN W (#[.int .i64 c.kind, .int .i64 c.op, .slice ta c.terms.length tc, .int .i64 c.k, .int .i64 c.v, .int .i64 c.x, .int .i64 c.y, .slice xa c.xs.length xc, .slice ba c.table.length bc, .slice ra c.rows.length rc]) W3 wr k (.slice va k vp) (.slice a7 (k + 1) c7) w7) := may_grown Hb.out HS3.out HP.out HQ.out HO.out ho7 hg7 hn7; obtain ⟨⟨y0, y1, y2, y3⟩, hy⟩ := box4 HQ7.out.box; have hy0 := hy 0; clear hy ho7 hg7 hn7)
      have HN8 : Hid (MayI W (#[.int .i64 c.kind, .int .i64 c.op, .slice ta c.terms.length tc, .int .i64 c.k, .int .i64 c.v, .int .i64 c.x, .int .i64 c.y, .slice xa c.xs.length xc, .slice ba c.table.length bc, .slice ra c.rows.length rc]) W3 (k + 1) (w7.setCell ⟨W.heap.size + 1, 0, none⟩ (.slice a7 (k + 1) c7))) := HQ7.out.next HS3.out
      generalize w7.setCell ⟨W.heap.size + 1, 0, none⟩ (.slice a7 (k + 1) c7) = w8 at *
      go_roundw
      case rel => exact ⟨k + 1, by go_num, by omega, HN8⟩
      case measure => simp [intOf]; omega
    · have hkI : ¬ (k : Int) < (m : Int) := by omega
      obtain rfl : k = m := by omega
      have HMo : Hid (Calls Tryz.prog 35 #[.agg #[.slice va k vp, .slice (some ⟨W.heap.size, 0, none⟩) 1 1, .bool false, .slice none 0 0]] wr fun e w' => e = .returned (.tuple #[.int .i64 (Md.check (Md.mayM c k)).1, .int .i64 (Md.fault c k)]) ∧ Below wr.heap.size wr w') := by
        have hM : MoAt wr (Md.mayM c k) (.slice va k vp) (.slice (some ⟨W.heap.size, 0, none⟩) 1 1) (.slice none 0 0) := may_mo hI.out hP (HCc.out wr (HB.out.trans (hb.mono HB.out.size))) hm2
        have h1 := check_any (Md.mayM c k) _ _ _ wr hM
        rw [Md.may_check hm1 hm2] at h1
        exact h1
      have HBw : Hid (Below w.heap.size w wr) := HB.out.trans (hb.mono HB.out.size)
      clear hz hO hP hQ hb hI
      go_wp2_with fail
      refine calls_at HMo.out (by with_reducible rfl) (by with_reducible rfl) ?_
      rintro e w9 ⟨rfl, hb9⟩
      have HB9 : Hid (Below w.heap.size w w9) := HBw.out.trans (hb9.mono HBw.out.size)
      clear hb9 HMo
      generalize (Md.check (Md.mayM c k)).1 = ck at *
      by_cases h0 : Md.fault c k = 0
      · have hd : decide (1 ≤ (k : Int) ∧ (k : Int) ≤ 32 ∧ Md.fault c k = 0) = true := decide_eq_true ⟨by omega, by omega, h0⟩
        rw [h0]
        go_wp2_with fail
        go_ret
        exact ⟨by rw [hd]; rfl, HB9.out⟩
      · have hd : decide (1 ≤ (k : Int) ∧ (k : Int) ≤ 32 ∧ Md.fault c k = 0) = false := decide_eq_false (fun h => h0 h.2.2)
        have h0B : (Md.fault c k == 0) = false := by simpa using h0
        go_wp2_with fail
        go_ret
        exact ⟨by rw [hd]; rfl, HB9.out⟩
end Go.Proofs.YtlcegpnnanhloaaGreatDoor
