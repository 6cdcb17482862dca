/-
  Put together: MdFaultAny, MdFew, MdV3.
-/
import Derived.Test.YtjanpglnahagdaaGreatDoorMdFault
import Derived.Test.YtjanpglnahagdaaGreatDoorJ13
import Derived.Test.YtjanpglnahagdaaGreatDoorJ10
namespace Go.Proofs.YtjanpglnahagdaaGreatDoor
open Go.RowKit

theorem kind1 : KindIs 1 152 151 true 64 0 0 0 where
  of := kindOf_1
  own := fun c vt vx vb vr w hk hC => by
    have h1 := own129 c vt vx vb vr w hC
    have h2 : ownVal c = plVal c.kind c.op c.k 0 0 0 := by unfold ownVal; rw [hk]; rfl
    rw [h2]; exact h1
  ent := enters_of Tryz.func152 (by kernel_rfl) rfl
  enh := enters_of Tryz.func151 (by kernel_rfl) rfl
  op := rfl
  e0 := rfl
  e1 := rfl
  e2 := rfl
  e3 := rfl

theorem kind2 : KindIs 2 154 153 false 0 0 0 0 where
  of := kindOf_2
  own := fun c vt vx vb vr w hk hC => by
    have h1 := own131 c vt vx vb vr w hC
    have h2 : ownVal c = plVal c.kind 0 c.k 0 c.x c.y := by unfold ownVal; rw [hk]; rfl
    rw [h2]; exact h1
  ent := enters_of Tryz.func154 (by kernel_rfl) rfl
  enh := enters_of Tryz.func153 (by kernel_rfl) rfl
  op := rfl
  e0 := rfl
  e1 := rfl
  e2 := rfl
  e3 := rfl

theorem kind3 : KindIs 3 150 155 false 0 64 0 0 where
  of := kindOf_3
  own := fun c vt vx vb vr w hk hC => by
    have h1 := own127 c vt vx vb vr w hC
    have h2 : ownVal c = plVal c.kind 0 0 0 0 0 := by unfold ownVal; rw [hk]; rfl
    rw [h2]; exact h1
  ent := enters_of Tryz.func150 (by kernel_rfl) rfl
  enh := enters_of Tryz.func155 (by kernel_rfl) rfl
  op := rfl
  e0 := rfl
  e1 := rfl
  e2 := rfl
  e3 := rfl

theorem kind4 : KindIs 4 157 156 false 0 0 64 0 where
  of := kindOf_4
  own := fun c vt vx vb vr w hk hC => by
    have h1 := own134 c vt vx vb vr w hC
    have h2 : ownVal c = plVal c.kind 0 0 0 c.x c.y := by unfold ownVal; rw [hk]; rfl
    rw [h2]; exact h1
  ent := enters_of Tryz.func157 (by kernel_rfl) rfl
  enh := enters_of Tryz.func156 (by kernel_rfl) rfl
  op := rfl
  e0 := rfl
  e1 := rfl
  e2 := rfl
  e3 := rfl

theorem kind5 : KindIs 5 149 158 false 0 64 0 0 where
  of := kindOf_5
  own := fun c vt vx vb vr w hk hC => by
    have h1 := own126 c vt vx vb vr w hC
    have h2 : ownVal c = plVal c.kind 0 0 0 0 c.y := by unfold ownVal; rw [hk]; rfl
    rw [h2]; exact h1
  ent := enters_of Tryz.func149 (by kernel_rfl) rfl
  enh := enters_of Tryz.func158 (by kernel_rfl) rfl
  op := rfl
  e0 := rfl
  e1 := rfl
  e2 := rfl
  e3 := rfl

theorem kind6 : KindIs 6 149 159 false 0 64 0 0 where
  of := kindOf_6
  own := fun c vt vx vb vr w hk hC => by
    have h1 := own126 c vt vx vb vr w hC
    have h2 : ownVal c = plVal c.kind 0 0 0 0 c.y := by unfold ownVal; rw [hk]; rfl
    rw [h2]; exact h1
  ent := enters_of Tryz.func149 (by kernel_rfl) rfl
  enh := enters_of Tryz.func159 (by kernel_rfl) rfl
  op := rfl
  e0 := rfl
  e1 := rfl
  e2 := rfl
  e3 := rfl

theorem kind7 : KindIs 7 161 160 false 64 0 0 0 where
  of := kindOf_7
  own := fun c vt vx vb vr w hk hC => by
    have h1 := own138 c vt vx vb vr w hC
    have h2 : ownVal c = plVal c.kind 0 c.k 0 c.x 0 := by unfold ownVal; rw [hk]; rfl
    rw [h2]; exact h1
  ent := enters_of Tryz.func161 (by kernel_rfl) rfl
  enh := enters_of Tryz.func160 (by kernel_rfl) rfl
  op := rfl
  e0 := rfl
  e1 := rfl
  e2 := rfl
  e3 := rfl

theorem kind8 : KindIs 8 150 162 false 0 8 0 64 where
  of := kindOf_8
  own := fun c vt vx vb vr w hk hC => by
    have h1 := own127 c vt vx vb vr w hC
    have h2 : ownVal c = plVal c.kind 0 0 0 0 0 := by unfold ownVal; rw [hk]; rfl
    rw [h2]; exact h1
  ent := enters_of Tryz.func150 (by kernel_rfl) rfl
  enh := enters_of Tryz.func162 (by kernel_rfl) rfl
  op := rfl
  e0 := rfl
  e1 := rfl
  e2 := rfl
  e3 := rfl

theorem kind9 : KindIs 9 164 163 true 0 64 0 0 where
  of := kindOf_9
  own := fun c vt vx vb vr w hk hC => by
    have h1 := own141 c vt vx vb vr w hC
    have h2 : ownVal c = plVal c.kind c.op c.k c.v 0 0 := by unfold ownVal; rw [hk]; rfl
    rw [h2]; exact h1
  ent := enters_of Tryz.func164 (by kernel_rfl) rfl
  enh := enters_of Tryz.func163 (by kernel_rfl) rfl
  op := rfl
  e0 := rfl
  e1 := rfl
  e2 := rfl
  e3 := rfl

set_option maxRecDepth 10000 in
set_option maxHeartbeats 1000000 in
theorem conFault_none (c : Md.Cn) (vt vx vb vr : Value) (n : Int) (w : World) (hC : CnAt w c vt vx vb vr) (hk : c.kind < 1 ∨ 9 < c.kind) :
    Calls Tryz.prog 53 #[cnVal c vt vx vb vr, .int .i64 n] w fun e w' => e = .returned (.int .i64 (Md.fault c n)) ∧ Below w.heap.size w w' := by
  obtain ⟨ta, tc, rfl, _⟩ := id hC.t
  obtain ⟨xa, xc, rfl, _⟩ := id hC.x
  obtain ⟨ba, bc, rfl, _⟩ := id hC.b
  obtain ⟨ra, rc, rfl, _⟩ := id hC.r
  have hres : Hid (Md.fault c n = 43) := by
    have : Md.kindBad c.kind c.op = true := by simp [Md.kindBad, hk]
    show _ = _
    simp [Md.fault, this]
  have HK : Hid (∀ w, Calls Tryz.prog 75 #[.int .i64 c.kind] w fun e w' => e = .returned (.tuple #[.agg #[.nilFunc, .bool false, .int .i64 0, .int .i64 0, .int .i64 0, .int .i64 0, .nilFunc], .bool false]) ∧ Below w.heap.size w w') := fun w => kindOf_none c.kind w hk
  clear hC hk
  unfold cnVal
  go_enter Tryz.func53, Tryz.ntmps53
  go_wp2_with fail
  refine (HK.out _).mono ?_
  rintro e w1 ⟨rfl, hb1⟩
  have hbw : Hid (Below w.heap.size w w1) := ((Below.refl _ _).alloc (Nat.le_refl _) _).trans (hb1.mono (by simp))
  clear hb1
  go_wp2_with fail
  go_ret
  exact ⟨ret_int hres.out.symm, hbw.out.alloc hbw.out.size _⟩

theorem conFault_any (c : Md.Cn) (vt vx vb vr : Value) (n : Int) (w : World) (hC : CnAt w c vt vx vb vr) :
    Calls Tryz.prog 53 #[cnVal c vt vx vb vr, .int .i64 n] w fun e w' => e = .returned (.int .i64 (Md.fault c n)) ∧ Below w.heap.size w w' := by
  by_cases hk : c.kind < 1 ∨ 9 < c.kind
  · exact conFault_none c vt vx vb vr n w hC hk
  · have h19 : 1 ≤ c.kind ∧ c.kind ≤ 9 := by omega
    rcases (show c.kind = 1 ∨ c.kind = 2 ∨ c.kind = 3 ∨ c.kind = 4 ∨ c.kind = 5 ∨ c.kind = 6 ∨ c.kind = 7 ∨ c.kind = 8 ∨ c.kind = 9 by omega) with h | h | h | h | h | h | h | h | h
    · exact conFault_kind c vt vx vb vr n w (by rw [h]; exact kind1) hC h19
    · exact conFault_kind c vt vx vb vr n w (by rw [h]; exact kind2) hC h19
    · exact conFault_kind c vt vx vb vr n w (by rw [h]; exact kind3) hC h19
    · exact conFault_kind c vt vx vb vr n w (by rw [h]; exact kind4) hC h19
    · exact conFault_kind c vt vx vb vr n w (by rw [h]; exact kind5) hC h19
    · exact conFault_kind c vt vx vb vr n w (by rw [h]; exact kind6) hC h19
    · exact conFault_kind c vt vx vb vr n w (by rw [h]; exact kind7) hC h19
    · exact conFault_kind c vt vx vb vr n w (by rw [h]; exact kind8) hC h19
    · exact conFault_kind c vt vx vb vr n w (by rw [h]; exact kind9) hC h19
end Go.Proofs.YtjanpglnahagdaaGreatDoor

namespace Go.Proofs.YtjanpglnahagdaaGreatDoor
open Go.RowKit

set_option maxHeartbeats 400000 in
theorem manyCount_any (n : Int) (w : World) : Calls Tryz.prog 4 #[.int .i64 n] w fun e w' => e = .returned (.pointer (some ⟨w.heap.size, 0, none⟩)) ∧ w' = w.alloc (.cells #[.int .i64 n] 58) := by
  go_enter Tryz.func4, Tryz.ntmps4
  go_wp2
  go_ret
  exact ⟨rfl, rfl⟩

theorem below_grownBy {w W w' : World} {P : Nat} (hW : Below w.heap.size w W) (hg : W.grownBy w' (some P)) (hP : w.heap.size ≤ P) : Below w.heap.size w w' :=
  ⟨hg.os.trans hW.os, hg.tape.trans hW.tape, hg.output.trans hW.output, Nat.le_trans hW.size hg.size, fun k hk => (hg.block k (Nat.lt_of_lt_of_le hk hW.size) (fun e => by injection e with e; omega)).trans (hW.block k hk)⟩

/-- What few answers. -/
structure Few (cost : Nat) (w : World) (e : Ending) (w' : World) : Prop where
  out : ∃ b, e = .returned (.bool b) ∧ (b = true → cost ≤ 20000)
  rest : Below w.heap.size w w'

end Go.Proofs.YtjanpglnahagdaaGreatDoor

namespace Go.Proofs.YtjanpglnahagdaaGreatDoor
open Go.RowKit

theorem vf_name {v : Md.Vr} {l : List Md.Vr} (h : Md.nameB v.name.data.toList = false) : Md.varFault v l = 41 := by simp [Md.varFault, h]
theorem vf_seen {v : Md.Vr} {l : List Md.Vr} (h : Md.seenB l v.name = true) : Md.varFault v l = 41 := by simp [Md.varFault, h]
theorem vf_bounds {v : Md.Vr} {l : List Md.Vr} (h1 : Md.nameB v.name.data.toList = true) (h2 : Md.seenB l v.name = false) (h : Md.boundsB v.lo v.hi = false) : Md.varFault v l = 42 := by simp [Md.varFault, h, h1, h2]
theorem vf_ok {v : Md.Vr} {l : List Md.Vr} (h1 : Md.nameB v.name.data.toList = true) (h2 : Md.seenB l v.name = false) (h : Md.boundsB v.lo v.hi = true) : Md.varFault v l = 0 := by simp [Md.varFault, h, h1, h2]

set_option maxRecDepth 10000 in
set_option maxHeartbeats 2000000 in
theorem varFault_any (v : Md.Vr) (va : Value) (l : List Md.Vr) (w : World) (hs : v.name.size ≤ maxLen) (hv : VarsAt w va l) : Calls Tryz.prog 52 #[vrVal v, va] w fun e w' => e = .returned (.int .i64 (Md.varFault v l)) ∧ Below w.heap.size w w' := by
  obtain ⟨W, hW⟩ : ∃ W, w.alloc (.cells #[.string v.name, .int .i64 v.lo, .int .i64 v.hi] 61) = W := ⟨_, rfl⟩
  have hbW : Below w.heap.size w W := by rw [← hW]; exact (Below.refl _ _).alloc (Nat.le_refl _) _
  have hsz : W.heap.size = w.heap.size + 1 := by rw [← hW]; simp
  have c0 : W.cell? ⟨w.heap.size, 0, none⟩ = some (.string v.name) := by rw [← hW]; simp
  have c1 : W.cell? ⟨w.heap.size, 1, none⟩ = some (.int .i64 v.lo) := by rw [← hW]; simp
  have c2 : W.cell? ⟨w.heap.size, 2, none⟩ = some (.int .i64 v.hi) := by rw [← hW]; simp
  have HB : Hid (Below w.heap.size w W) := hbW
  have HN : Hid (∀ w', Calls Tryz.prog 72 #[.string v.name] w' fun e w'' => e = .returned (.bool (Md.nameB v.name.data.toList)) ∧ w'' = w') := fun w' => isName_any v.name w' hs
  have HS : Hid (Calls Tryz.prog 73 #[va, .func (.func 71) #[] #[.pointer (some ⟨w.heap.size, 0, none⟩)]] W fun e w' => e = .returned (.bool (Md.seenB l v.name)) ∧ Below W.heap.size W w') := containsVars va l v.name w.heap.size W (hv.below hbW) c0 (by omega)
  obtain ⟨a, cap, rfl, _⟩ := hv.form
  have hlt : w.heap.size < W.heap.size := by omega
  have HL : Hid (w.heap.size < W.heap.size) := hlt
  unfold vrVal
  clear hv hbW hsz
  cases h1 : Md.nameB v.name.data.toList
  · have hres : Hid (Md.varFault v l = 41) := vf_name h1
    rw [h1] at HN
    clear h1
    go_enter Tryz.func52, Tryz.ntmps52
    go_wp2_with (go_at_call 72; refine (HN.out _).mono ?_; rintro e w' ⟨rfl, hww⟩; rw [hww]; clear hww)
    go_ret
    exact ⟨ret_int hres.out.symm, HB.out⟩
  have H1 : Hid (Md.nameB v.name.data.toList = true) := h1
  rw [h1] at HN
  clear h1
  cases h2 : Md.seenB l v.name
  rotate_left
  · have hres : Hid (Md.varFault v l = 41) := vf_seen h2
    rw [h2] at HS
    clear h2
    go_enter Tryz.func52, Tryz.ntmps52
    go_wp2_with (first | (go_at_call 72; refine (HN.out _).mono ?_; rintro e w' ⟨rfl, hww⟩; rw [hww]; clear hww) | (go_at_call 73; refine calls_at HS.out (by with_reducible rfl) (by with_reducible rfl) ?_; rintro e w1 ⟨rfl, hb1⟩))
    go_ret
    exact ⟨ret_int hres.out.symm, HB.out.trans (hb1.mono HB.out.size)⟩
  have H2 : Hid (Md.seenB l v.name = false) := h2
  rw [h2] at HS
  clear h2
  have Hb : Hid (Md.boundsB v.lo v.hi = (Md.numB v.lo && Md.numB v.hi && decide (v.lo ≤ v.hi ∧ v.hi - v.lo < 64))) := rfl
  have HR : Hid (∀ b, Md.boundsB v.lo v.hi = b → Md.varFault v l = if b then 0 else 42) := fun b hb => by
    cases b
    · exact vf_bounds H1.out H2.out hb
    · exact vf_ok H1.out H2.out hb
  have HC : Hid (∀ w', Below W.heap.size W w' → w'.cell? ⟨w.heap.size, 0, none⟩ = some (.string v.name) ∧ w'.cell? ⟨w.heap.size, 1, none⟩ = some (.int .i64 v.lo) ∧ w'.cell? ⟨w.heap.size, 2, none⟩ = some (.int .i64 v.hi)) := fun w' hb => ⟨(hb.cell (p := ⟨w.heap.size, 0, none⟩) HL.out).trans c0, (hb.cell (p := ⟨w.heap.size, 1, none⟩) HL.out).trans c1, (hb.cell (p := ⟨w.heap.size, 2, none⟩) HL.out).trans c2⟩
  go_enter Tryz.func52, Tryz.ntmps52
  go_wp2_with (first | (go_at_call 72; refine (HN.out _).mono ?_; rintro e w' ⟨rfl, hww⟩; rw [hww]; clear hww) | fail)
  refine calls_at HS.out (by with_reducible rfl) (by with_reducible rfl) ?_
  rintro e w1 ⟨rfl, hb1⟩
  have HB1 : Hid (Below w.heap.size w w1) := HB.out.trans (hb1.mono HB.out.size)
  clear c0 c1 c2
  obtain ⟨c0, c1, c2⟩ := HC.out _ hb1
  clear hb1
  cases n1 : Md.numB v.lo
  · have hres : Hid (Md.varFault v l = 42) := HR.out false (by rw [Hb.out, n1]; rfl)
    go_wp2_with (go_at_call 74; refine (isNumber_any _ _).mono ?_; rintro e w' ⟨rfl, hww⟩; rw [hww]; clear hww)
    go_ret
    exact ⟨ret_int hres.out.symm, HB1.out⟩
  cases n2 : Md.numB v.hi
  · have hres : Hid (Md.varFault v l = 42) := HR.out false (by rw [Hb.out, n1, n2]; rfl)
    go_wp2_with (go_at_call 74; refine (isNumber_any _ _).mono ?_; rintro e w' ⟨rfl, hww⟩; rw [hww]; clear hww)
    go_ret
    exact ⟨ret_int hres.out.symm, HB1.out⟩
  have Hb2 : Hid (Md.boundsB v.lo v.hi = decide (v.lo ≤ v.hi ∧ v.hi - v.lo < 64)) := by show _ = _; rw [Hb.out, n1, n2]; rfl
  have a1 : -1000000000 ≤ v.lo ∧ v.lo ≤ 1000000000 := by simpa [Md.numB] using n1
  have a2 : -1000000000 ≤ v.hi ∧ v.hi ≤ 1000000000 := by simpa [Md.numB] using n2
  obtain ⟨a3, a4⟩ := a1
  obtain ⟨a5, a6⟩ := a2
  by_cases hle : v.lo ≤ v.hi
  · by_cases hd : v.hi - v.lo < 64
    · have hres : Hid (Md.varFault v l = 0) := HR.out true (by rw [Hb2.out]; exact decide_eq_true ⟨hle, hd⟩)
      have hle' : ¬ v.hi < v.lo := by omega
      have hd' : ¬ 64 ≤ v.hi - v.lo := by omega
      go_wp2_with (go_at_call 74; refine (isNumber_any _ _).mono ?_; rintro e w' ⟨rfl, hww⟩; rw [hww]; clear hww)
      all_goals first
        | (go_ret; exact ⟨ret_int hres.out.symm, HB1.out⟩)
        | (exfalso; omega)
    · have hres : Hid (Md.varFault v l = 42) := HR.out false (by rw [Hb2.out]; exact decide_eq_false (fun h => hd h.2))
      have hle' : ¬ v.hi < v.lo := by omega
      have hd' : 64 ≤ v.hi - v.lo := by omega
      go_wp2_with (go_at_call 74; refine (isNumber_any _ _).mono ?_; rintro e w' ⟨rfl, hww⟩; rw [hww]; clear hww)
      all_goals first
        | (go_ret; exact ⟨ret_int hres.out.symm, HB1.out⟩)
        | (exfalso; omega)
  · have hres : Hid (Md.varFault v l = 42) := HR.out false (by rw [Hb2.out]; exact decide_eq_false (fun h => hle h.1))
    have hle' : v.hi < v.lo := by omega
    go_wp2_with (go_at_call 74; refine (isNumber_any _ _).mono ?_; rintro e w' ⟨rfl, hww⟩; rw [hww]; clear hww)
    go_ret
    exact ⟨ret_int hres.out.symm, HB1.out⟩
end Go.Proofs.YtjanpglnahagdaaGreatDoor
