/-
  Package model: conFault, of every constraint.
-/
import Derived.Test.YthohnmplbjhjaaaGreatDoorMdFault
namespace Go.Proofs.YthohnmplbjhjaaaGreatDoor
open Go.RowKit

theorem kind1 : KindIs 1 151 150 true 64 0 0 0 where
  of := kindOf_1
  own := fun c vt vx vb vr w hk hC => by
    have h1 := own129 c vt vx vb vr w hC
    have h2 : ownVal c = plVal c.kind c.op c.k 0 0 0 := by unfold ownVal; rw [hk]; rfl
    rw [h2]; exact h1
  ent := enters_of Tryz.func151 (by kernel_rfl) rfl
  enh := enters_of Tryz.func150 (by kernel_rfl) rfl
  op := rfl
  e0 := rfl
  e1 := rfl
  e2 := rfl
  e3 := rfl

theorem kind2 : KindIs 2 153 152 false 0 0 0 0 where
  of := kindOf_2
  own := fun c vt vx vb vr w hk hC => by
    have h1 := own131 c vt vx vb vr w hC
    have h2 : ownVal c = plVal c.kind 0 c.k 0 c.x c.y := by unfold ownVal; rw [hk]; rfl
    rw [h2]; exact h1
  ent := enters_of Tryz.func153 (by kernel_rfl) rfl
  enh := enters_of Tryz.func152 (by kernel_rfl) rfl
  op := rfl
  e0 := rfl
  e1 := rfl
  e2 := rfl
  e3 := rfl

theorem kind3 : KindIs 3 149 154 false 0 64 0 0 where
  of := kindOf_3
  own := fun c vt vx vb vr w hk hC => by
    have h1 := own127 c vt vx vb vr w hC
    have h2 : ownVal c = plVal c.kind 0 0 0 0 0 := by unfold ownVal; rw [hk]; rfl
    rw [h2]; exact h1
  ent := enters_of Tryz.func149 (by kernel_rfl) rfl
  enh := enters_of Tryz.func154 (by kernel_rfl) rfl
  op := rfl
  e0 := rfl
  e1 := rfl
  e2 := rfl
  e3 := rfl

theorem kind4 : KindIs 4 156 155 false 0 0 64 0 where
  of := kindOf_4
  own := fun c vt vx vb vr w hk hC => by
    have h1 := own134 c vt vx vb vr w hC
    have h2 : ownVal c = plVal c.kind 0 0 0 c.x c.y := by unfold ownVal; rw [hk]; rfl
    rw [h2]; exact h1
  ent := enters_of Tryz.func156 (by kernel_rfl) rfl
  enh := enters_of Tryz.func155 (by kernel_rfl) rfl
  op := rfl
  e0 := rfl
  e1 := rfl
  e2 := rfl
  e3 := rfl

theorem kind5 : KindIs 5 148 157 false 0 64 0 0 where
  of := kindOf_5
  own := fun c vt vx vb vr w hk hC => by
    have h1 := own126 c vt vx vb vr w hC
    have h2 : ownVal c = plVal c.kind 0 0 0 0 c.y := by unfold ownVal; rw [hk]; rfl
    rw [h2]; exact h1
  ent := enters_of Tryz.func148 (by kernel_rfl) rfl
  enh := enters_of Tryz.func157 (by kernel_rfl) rfl
  op := rfl
  e0 := rfl
  e1 := rfl
  e2 := rfl
  e3 := rfl

theorem kind6 : KindIs 6 148 158 false 0 64 0 0 where
  of := kindOf_6
  own := fun c vt vx vb vr w hk hC => by
    have h1 := own126 c vt vx vb vr w hC
    have h2 : ownVal c = plVal c.kind 0 0 0 0 c.y := by unfold ownVal; rw [hk]; rfl
    rw [h2]; exact h1
  ent := enters_of Tryz.func148 (by kernel_rfl) rfl
  enh := enters_of Tryz.func158 (by kernel_rfl) rfl
  op := rfl
  e0 := rfl
  e1 := rfl
  e2 := rfl
  e3 := rfl

theorem kind7 : KindIs 7 160 159 false 64 0 0 0 where
  of := kindOf_7
  own := fun c vt vx vb vr w hk hC => by
    have h1 := own138 c vt vx vb vr w hC
    have h2 : ownVal c = plVal c.kind 0 c.k 0 c.x 0 := by unfold ownVal; rw [hk]; rfl
    rw [h2]; exact h1
  ent := enters_of Tryz.func160 (by kernel_rfl) rfl
  enh := enters_of Tryz.func159 (by kernel_rfl) rfl
  op := rfl
  e0 := rfl
  e1 := rfl
  e2 := rfl
  e3 := rfl

theorem kind8 : KindIs 8 149 161 false 0 8 0 64 where
  of := kindOf_8
  own := fun c vt vx vb vr w hk hC => by
    have h1 := own127 c vt vx vb vr w hC
    have h2 : ownVal c = plVal c.kind 0 0 0 0 0 := by unfold ownVal; rw [hk]; rfl
    rw [h2]; exact h1
  ent := enters_of Tryz.func149 (by kernel_rfl) rfl
  enh := enters_of Tryz.func161 (by kernel_rfl) rfl
  op := rfl
  e0 := rfl
  e1 := rfl
  e2 := rfl
  e3 := rfl

theorem kind9 : KindIs 9 163 162 true 0 64 0 0 where
  of := kindOf_9
  own := fun c vt vx vb vr w hk hC => by
    have h1 := own141 c vt vx vb vr w hC
    have h2 : ownVal c = plVal c.kind c.op c.k c.v 0 0 := by unfold ownVal; rw [hk]; rfl
    rw [h2]; exact h1
  ent := enters_of Tryz.func163 (by kernel_rfl) rfl
  enh := enters_of Tryz.func162 (by kernel_rfl) rfl
  op := rfl
  e0 := rfl
  e1 := rfl
  e2 := rfl
  e3 := rfl

set_option maxRecDepth 10000 in
set_option maxHeartbeats 1000000 in
theorem conFault_none (c : Md.Cn) (vt vx vb vr : Value) (n : Int) (w : World) (hC : CnAt w c vt vx vb vr) (hk : c.kind < 1 ∨ 9 < c.kind) :
    Calls Tryz.prog 34 #[cnVal c vt vx vb vr, .int .i64 n] w fun e w' => e = .returned (.int .i64 (Md.fault c n)) ∧ Below w.heap.size w w' := by
  obtain ⟨ta, tc, rfl, _⟩ := id hC.t
  obtain ⟨xa, xc, rfl, _⟩ := id hC.x
  obtain ⟨ba, bc, rfl, _⟩ := id hC.b
  obtain ⟨ra, rc, rfl, _⟩ := id hC.r
  have hres : Hid (Md.fault c n = 43) := by
    have : Md.kindBad c.kind c.op = true := by simp [Md.kindBad, hk]
    show _ = _
    simp [Md.fault, this]
  have HK : Hid (∀ w, Calls Tryz.prog 58 #[.int .i64 c.kind] w fun e w' => e = .returned (.tuple #[.agg #[.nilFunc, .bool false, .int .i64 0, .int .i64 0, .int .i64 0, .int .i64 0, .nilFunc], .bool false]) ∧ Below w.heap.size w w') := fun w => kindOf_none c.kind w hk
  clear hC hk
  unfold cnVal
  go_enter Tryz.func34, Tryz.ntmps34
  go_wp2_with fail
  refine (HK.out _).mono ?_
  rintro e w1 ⟨rfl, hb1⟩
  have hbw : Hid (Below w.heap.size w w1) := ((Below.refl _ _).alloc (Nat.le_refl _) _).trans (hb1.mono (by simp))
  clear hb1
  go_wp2_with fail
  go_ret
  exact ⟨ret_int hres.out.symm, hbw.out.alloc hbw.out.size _⟩

theorem conFault_any (c : Md.Cn) (vt vx vb vr : Value) (n : Int) (w : World) (hC : CnAt w c vt vx vb vr) :
    Calls Tryz.prog 34 #[cnVal c vt vx vb vr, .int .i64 n] w fun e w' => e = .returned (.int .i64 (Md.fault c n)) ∧ Below w.heap.size w w' := by
  by_cases hk : c.kind < 1 ∨ 9 < c.kind
  · exact conFault_none c vt vx vb vr n w hC hk
  · have h19 : 1 ≤ c.kind ∧ c.kind ≤ 9 := by omega
    rcases (show c.kind = 1 ∨ c.kind = 2 ∨ c.kind = 3 ∨ c.kind = 4 ∨ c.kind = 5 ∨ c.kind = 6 ∨ c.kind = 7 ∨ c.kind = 8 ∨ c.kind = 9 by omega) with h | h | h | h | h | h | h | h | h
    · exact conFault_kind c vt vx vb vr n w (by rw [h]; exact kind1) hC h19
    · exact conFault_kind c vt vx vb vr n w (by rw [h]; exact kind2) hC h19
    · exact conFault_kind c vt vx vb vr n w (by rw [h]; exact kind3) hC h19
    · exact conFault_kind c vt vx vb vr n w (by rw [h]; exact kind4) hC h19
    · exact conFault_kind c vt vx vb vr n w (by rw [h]; exact kind5) hC h19
    · exact conFault_kind c vt vx vb vr n w (by rw [h]; exact kind6) hC h19
    · exact conFault_kind c vt vx vb vr n w (by rw [h]; exact kind7) hC h19
    · exact conFault_kind c vt vx vb vr n w (by rw [h]; exact kind8) hC h19
    · exact conFault_kind c vt vx vb vr n w (by rw [h]; exact kind9) hC h19
end Go.Proofs.YthohnmplbjhjaaaGreatDoor
