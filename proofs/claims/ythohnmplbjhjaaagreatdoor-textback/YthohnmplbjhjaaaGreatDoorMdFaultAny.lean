import Derived.Test.YthohnmplbjhjaaaGreatDoorMdFault
namespace Go.Proofs.YthohnmplbjhjaaaGreatDoor
open Go.RowKit
theorem y0k : KindIs 1 151 150 true 64 0 0 0 where
  of := y0l
  own := fun c vt vx vb vr w hk hC => by
    have h1 := y0m c vt vx vb vr w hC
    have h2 : zn c = yw c.kind c.op c.k 0 0 0 := by unfold zn; rw [hk]; rfl
    rw [h2]; exact h1
  ent := enters_of Tryz.func151 (by kernel_rfl) rfl
  enh := enters_of Tryz.func150 (by kernel_rfl) rfl
  op := rfl
  e0 := rfl
  e1 := rfl
  e2 := rfl
  e3 := rfl
theorem y0n : KindIs 2 153 152 false 0 0 0 0 where
  of := y0o
  own := fun c vt vx vb vr w hk hC => by
    have h1 := y0p c vt vx vb vr w hC
    have h2 : zn c = yw c.kind 0 c.k 0 c.x c.y := by unfold zn; rw [hk]; rfl
    rw [h2]; exact h1
  ent := enters_of Tryz.func153 (by kernel_rfl) rfl
  enh := enters_of Tryz.func152 (by kernel_rfl) rfl
  op := rfl
  e0 := rfl
  e1 := rfl
  e2 := rfl
  e3 := rfl
theorem y0q : KindIs 3 149 154 false 0 64 0 0 where
  of := y0r
  own := fun c vt vx vb vr w hk hC => by
    have h1 := Xr c vt vx vb vr w hC
    have h2 : zn c = yw c.kind 0 0 0 0 0 := by unfold zn; rw [hk]; rfl
    rw [h2]; exact h1
  ent := enters_of Tryz.func149 (by kernel_rfl) rfl
  enh := enters_of Tryz.func154 (by kernel_rfl) rfl
  op := rfl
  e0 := rfl
  e1 := rfl
  e2 := rfl
  e3 := rfl
theorem y0s : KindIs 4 156 155 false 0 0 64 0 where
  of := y0t
  own := fun c vt vx vb vr w hk hC => by
    have h1 := y0u c vt vx vb vr w hC
    have h2 : zn c = yw c.kind 0 0 0 c.x c.y := by unfold zn; rw [hk]; rfl
    rw [h2]; exact h1
  ent := enters_of Tryz.func156 (by kernel_rfl) rfl
  enh := enters_of Tryz.func155 (by kernel_rfl) rfl
  op := rfl
  e0 := rfl
  e1 := rfl
  e2 := rfl
  e3 := rfl
theorem y0v : KindIs 5 148 157 false 0 64 0 0 where
  of := y0w
  own := fun c vt vx vb vr w hk hC => by
    have h1 := Xt c vt vx vb vr w hC
    have h2 : zn c = yw c.kind 0 0 0 0 c.y := by unfold zn; rw [hk]; rfl
    rw [h2]; exact h1
  ent := enters_of Tryz.func148 (by kernel_rfl) rfl
  enh := enters_of Tryz.func157 (by kernel_rfl) rfl
  op := rfl
  e0 := rfl
  e1 := rfl
  e2 := rfl
  e3 := rfl
theorem y0x : KindIs 6 148 158 false 0 64 0 0 where
  of := y0y
  own := fun c vt vx vb vr w hk hC => by
    have h1 := Xt c vt vx vb vr w hC
    have h2 : zn c = yw c.kind 0 0 0 0 c.y := by unfold zn; rw [hk]; rfl
    rw [h2]; exact h1
  ent := enters_of Tryz.func148 (by kernel_rfl) rfl
  enh := enters_of Tryz.func158 (by kernel_rfl) rfl
  op := rfl
  e0 := rfl
  e1 := rfl
  e2 := rfl
  e3 := rfl
theorem y0z : KindIs 7 160 159 false 64 0 0 0 where
  of := y0A
  own := fun c vt vx vb vr w hk hC => by
    have h1 := y0B c vt vx vb vr w hC
    have h2 : zn c = yw c.kind 0 c.k 0 c.x 0 := by unfold zn; rw [hk]; rfl
    rw [h2]; exact h1
  ent := enters_of Tryz.func160 (by kernel_rfl) rfl
  enh := enters_of Tryz.func159 (by kernel_rfl) rfl
  op := rfl
  e0 := rfl
  e1 := rfl
  e2 := rfl
  e3 := rfl
theorem y0C : KindIs 8 149 161 false 0 8 0 64 where
  of := y0D
  own := fun c vt vx vb vr w hk hC => by
    have h1 := Xr c vt vx vb vr w hC
    have h2 : zn c = yw c.kind 0 0 0 0 0 := by unfold zn; rw [hk]; rfl
    rw [h2]; exact h1
  ent := enters_of Tryz.func149 (by kernel_rfl) rfl
  enh := enters_of Tryz.func161 (by kernel_rfl) rfl
  op := rfl
  e0 := rfl
  e1 := rfl
  e2 := rfl
  e3 := rfl
theorem y0E : KindIs 9 163 162 true 0 64 0 0 where
  of := y0F
  own := fun c vt vx vb vr w hk hC => by
    have h1 := y0G c vt vx vb vr w hC
    have h2 : zn c = yw c.kind c.op c.k c.v 0 0 := by unfold zn; rw [hk]; rfl
    rw [h2]; exact h1
  ent := enters_of Tryz.func163 (by kernel_rfl) rfl
  enh := enters_of Tryz.func162 (by kernel_rfl) rfl
  op := rfl
  e0 := rfl
  e1 := rfl
  e2 := rfl
  e3 := rfl
set_option maxRecDepth 10000 in
set_option maxHeartbeats 1000000 in
theorem y0H (c : Md.Cn) (vt vx vb vr : Value) (n : Int) (w : World) (hC : CnAt w c vt vx vb vr) (hk : c.kind < 1 ∨ 9 < c.kind) :
    Calls Tryz.prog 34 #[yu c vt vx vb vr, .int .i64 n] w fun e w' => e = .returned (.int .i64 (Md.fault c n)) ∧ Below w.heap.size w w' := by
  obtain ⟨ta, tc, rfl, _⟩ := id hC.t
  obtain ⟨xa, xc, rfl, _⟩ := id hC.x
  obtain ⟨ba, bc, rfl, _⟩ := id hC.b
  obtain ⟨ra, rc, rfl, _⟩ := id hC.r
  have hres : Hid (Md.fault c n = 43) := by
    have : Md.kindBad c.kind c.op = true := by simp [Md.kindBad, hk]
    show _ = _
    simp [Md.fault, this]
  have HK : Hid (∀ w, Calls Tryz.prog 58 #[.int .i64 c.kind] w fun e w' => e = .returned (.tuple #[.agg #[.nilFunc, .bool false, .int .i64 0, .int .i64 0, .int .i64 0, .int .i64 0, .nilFunc], .bool false]) ∧ Below w.heap.size w w') := fun w => y0I c.kind w hk
  clear hC hk
  unfold yu
  go_enter Tryz.func34, Tryz.ntmps34
  go_wp2_with fail
  refine (HK.out _).mono ?_
  rintro e w1 ⟨rfl, hb1⟩
  have hbw : Hid (Below w.heap.size w w1) := ((Below.refl _ _).alloc (Nat.le_refl _) _).trans (hb1.mono (by simp))
  clear hb1
  go_wp2_with fail
  go_ret
  exact ⟨yz hres.out.symm, hbw.out.alloc hbw.out.size _⟩
theorem y0J (c : Md.Cn) (vt vx vb vr : Value) (n : Int) (w : World) (hC : CnAt w c vt vx vb vr) :
    Calls Tryz.prog 34 #[yu c vt vx vb vr, .int .i64 n] w fun e w' => e = .returned (.int .i64 (Md.fault c n)) ∧ Below w.heap.size w w' := by
  by_cases hk : c.kind < 1 ∨ 9 < c.kind
  · exact y0H c vt vx vb vr n w hC hk
  · have h19 : 1 ≤ c.kind ∧ c.kind ≤ 9 := by omega
    rcases (show c.kind = 1 ∨ c.kind = 2 ∨ c.kind = 3 ∨ c.kind = 4 ∨ c.kind = 5 ∨ c.kind = 6 ∨ c.kind = 7 ∨ c.kind = 8 ∨ c.kind = 9 by omega) with h | h | h | h | h | h | h | h | h
    · exact xz c vt vx vb vr n w (by rw [h]; exact y0k) hC h19
    · exact xz c vt vx vb vr n w (by rw [h]; exact y0n) hC h19
    · exact xz c vt vx vb vr n w (by rw [h]; exact y0q) hC h19
    · exact xz c vt vx vb vr n w (by rw [h]; exact y0s) hC h19
    · exact xz c vt vx vb vr n w (by rw [h]; exact y0v) hC h19
    · exact xz c vt vx vb vr n w (by rw [h]; exact y0x) hC h19
    · exact xz c vt vx vb vr n w (by rw [h]; exact y0z) hC h19
    · exact xz c vt vx vb vr n w (by rw [h]; exact y0C) hC h19
    · exact xz c vt vx vb vr n w (by rw [h]; exact y0E) hC h19
end Go.Proofs.YthohnmplbjhjaaaGreatDoor
