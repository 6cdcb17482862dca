/-
  The document's Con and Holds, of every constraint.
-/
import Derived.Test.YtmhfabnpfkkbcaaGreatMdRefConA
import Derived.Test.YtmhfabnpfkkbcaaGreatMdRefConB
import Derived.Test.YtmhfabnpfkkbcaaGreatMdRefConC
import Derived.Test.YtmhfabnpfkkbcaaGreatMdRefHJ
namespace Go.Proofs.YtmhfabnpfkkbcaaGreat
open Go.RowKit

theorem fault_kind {c : Md.Cn} {n : Int} (h : c.kind < 1 ∨ 9 < c.kind) : Md.fault c n = 43 := by
  unfold Md.fault Md.kindBad
  rw [decide_eq_true h]
  rfl

set_option maxRecDepth 10000 in
set_option maxHeartbeats 1000000 in
theorem refCon_0 (c : Md.Cn) (vt vx vb vr : Value) (n : Int) (w : World) (h : CnAt w c vt vx vb vr) (hk : c.kind < 1 ∨ 9 < c.kind) : Calls Tryz.prog 35 #[cnVal c vt vx vb vr, .int .i64 n] w fun e w' => e = .returned (.int .i64 (Md.fault c n)) ∧ Below w.heap.size w w' := by
  have hres : Hid (Md.fault c n = 43) := fault_kind hk
  obtain ⟨ta, tc, rfl, _⟩ := h.t.form
  obtain ⟨xa, xc, rfl, _⟩ := h.x.form
  obtain ⟨ba, bc, rfl, _⟩ := h.b.form
  obtain ⟨ra, rc, rfl, _⟩ := h.r.form
  clear h
  unfold cnVal
  rcases hk with hk | hk
  · go_enter Tryz.func35, Tryz.ntmps35
    go_wp2_with fail
    go_ret
    exact ⟨ret_int hres.out.symm, (Below.refl _ _).alloc (Nat.le_refl _) _⟩
  · have hk1 : ¬ c.kind < 1 := by omega
    go_enter Tryz.func35, Tryz.ntmps35
    go_wp2_with fail
    go_ret
    exact ⟨ret_int hres.out.symm, (Below.refl _ _).alloc (Nat.le_refl _) _⟩

/-- foreign's contract. -/
def ForeignOk : Prop := ∀ (c : Md.Cn) (vt vx vb vr : Value) (w : World), CnAt w c vt vx vb vr → 1 ≤ c.kind ∧ c.kind ≤ 9 → Calls Tryz.prog 85 #[cnVal c vt vx vb vr] w fun e w' => e = .returned (.bool (Md.plainBad c || Md.listBad c)) ∧ Below w.heap.size w w'

theorem kind_is {k : Int} (h1 : 1 ≤ k) (h2 : k ≤ 9) : k = 1 ∨ k = 2 ∨ k = 3 ∨ k = 4 ∨ k = 5 ∨ k = 6 ∨ k = 7 ∨ k = 8 ∨ k = 9 := by omega

theorem refCon_any (HF : ForeignOk) (c : Md.Cn) (vt vx vb vr : Value) (n : Int) (w : World) (h : CnAt w c vt vx vb vr) : Calls Tryz.prog 35 #[cnVal c vt vx vb vr, .int .i64 n] w fun e w' => e = .returned (.int .i64 (Md.fault c n)) ∧ Below w.heap.size w w' := by
  by_cases hk : 1 ≤ c.kind ∧ c.kind ≤ 9
  · have hfg : ∀ w', CnAt w' c vt vx vb vr → Calls Tryz.prog 85 #[cnVal c vt vx vb vr] w' fun e w'' => e = .returned (.bool (Md.plainBad c || Md.listBad c)) ∧ Below w'.heap.size w' w'' := fun w' h' => HF c vt vx vb vr w' h' hk
    rcases kind_is hk.1 hk.2 with k | k | k | k | k | k | k | k | k
    · exact refCon_1 c vt vx vb vr n w h k hfg
    · exact refCon_2 c vt vx vb vr n w h k hfg
    · exact refCon_3 c vt vx vb vr n w h k hfg
    · exact refCon_4 c vt vx vb vr n w h k hfg
    · exact refCon_5 c vt vx vb vr n w h k hfg
    · exact refCon_6 c vt vx vb vr n w h k hfg
    · exact refCon_7 c vt vx vb vr n w h k hfg
    · exact refCon_8 c vt vx vb vr n w h k hfg
    · exact refCon_9 c vt vx vb vr n w h k hfg
  · exact refCon_0 c vt vx vb vr n w h (by omega)

theorem refHolds_any (HF : ForeignOk) (c : Md.Cn) (vt vx vb vr vv : Value) (vs : List Int) (w : World) (h : CnAt w c vt vx vb vr) (hv : IntsAt w vv vs) : Calls Tryz.prog 24 #[cnVal c vt vx vb vr, vv] w fun e w' => e = .returned (.bool (Md.holds c vs)) ∧ Below w.heap.size w w' := by
  have hcon : ∀ w', CnAt w' c vt vx vb vr → Calls Tryz.prog 35 #[cnVal c vt vx vb vr, .int .i64 (vs.length : Int)] w' fun e w'' => e = .returned (.int .i64 (Md.fault c vs.length)) ∧ Below w'.heap.size w' w'' := fun w' h' => refCon_any HF c vt vx vb vr _ w' h'
  by_cases hf : Md.fault c vs.length = 0
  · cases hn : vs.all Md.numB
    · have e : Md.holds c vs = false := by unfold Md.holds; rw [hn]; simp
      rw [e]
      exact refHolds_bad c vt vx vb vr vv vs w h hv hcon (.inr hn)
    · have hfit := Md.fit_of hf
      have e : Md.holds c vs = Md.hold c vs := by unfold Md.holds; rw [hn, hf]; simp
      rw [e]
      unfold Md.hold
      rcases kind_is hfit.kind.1 hfit.kind.2 with k | k | k | k | k | k | k | k | k
      · rw [k]
        simpa using refHolds_1 c vt vx vb vr vv vs w h hv hfit hn hcon hf k
      · rw [k]
        simpa using refHolds_2 c vt vx vb vr vv vs w h hv hfit hn hcon hf k
      · rw [k]
        simpa using refHolds_3 c vt vx vb vr vv vs w h hv hfit hn hcon hf k
      · rw [k]
        simpa using refHolds_4 c vt vx vb vr vv vs w h hv hfit hn hcon hf k
      · rw [k]
        simpa using refHolds_5 c vt vx vb vr vv vs w h hv hfit hn hcon hf k
      · rw [k]
        simpa using refHolds_6 c vt vx vb vr vv vs w h hv hfit hn hcon hf k
      · rw [k]
        simpa using refHolds_7 c vt vx vb vr vv vs w h hv hfit hn hcon hf k
      · rw [k]
        simpa using refHolds_8 c vt vx vb vr vv vs w h hv hfit hn hcon hf k
      · rw [k]
        simpa using refHolds_9 c vt vx vb vr vv vs w h hv hfit hn hcon hf k
  · have e : Md.holds c vs = false := by unfold Md.holds; simp [hf]
    rw [e]
    exact refHolds_bad c vt vx vb vr vv vs w h hv hcon (.inl hf)
end Go.Proofs.YtmhfabnpfkkbcaaGreat
