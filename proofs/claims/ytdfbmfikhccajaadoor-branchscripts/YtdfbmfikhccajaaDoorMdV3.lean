/-
  A variable's fault: the program's; names: the document's.
-/
import Derived.Test.YtdfbmfikhccajaaDoorJ22
namespace Go.Proofs.YtdfbmfikhccajaaDoor
open Go.RowKit

theorem vf_name {v : Md.Vr} {l : List Md.Vr} (h : Md.nameB v.name.data.toList = false) : Md.varFault v l = 41 := by simp [Md.varFault, h]
theorem vf_seen {v : Md.Vr} {l : List Md.Vr} (h : Md.seenB l v.name = true) : Md.varFault v l = 41 := by simp [Md.varFault, h]
theorem vf_bounds {v : Md.Vr} {l : List Md.Vr} (h1 : Md.nameB v.name.data.toList = true) (h2 : Md.seenB l v.name = false) (h : Md.boundsB v.lo v.hi = false) : Md.varFault v l = 42 := by simp [Md.varFault, h, h1, h2]
theorem vf_ok {v : Md.Vr} {l : List Md.Vr} (h1 : Md.nameB v.name.data.toList = true) (h2 : Md.seenB l v.name = false) (h : Md.boundsB v.lo v.hi = true) : Md.varFault v l = 0 := by simp [Md.varFault, h, h1, h2]

set_option maxRecDepth 10000 in
set_option maxHeartbeats 2000000 in
theorem varFault_any (v : Md.Vr) (va : Value) (l : List Md.Vr) (w : World) (hs : v.name.size ≤ maxLen) (hv : VarsAt w va l) : Calls Tryd.prog 21 #[vrVal v, va] w fun e w' => e = .returned (.int .i64 (Md.varFault v l)) ∧ Below w.heap.size w w' := by
  obtain ⟨W, hW⟩ : ∃ W, w.alloc (.cells #[.string v.name, .int .i64 v.lo, .int .i64 v.hi] 39) = W := ⟨_, rfl⟩
  have hbW : Below w.heap.size w W := by rw [← hW]; exact (Below.refl _ _).alloc (Nat.le_refl _) _
  have hsz : W.heap.size = w.heap.size + 1 := by rw [← hW]; simp
  have c0 : W.cell? ⟨w.heap.size, 0, none⟩ = some (.string v.name) := by rw [← hW]; simp
  have c1 : W.cell? ⟨w.heap.size, 1, none⟩ = some (.int .i64 v.lo) := by rw [← hW]; simp
  have c2 : W.cell? ⟨w.heap.size, 2, none⟩ = some (.int .i64 v.hi) := by rw [← hW]; simp
  have HB : Hid (Below w.heap.size w W) := hbW
  have HN : Hid (∀ w', Calls Tryd.prog 31 #[.string v.name] w' fun e w'' => e = .returned (.bool (Md.nameB v.name.data.toList)) ∧ w'' = w') := fun w' => isName_any v.name w' hs
  have HS : Hid (Calls Tryd.prog 32 #[va, .func (.func 30) #[] #[.pointer (some ⟨w.heap.size, 0, none⟩)]] W fun e w' => e = .returned (.bool (Md.seenB l v.name)) ∧ Below W.heap.size W w') := containsVars va l v.name w.heap.size W (hv.below hbW) c0 (by omega)
  obtain ⟨a, cap, rfl, _⟩ := hv.form
  have hlt : w.heap.size < W.heap.size := by omega
  have HL : Hid (w.heap.size < W.heap.size) := hlt
  unfold vrVal
  clear hv hbW hsz
  cases h1 : Md.nameB v.name.data.toList
  · have hres : Hid (Md.varFault v l = 41) := vf_name h1
    rw [h1] at HN
    clear h1
    go_enter Tryd.func21, Tryd.ntmps21
    go_wp2_with (go_at_call 31; refine (HN.out _).mono ?_; rintro e w' ⟨rfl, hww⟩; rw [hww]; clear hww)
    go_ret
    exact ⟨ret_int hres.out.symm, HB.out⟩
  have H1 : Hid (Md.nameB v.name.data.toList = true) := h1
  rw [h1] at HN
  clear h1
  cases h2 : Md.seenB l v.name
  rotate_left
  · have hres : Hid (Md.varFault v l = 41) := vf_seen h2
    rw [h2] at HS
    clear h2
    go_enter Tryd.func21, Tryd.ntmps21
    go_wp2_with (first | (go_at_call 31; refine (HN.out _).mono ?_; rintro e w' ⟨rfl, hww⟩; rw [hww]; clear hww) | (go_at_call 32; refine calls_at HS.out (by with_reducible rfl) (by with_reducible rfl) ?_; rintro e w1 ⟨rfl, hb1⟩))
    go_ret
    exact ⟨ret_int hres.out.symm, HB.out.trans (hb1.mono HB.out.size)⟩
  have H2 : Hid (Md.seenB l v.name = false) := h2
  rw [h2] at HS
  clear h2
  have Hb : Hid (Md.boundsB v.lo v.hi = (Md.numB v.lo && Md.numB v.hi && decide (v.lo ≤ v.hi ∧ v.hi - v.lo < 64))) := rfl
  have HR : Hid (∀ b, Md.boundsB v.lo v.hi = b → Md.varFault v l = if b then 0 else 42) := fun b hb => by
    cases b
    · exact vf_bounds H1.out H2.out hb
    · exact vf_ok H1.out H2.out hb
  have HC : Hid (∀ w', Below W.heap.size W w' → w'.cell? ⟨w.heap.size, 0, none⟩ = some (.string v.name) ∧ w'.cell? ⟨w.heap.size, 1, none⟩ = some (.int .i64 v.lo) ∧ w'.cell? ⟨w.heap.size, 2, none⟩ = some (.int .i64 v.hi)) := fun w' hb => ⟨(hb.cell (p := ⟨w.heap.size, 0, none⟩) HL.out).trans c0, (hb.cell (p := ⟨w.heap.size, 1, none⟩) HL.out).trans c1, (hb.cell (p := ⟨w.heap.size, 2, none⟩) HL.out).trans c2⟩
  go_enter Tryd.func21, Tryd.ntmps21
  go_wp2_with (first | (go_at_call 31; refine (HN.out _).mono ?_; rintro e w' ⟨rfl, hww⟩; rw [hww]; clear hww) | fail)
  refine calls_at HS.out (by with_reducible rfl) (by with_reducible rfl) ?_
  rintro e w1 ⟨rfl, hb1⟩
  have HB1 : Hid (Below w.heap.size w w1) := HB.out.trans (hb1.mono HB.out.size)
  clear c0 c1 c2
  obtain ⟨c0, c1, c2⟩ := HC.out _ hb1
  clear hb1
  cases n1 : Md.numB v.lo
  · have hres : Hid (Md.varFault v l = 42) := HR.out false (by rw [Hb.out, n1]; rfl)
    go_wp2_with (go_at_call 33; refine (isNumber_any _ _).mono ?_; rintro e w' ⟨rfl, hww⟩; rw [hww]; clear hww)
    go_ret
    exact ⟨ret_int hres.out.symm, HB1.out⟩
  cases n2 : Md.numB v.hi
  · have hres : Hid (Md.varFault v l = 42) := HR.out false (by rw [Hb.out, n1, n2]; rfl)
    go_wp2_with (go_at_call 33; refine (isNumber_any _ _).mono ?_; rintro e w' ⟨rfl, hww⟩; rw [hww]; clear hww)
    go_ret
    exact ⟨ret_int hres.out.symm, HB1.out⟩
  have Hb2 : Hid (Md.boundsB v.lo v.hi = decide (v.lo ≤ v.hi ∧ v.hi - v.lo < 64)) := by show _ = _; rw [Hb.out, n1, n2]; rfl
  have a1 : -1000000000 ≤ v.lo ∧ v.lo ≤ 1000000000 := by simpa [Md.numB] using n1
  have a2 : -1000000000 ≤ v.hi ∧ v.hi ≤ 1000000000 := by simpa [Md.numB] using n2
  obtain ⟨a3, a4⟩ := a1
  obtain ⟨a5, a6⟩ := a2
  by_cases hle : v.lo ≤ v.hi
  · by_cases hd : v.hi - v.lo < 64
    · have hres : Hid (Md.varFault v l = 0) := HR.out true (by rw [Hb2.out]; exact decide_eq_true ⟨hle, hd⟩)
      have hle' : ¬ v.hi < v.lo := by omega
      have hd' : ¬ 64 ≤ v.hi - v.lo := by omega
      go_wp2_with (go_at_call 33; refine (isNumber_any _ _).mono ?_; rintro e w' ⟨rfl, hww⟩; rw [hww]; clear hww)
      all_goals first
        | (go_ret; exact ⟨ret_int hres.out.symm, HB1.out⟩)
        | (exfalso; omega)
    · have hres : Hid (Md.varFault v l = 42) := HR.out false (by rw [Hb2.out]; exact decide_eq_false (fun h => hd h.2))
      have hle' : ¬ v.hi < v.lo := by omega
      have hd' : 64 ≤ v.hi - v.lo := by omega
      go_wp2_with (go_at_call 33; refine (isNumber_any _ _).mono ?_; rintro e w' ⟨rfl, hww⟩; rw [hww]; clear hww)
      all_goals first
        | (go_ret; exact ⟨ret_int hres.out.symm, HB1.out⟩)
        | (exfalso; omega)
  · have hres : Hid (Md.varFault v l = 42) := HR.out false (by rw [Hb2.out]; exact decide_eq_false (fun h => hle h.1))
    have hle' : v.hi < v.lo := by omega
    go_wp2_with (go_at_call 33; refine (isNumber_any _ _).mono ?_; rintro e w' ⟨rfl, hww⟩; rw [hww]; clear hww)
    go_ret
    exact ⟨ret_int hres.out.symm, HB1.out⟩
end Go.Proofs.YtdfbmfikhccajaaDoor
