/-
  laySteps: the program's.
-/
import Derived.Test.YtkgeknlmkkoobaaOdAtNext
import Derived.Test.YtkgeknlmkkoobaaOdLists
namespace Go.Proofs.Ytkgeknlmkkoobaa
open Go.RowKit

def StOk (vs : List Md.Vr) (k : Nat) (V : Nat → Value) : Prop := ∀ i (_ : i < vs.length), i < k → V (i * 6) = .int .i64 (Od.aS vs i) ∧ V (i * 6 + 1) = .int .i64 (vs[i].lo + 1) ∧ V (i * 6 + 2) = .int .i64 vs[i].hi
def MsOk (vs : List Md.Vr) (k : Nat) (M : Nat → Value) : Prop := ∀ i, i < k → M (i * 2) = .int .i64 (Od.aS vs i)
def put3 (f : Nat → Value) (i : Nat) (a b c : Value) : Nat → Value := put (put (put f i a) (i + 1) b) (i + 2) c
theorem put3_at (f : Nat → Value) (i : Nat) (a b c : Value) : put3 f i a b c i = a ∧ put3 f i a b c (i + 1) = b ∧ put3 f i a b c (i + 2) = c := by
  refine ⟨?_, ?_, ?_⟩ <;> simp [put3, put]
theorem put3_other {f : Nat → Value} {i j : Nat} {a b c : Value} (h : j < i ∨ i + 2 < j) : put3 f i a b c j = f j := by
  unfold put3
  rw [put_other (by omega), put_other (by omega), put_other (by omega)]
theorem StOk.put {vs : List Md.Vr} {k : Nat} {V : Nat → Value} (h : StOk vs k V) (hk : k < vs.length) : StOk vs (k + 1) (put3 V (k * 6) (.int .i64 (Od.aS vs k)) (.int .i64 (vs[k].lo + 1)) (.int .i64 vs[k].hi)) := by
  intro i hi hik
  by_cases e : i = k
  · subst e
    exact put3_at _ _ _ _ _
  · obtain ⟨h1, h2, h3⟩ := h i hi (by omega)
    rw [put3_other (by omega), put3_other (by omega), put3_other (by omega)]
    exact ⟨h1, h2, h3⟩
theorem MsOk.put {vs : List Md.Vr} {k : Nat} {M : Nat → Value} (h : MsOk vs k M) : MsOk vs (k + 1) (put M (k * 2) (.int .i64 (Od.aS vs k))) := by
  intro i hik
  by_cases e : i = k
  · subst e
    exact put_same _ _ _
  · rw [put_other (by omega)]
    exact h i (by omega)
/-- The cells of variables. -/
def VarCells (w : World) (b off : Nat) (vs : List Md.Vr) : Prop := ∀ j (h : j < vs.length), w.cell? ⟨b, off + j * 3, none⟩ = some (.string vs[j].name) ∧ w.cell? ⟨b, off + j * 3 + 1, none⟩ = some (.int .i64 vs[j].lo) ∧ w.cell? ⟨b, off + j * 3 + 2, none⟩ = some (.int .i64 vs[j].hi)

def Ls3 (P mb n : Nat) (cnt : Int) (X w' : World) : Prop := w'.cell? ⟨P, 2, none⟩ = some (.slice (some ⟨mb, 0, none⟩) (n + 1) (n + 1)) ∧ w'.cell? ⟨P, 0, none⟩ = some (.int .i64 cnt) ∧ Below X.heap.size X w'
theorem Ls3.of {s : Sh} {cnt : Int} {X w' : World} {V M Kq : Nat → Value} (h : OrdAt s X cnt V M Kq) (hb : Below X.heap.size X w') : Ls3 s.P s.mb s.n cnt X w' :=
  ⟨(h.next hb).cells.1.2.2.1, (h.next hb).cells.1.1, hb⟩
def Ls4 (P vb n N : Nat) (nm : ByteArray) (lo hi : Int) (w' : World) : Prop := w'.cell? ⟨P, 1, none⟩ = some (.slice (some ⟨vb, 0, none⟩) n n) ∧ w'.cell? ⟨N, 0, none⟩ = some (.string nm) ∧ w'.cell? ⟨N, 1, none⟩ = some (.int .i64 lo) ∧ w'.cell? ⟨N, 2, none⟩ = some (.int .i64 hi)
theorem Ls4.of {s : Sh} {cnt : Int} {X w' : World} {V M Kq : Nat → Value} {N : Nat} {nm : ByteArray} {lo hi : Int} (h : OrdAt s w' cnt V M Kq) (hn : X.heap[N]? = some (.cells #[.string nm, .int .i64 lo, .int .i64 hi] 38)) (ho : ¬ s.own N) (hs : Off s.own X w') : Ls4 s.P s.vb s.n N nm lo hi w' := by
  have hn' := (hs.block N (Array.getElem?_eq_some_iff.1 hn).1 ho).trans hn
  exact ⟨h.cells.1.2.1, (box3 hn').1.1, (box3 hn').1.2.1, (box3 hn').1.2.2⟩

set_option maxRecDepth 10000 in
set_option maxHeartbeats 2000000 in
theorem laySteps_any (s : Sh) (B : Nat) (vs : List Md.Vr) (b off cap : Nat) (V M Kq : Nat → Value) (w : World) (h : OrdAt s w 0 V M Kq) (ok : s.Ok B) (hB : B ≤ w.heap.size) (hg : Od.Good vs) (hn : s.n = vs.length) (hV : ∀ w', Below B w w' → VarCells w' b off vs) :
    Calls Try.prog 22 #[.pointer (some ⟨s.P, 0, none⟩), .slice (some ⟨b, off, none⟩) vs.length cap] w fun e w' => e = .returned (.tuple #[]) ∧ ∃ V' M', OrdAt s w' (Od.aS vs vs.length) V' M' Kq ∧ StOk vs vs.length V' ∧ MsOk vs (vs.length + 1) M' ∧ Step s B w w' := by
  have hg1 := hg.n1
  have HG : Hid (Od.Good vs) := hg
  have HV : Hid (∀ w', Below B w w' → VarCells w' b off vs) := hV
  have HOK : Hid (s.Ok B) := ok
  have HB : Hid (B ≤ w.heap.size) := hB
  have H0 : Hid (OrdAt s w (Od.aS vs 0) V M Kq) := h
  have Hn : Hid (s.n = vs.length) := hn
  clear h ok hB hg hV hn
  go_enter Try.func22, Try.ntmps22
  go_wp2_with fail
  go_loopw [8] (fun iv wr => ∃ (k : Nat) (V' M' : Nat → Value), iv = .int .i64 (k : Int) ∧ k ≤ vs.length ∧ Hid (OrdAt s wr (Od.aS vs k) V' M' Kq) ∧ Hid (StOk vs k V') ∧ Hid (MsOk vs k M') ∧ Hid (Step s B w wr)) (fun iv _ => vs.length - (intOf iv).toNat)
  case atStart => exact ⟨0, V, M, rfl, Nat.zero_le _, H0, (fun i _ h => absurd h (Nat.not_lt_zero _)), (fun i h => absurd h (Nat.not_lt_zero _)), Step.refl _ _ _⟩
  case round =>
    obtain ⟨k, V', M', rfl, hk, hO, hS, hM, hT⟩ := hrel
    clear H0
    have HBr : Hid (B ≤ wr.heap.size) := Nat.le_trans HB.out hT.out.size
    by_cases hlt : k < vs.length
    · have hkI : (k : Int) < (vs.length : Int) := by omega
      obtain ⟨d0, d1, d2⟩ := HV.out wr hT.out.below k hlt
      have HFit : Hid (Od.Run.Fit ⟨Od.aS vs k, vs[k].lo + 1, vs[k].hi⟩) := Od.stR_fit HG.out k hlt
      have HNx : Hid (Od.aS vs (k + 1) = Od.aS vs k + (vs[k].hi - (vs[k].lo + 1) + 1)) := by show _ = _; rw [Od.aS_next hlt]; omega
      have HSt : Hid (StOk vs (k + 1) (put3 V' (k * 6) (.int .i64 (Od.aS vs k)) (.int .i64 (vs[k].lo + 1)) (.int .i64 vs[k].hi))) := hS.out.put hlt
      have HMs : Hid (MsOk vs (k + 1) (put M' (k * 2) (.int .i64 (Od.aS vs k)))) := hM.out.put
      have hlo : IntKind.i64.wrap (vs[k].lo + 1) = vs[k].lo + 1 := by have := HG.out.b k hlt; exact wrap_ok (by omega) (by omega)
      generalize vs[k] = v at *
      generalize Od.aS vs k = cnt at *
      obtain ⟨nm, lo, hi⟩ := v
      simp only at d0 d1 d2 HFit HNx HSt hlo
      obtain ⟨X, hX⟩ : ∃ X, wr.alloc (.cells #[.string nm, .int .i64 lo, .int .i64 hi] 38) = X := ⟨_, rfl⟩
      have hbX : Below wr.heap.size wr X := by rw [← hX]; exact (Below.refl _ _).alloc (Nat.le_refl _) _
      have hNX : X.heap[wr.heap.size]? = some (.cells #[.string nm, .int .i64 lo, .int .i64 hi] 38) := by rw [← hX]; exact heap_alloc_new wr _
      have HOX : Hid (OrdAt s X cnt V' M' Kq) := hO.out.next hbX
      have HNX : Hid (X.heap[wr.heap.size]? = some (.cells #[.string nm, .int .i64 lo, .int .i64 hi] 38)) := hNX
      have HTX : Hid (Step s B w X) := hT.out.new hbX HB.out
      have Hno : Hid (¬ s.own wr.heap.size) := by
        have := hO.out.lt
        show ¬ (_ ∨ _ ∨ _ ∨ _)
        omega
      have hkn : (k : Int) < (s.n : Int) + 1 := by have := Hn.out; omega
      have hkn2 : (k : Int) < (s.n : Int) := by have := Hn.out; omega
      have hkn3 : k * 2 < (s.n + 1) * 2 := by have := Hn.out; omega
      clear hbX hNX
      go_wp2_with fail
      clear d0 d1 d2
      refine wp_region_T (fun _ => True) (Ls3 s.P s.mb s.n cnt X) [11] (by kernel_rfl) ⟨trivial, Ls3.of HOX.out (Below.refl _ _).drew⟩ (fun hHeld => ?_)
      unfold Ls3 at hHeld ⊢
      obtain ⟨mc, mz⟩ : (∃ u, X.drew.cell? ⟨s.mb, k * 2, none⟩ = some u) ∧ X.drew.frozen? ⟨s.mb, k * 2, none⟩ = false := ⟨⟨_, (HOX.out.m.drew).cell hkn3⟩, (HOX.out.m.drew).frozen _⟩
      obtain ⟨mu, mc⟩ := mc
      refine wpAnyT_takeB (i := 0) (oi := ⟨some 13, .move (.tmp 0), _, _, _, _⟩) (v := ?vR3x0) rfl (by kernel_rfl) (by kernel_rfl) (by kernel_rfl) (by kernel_rfl) (fun _ _ _ h => h) (Or.inl ⟨by rfl, ?hyR3x0⟩) (by assumption) ?restR3x0
      case hyR3x0 => (intro w hSw; (try dsimp only at hSw); go_simp; try (with_reducible rfl))
      try simp only [Act.put, List.setIfInBounds_toArray, List.set_cons_zero, List.set_cons_succ]
      refine wpAnyT_takeB (i := 1) (oi := ⟨some 14, .nilCheck (.tmp 13), _, _, _, _⟩) (v := ?vR3x1) rfl (by kernel_rfl) (by kernel_rfl) (by kernel_rfl) (by kernel_rfl) (fun _ _ _ h => h) (Or.inl ⟨by rfl, ?hyR3x1⟩) (by assumption) ?restR3x1
      case hyR3x1 => (intro w hSw; (try dsimp only at hSw); go_simp; try (with_reducible rfl))
      try simp only [Act.put, List.setIfInBounds_toArray, List.set_cons_zero, List.set_cons_succ]
      refine wpAnyT_takeB (i := 2) (oi := ⟨some 15, .fieldAddr 67 (.tmp 14) 2, _, _, _, _⟩) (v := ?vR3x2) rfl (by kernel_rfl) (by kernel_rfl) (by kernel_rfl) (by kernel_rfl) (fun _ _ _ h => h) (Or.inl ⟨by rfl, ?hyR3x2⟩) (by assumption) ?restR3x2
      case hyR3x2 => (intro w hSw; (try dsimp only at hSw); go_simp; try (with_reducible rfl))
      try simp only [Act.put, List.setIfInBounds_toArray, List.set_cons_zero, List.set_cons_succ]
      refine wpAnyT_take (i := 3) (oi := ⟨some 16, .load 64 (.tmp 15), _, _, _, _⟩) (v := ?vR3x3) rfl (by kernel_rfl) (by kernel_rfl) (by kernel_rfl) (by kernel_rfl) (by kernel_rfl) (fun _ _ _ h => h) (Or.inl ⟨by rfl, ?hyR3x3⟩) (by assumption) ?restR3x3
      case hyR3x3 => (intro w hSw; (try dsimp only at hSw); go_simp; try (with_reducible rfl))
      try simp only [Act.put, List.setIfInBounds_toArray, List.set_cons_zero, List.set_cons_succ]
      refine wpAnyT_takeB (i := 4) (oi := ⟨some 17, .move (.tmp 4), _, _, _, _⟩) (v := ?vR3x4) rfl (by kernel_rfl) (by kernel_rfl) (by kernel_rfl) (by kernel_rfl) (fun _ _ _ h => h) (Or.inl ⟨by rfl, ?hyR3x4⟩) (by assumption) ?restR3x4
      case hyR3x4 => (intro w hSw; (try dsimp only at hSw); go_simp; try (with_reducible rfl))
      try simp only [Act.put, List.setIfInBounds_toArray, List.set_cons_zero, List.set_cons_succ]
      refine wpAnyT_takeB (i := 5) (oi := ⟨some 18, .move (.tmp 0), _, _, _, _⟩) (v := ?vR3x5) rfl (by kernel_rfl) (by kernel_rfl) (by kernel_rfl) (by kernel_rfl) (fun _ _ _ h => h) (Or.inl ⟨by rfl, ?hyR3x5⟩) (by assumption) ?restR3x5
      case hyR3x5 => (intro w hSw; (try dsimp only at hSw); go_simp; try (with_reducible rfl))
      try simp only [Act.put, List.setIfInBounds_toArray, List.set_cons_zero, List.set_cons_succ]
      refine wpAnyT_takeB (i := 6) (oi := ⟨some 19, .nilCheck (.tmp 18), _, _, _, _⟩) (v := ?vR3x6) rfl (by kernel_rfl) (by kernel_rfl) (by kernel_rfl) (by kernel_rfl) (fun _ _ _ h => h) (Or.inl ⟨by rfl, ?hyR3x6⟩) (by assumption) ?restR3x6
      case hyR3x6 => (intro w hSw; (try dsimp only at hSw); go_simp; try (with_reducible rfl))
      try simp only [Act.put, List.setIfInBounds_toArray, List.set_cons_zero, List.set_cons_succ]
      refine wpAnyT_takeB (i := 7) (oi := ⟨some 20, .fieldAddr 67 (.tmp 19) 0, _, _, _, _⟩) (v := ?vR3x7) rfl (by kernel_rfl) (by kernel_rfl) (by kernel_rfl) (by kernel_rfl) (fun _ _ _ h => h) (Or.inl ⟨by rfl, ?hyR3x7⟩) (by assumption) ?restR3x7
      case hyR3x7 => (intro w hSw; (try dsimp only at hSw); go_simp; try (with_reducible rfl))
      try simp only [Act.put, List.setIfInBounds_toArray, List.set_cons_zero, List.set_cons_succ]
      refine wpAnyT_take (i := 8) (oi := ⟨some 21, .load 3 (.tmp 20), _, _, _, _⟩) (v := ?vR3x8) rfl (by kernel_rfl) (by kernel_rfl) (by kernel_rfl) (by kernel_rfl) (by kernel_rfl) (fun _ _ _ h => h) (Or.inl ⟨by rfl, ?hyR3x8⟩) (by assumption) ?restR3x8
      case hyR3x8 => (intro w hSw; (try dsimp only at hSw); go_simp; try (with_reducible rfl))
      try simp only [Act.put, List.setIfInBounds_toArray, List.set_cons_zero, List.set_cons_succ]
      refine wpAnyT_takeB (i := 9) (oi := ⟨some 22, .indexAddr 64 (.tmp 16) (.tmp 17), _, _, _, _⟩) (v := ?vR3x9) rfl (by kernel_rfl) (by kernel_rfl) (by kernel_rfl) (by kernel_rfl) (fun _ _ _ h => h) (Or.inl ⟨by rfl, ?hyR3x9⟩) (by assumption) ?restR3x9
      case hyR3x9 => (intro w hSw; (try dsimp only at hSw); go_simp; try (with_reducible rfl))
      try simp only [Act.put, List.setIfInBounds_toArray, List.set_cons_zero, List.set_cons_succ]
      refine wpAnyT_takeB (i := 10) (oi := ⟨some 23, .indexAddr 81 (.tmp 22) ((.const (.int .i64 0))), _, _, _, _⟩) (v := ?vR3x10) rfl (by kernel_rfl) (by kernel_rfl) (by kernel_rfl) (by kernel_rfl) (fun _ _ _ h => h) (Or.inl ⟨by rfl, ?hyR3x10⟩) (by assumption) ?restR3x10
      case hyR3x10 => (intro w hSw; (try dsimp only at hSw); go_simp; try (with_reducible rfl))
      try simp only [Act.put, List.setIfInBounds_toArray, List.set_cons_zero, List.set_cons_succ]
      refine wpAnyT_late (i := 11) (o := ⟨none, .store 3 (.tmp 23) (.tmp 21), _, _, _, _⟩) (by kernel_rfl) rfl (by kernel_rfl) (fun K hK => ?_)
      go_simp
      refine hK.out _ _ ?shR3x11 ?restR3x11
      case shR3x11 => ((try dsimp only); all_goals trivial)
      clear hK K
      try simp only [Act.put, List.setIfInBounds_toArray, List.set_cons_zero, List.set_cons_succ]
      refine wpAnyT_done (by kernel_rfl) ?_ _
      obtain ⟨Y, hY⟩ : ∃ Y, (X.setCell ⟨s.mb, k * 2, none⟩ (.int .i64 cnt)).drew = Y := ⟨_, rfl⟩
      have hOY : OrdAt s Y cnt V' (put M' (k * 2) (.int .i64 cnt)) Kq := by rw [← hY]; exact (HOX.out.setM HOK.out (k * 2) (.int .i64 cnt)).next (Below.refl _ _).drew
      have hsY : Step s B X Y := by rw [← hY]; exact ⟨((Below.refl _ _).setCell HOK.out.bm _).drew, (Off.set (S := s.own) _ (.inr (.inr (.inl rfl)))).trans (Off.of_below (Below.refl _ _).drew)⟩
      have HOY : Hid (OrdAt s Y cnt V' (put M' (k * 2) (.int .i64 cnt)) Kq) := hOY
      have HSY : Hid (Step s B X Y) := hsY
      have HNY : Hid (Y.heap[wr.heap.size]? = some (.cells #[.string nm, .int .i64 lo, .int .i64 hi] 38)) := (hsY.off.block _ (Array.getElem?_eq_some_iff.1 HNX.out).1 Hno.out).trans HNX.out
      have HBY : Hid (B ≤ Y.heap.size) := Nat.le_trans HBr.out (Nat.le_trans (by rw [← hX]; simp) hsY.size)
      try rw [hY]
      clear hOY hsY hY mc mz hHeld
      go_wp2_with fail
      refine wp_region_T (fun _ => True) (fun w' => Ls4 s.P s.vb s.n wr.heap.size nm lo hi w' ∧ True) [15] (by kernel_rfl) ⟨trivial, Ls4.of (HOY.out.next (Below.refl _ _).drew) HNY.out Hno.out (Off.of_below (Below.refl _ _).drew), trivial⟩ (fun hHeld => ?_)
      unfold Ls4 at hHeld ⊢
      refine wpAnyT_takeB (i := 0) (oi := ⟨some 24, .move (.tmp 0), _, _, _, _⟩) (v := ?vR4x0) rfl (by kernel_rfl) (by kernel_rfl) (by kernel_rfl) (by kernel_rfl) (fun _ _ _ h => h) (Or.inl ⟨by rfl, ?hyR4x0⟩) (by assumption) ?restR4x0
      case hyR4x0 => (intro w hSw; (try dsimp only at hSw); go_simp; try (with_reducible rfl))
      try simp only [Act.put, List.setIfInBounds_toArray, List.set_cons_zero, List.set_cons_succ]
      refine wpAnyT_takeB (i := 1) (oi := ⟨some 25, .nilCheck (.tmp 24), _, _, _, _⟩) (v := ?vR4x1) rfl (by kernel_rfl) (by kernel_rfl) (by kernel_rfl) (by kernel_rfl) (fun _ _ _ h => h) (Or.inl ⟨by rfl, ?hyR4x1⟩) (by assumption) ?restR4x1
      case hyR4x1 => (intro w hSw; (try dsimp only at hSw); go_simp; try (with_reducible rfl))
      try simp only [Act.put, List.setIfInBounds_toArray, List.set_cons_zero, List.set_cons_succ]
      refine wpAnyT_takeB (i := 2) (oi := ⟨some 26, .fieldAddr 67 (.tmp 25) 1, _, _, _, _⟩) (v := ?vR4x2) rfl (by kernel_rfl) (by kernel_rfl) (by kernel_rfl) (by kernel_rfl) (fun _ _ _ h => h) (Or.inl ⟨by rfl, ?hyR4x2⟩) (by assumption) ?restR4x2
      case hyR4x2 => (intro w hSw; (try dsimp only at hSw); go_simp; try (with_reducible rfl))
      try simp only [Act.put, List.setIfInBounds_toArray, List.set_cons_zero, List.set_cons_succ]
      refine wpAnyT_take (i := 3) (oi := ⟨some 27, .load 63 (.tmp 26), _, _, _, _⟩) (v := ?vR4x3) rfl (by kernel_rfl) (by kernel_rfl) (by kernel_rfl) (by kernel_rfl) (by kernel_rfl) (fun _ _ _ h => h) (Or.inl ⟨by rfl, ?hyR4x3⟩) (by assumption) ?restR4x3
      case hyR4x3 => (intro w hSw; (try dsimp only at hSw); go_simp; try (with_reducible rfl))
      try simp only [Act.put, List.setIfInBounds_toArray, List.set_cons_zero, List.set_cons_succ]
      refine wpAnyT_takeB (i := 4) (oi := ⟨some 28, .move (.tmp 4), _, _, _, _⟩) (v := ?vR4x4) rfl (by kernel_rfl) (by kernel_rfl) (by kernel_rfl) (by kernel_rfl) (fun _ _ _ h => h) (Or.inl ⟨by rfl, ?hyR4x4⟩) (by assumption) ?restR4x4
      case hyR4x4 => (intro w hSw; (try dsimp only at hSw); go_simp; try (with_reducible rfl))
      try simp only [Act.put, List.setIfInBounds_toArray, List.set_cons_zero, List.set_cons_succ]
      refine wpAnyT_takeB (i := 5) (oi := ⟨some 29, .move (.tmp 0), _, _, _, _⟩) (v := ?vR4x5) rfl (by kernel_rfl) (by kernel_rfl) (by kernel_rfl) (by kernel_rfl) (fun _ _ _ h => h) (Or.inl ⟨by rfl, ?hyR4x5⟩) (by assumption) ?restR4x5
      case hyR4x5 => (intro w hSw; (try dsimp only at hSw); go_simp; try (with_reducible rfl))
      try simp only [Act.put, List.setIfInBounds_toArray, List.set_cons_zero, List.set_cons_succ]
      refine wpAnyT_takeB (i := 6) (oi := ⟨some 30, .fieldAddr 38 (.tmp 5) 1, _, _, _, _⟩) (v := ?vR4x6) rfl (by kernel_rfl) (by kernel_rfl) (by kernel_rfl) (by kernel_rfl) (fun _ _ _ h => h) (Or.inl ⟨by rfl, ?hyR4x6⟩) (by assumption) ?restR4x6
      case hyR4x6 => (intro w hSw; (try dsimp only at hSw); go_simp; try (with_reducible rfl))
      try simp only [Act.put, List.setIfInBounds_toArray, List.set_cons_zero, List.set_cons_succ]
      refine wpAnyT_take (i := 7) (oi := ⟨some 31, .load 3 (.tmp 30), _, _, _, _⟩) (v := ?vR4x7) rfl (by kernel_rfl) (by kernel_rfl) (by kernel_rfl) (by kernel_rfl) (by kernel_rfl) (fun _ _ _ h => h) (Or.inl ⟨by rfl, ?hyR4x7⟩) (by assumption) ?restR4x7
      case hyR4x7 => (intro w hSw; (try dsimp only at hSw); go_simp; try (with_reducible rfl))
      try simp only [Act.put, List.setIfInBounds_toArray, List.set_cons_zero, List.set_cons_succ]
      refine wpAnyT_takeB (i := 8) (oi := ⟨some 32, .binOp .add 3 (.tmp 31) ((.const (.int .i64 1))) 3, _, _, _, _⟩) (v := ?vR4x8) rfl (by kernel_rfl) (by kernel_rfl) (by kernel_rfl) (by kernel_rfl) (fun _ _ _ h => h) (Or.inl ⟨by rfl, ?hyR4x8⟩) (by assumption) ?restR4x8
      case hyR4x8 => (intro w hSw; (try dsimp only at hSw); go_simp; try (with_reducible rfl))
      try simp only [Act.put, List.setIfInBounds_toArray, List.set_cons_zero, List.set_cons_succ]
      refine wpAnyT_takeB (i := 9) (oi := ⟨some 33, .fieldAddr 38 (.tmp 5) 2, _, _, _, _⟩) (v := ?vR4x9) rfl (by kernel_rfl) (by kernel_rfl) (by kernel_rfl) (by kernel_rfl) (fun _ _ _ h => h) (Or.inl ⟨by rfl, ?hyR4x9⟩) (by assumption) ?restR4x9
      case hyR4x9 => (intro w hSw; (try dsimp only at hSw); go_simp; try (with_reducible rfl))
      try simp only [Act.put, List.setIfInBounds_toArray, List.set_cons_zero, List.set_cons_succ]
      refine wpAnyT_take (i := 10) (oi := ⟨some 34, .load 3 (.tmp 33), _, _, _, _⟩) (v := ?vR4x10) rfl (by kernel_rfl) (by kernel_rfl) (by kernel_rfl) (by kernel_rfl) (by kernel_rfl) (fun _ _ _ h => h) (Or.inl ⟨by rfl, ?hyR4x10⟩) (by assumption) ?restR4x10
      case hyR4x10 => (intro w hSw; (try dsimp only at hSw); go_simp; try (with_reducible rfl))
      try simp only [Act.put, List.setIfInBounds_toArray, List.set_cons_zero, List.set_cons_succ]
      refine wpAnyT_one (i := 11) (o := ⟨some 35, .call { callee := .value (.func 40), args := #[.tmp 29, .tmp 32, .tmp 34], argTypes := #[33, 3, 3] }, _, _, _, _⟩) (by kernel_rfl) rfl (fun K hK => ?_)
      go_simp
      refine calls_at (next_any s B cnt (lo + 1) hi V' (put M' (k * 2) (.int .i64 cnt)) Kq _ (HOY.out.next (Below.refl _ _).drew) HOK.out HBY.out HFit.out) (by with_reducible rfl) (by with_reducible rfl) ?_
      rintro e w2 ⟨rfl, ho2, hs2⟩
      go_wp2_with fail
      have HO2 : Hid (OrdAt s w2 (cnt + (hi - (lo + 1) + 1)) V' (put M' (k * 2) (.int .i64 cnt)) Kq) := ho2
      have HS2 : Hid (Step s B w w2) := (HTX.out.trans HSY.out).trans ((Step.of_below (Below.refl _ _).drew HBY.out).trans hs2)
      have hHw : True ∧ (Ls4 s.P s.vb s.n wr.heap.size nm lo hi w2 ∧ True) := ⟨trivial, Ls4.of ho2 HNY.out Hno.out ((Off.of_below (Below.refl _ _).drew).trans hs2.off), trivial⟩
      unfold Ls4 at hHw
      refine hK.out _ _ ⟨trivial, fun _ => hHw.2⟩ ?_
      clear hK K ho2 hs2
      have vz := HO2.out.v.frozen
      have vz0 := vz (k * 6)
      have vz1 := vz (k * 6 + 1)
      have vz2 := vz (k * 6 + 2)
      have vc0 := HO2.out.v.cell (i := k * 6) (by have := Hn.out; omega)
      have vc1 := HO2.out.v.cell (i := k * 6 + 1) (by have := Hn.out; omega)
      have vc2 := HO2.out.v.cell (i := k * 6 + 2) (by have := Hn.out; omega)
      clear vz
      refine wpAnyT_takeB (i := 12) (oi := ⟨some 36, .build 74 #[(0, (.tmp 35))], _, _, _, _⟩) (v := ?vR4x12) rfl (by kernel_rfl) (by kernel_rfl) (by kernel_rfl) (by kernel_rfl) (fun _ _ _ h => h) (Or.inl ⟨by rfl, ?hyR4x12⟩) (by assumption) ?restR4x12
      case hyR4x12 => (intro w hSw; (try dsimp only at hSw); go_simp; try (with_reducible rfl))
      try simp only [Act.put, List.setIfInBounds_toArray, List.set_cons_zero, List.set_cons_succ]
      refine wpAnyT_takeB (i := 13) (oi := ⟨some 37, .indexAddr 63 (.tmp 27) (.tmp 28), _, _, _, _⟩) (v := ?vR4x13) rfl (by kernel_rfl) (by kernel_rfl) (by kernel_rfl) (by kernel_rfl) (fun _ _ _ h => h) (Or.inl ⟨by rfl, ?hyR4x13⟩) (by assumption) ?restR4x13
      case hyR4x13 => (intro w hSw; (try dsimp only at hSw); go_simp; try (with_reducible rfl))
      try simp only [Act.put, List.setIfInBounds_toArray, List.set_cons_zero, List.set_cons_succ]
      refine wpAnyT_takeB (i := 14) (oi := ⟨some 38, .fieldAddr 77 (.tmp 37) 0, _, _, _, _⟩) (v := ?vR4x14) rfl (by kernel_rfl) (by kernel_rfl) (by kernel_rfl) (by kernel_rfl) (fun _ _ _ h => h) (Or.inl ⟨by rfl, ?hyR4x14⟩) (by assumption) ?restR4x14
      case hyR4x14 => (intro w hSw; (try dsimp only at hSw); go_simp; try (with_reducible rfl))
      try simp only [Act.put, List.setIfInBounds_toArray, List.set_cons_zero, List.set_cons_succ]
      refine wpAnyT_late (i := 15) (o := ⟨none, .store 74 (.tmp 38) (.tmp 36), _, _, _, _⟩) (by kernel_rfl) rfl (by kernel_rfl) (fun K hK => ?_)
      go_simp
      refine hK.out _ _ ?shR4x15 ?restR4x15
      case shR4x15 => ((try dsimp only); all_goals trivial)
      clear hK K
      try simp only [Act.put, List.setIfInBounds_toArray, List.set_cons_zero, List.set_cons_succ]
      refine wpAnyT_done (by kernel_rfl) ?_ _
      obtain ⟨Z, hZ⟩ : ∃ Z, ((w2.setCell ⟨s.vb, k * 6, none⟩ (.int .i64 cnt)).setCell ⟨s.vb, k * 6 + 1, none⟩ (.int .i64 (lo + 1))).setCell ⟨s.vb, k * 6 + 2, none⟩ (.int .i64 hi) = Z := ⟨_, rfl⟩
      have HOZ : Hid (OrdAt s Z (Od.aS vs (k + 1)) (put3 V' (k * 6) (.int .i64 cnt) (.int .i64 (lo + 1)) (.int .i64 hi)) (put M' (k * 2) (.int .i64 cnt)) Kq) := by
        show OrdAt _ _ _ _ _ _
        rw [← hZ, HNx.out]
        exact ((HO2.out.setV HOK.out _ _).setV HOK.out _ _).setV HOK.out _ _
      have HTZ : Hid (Step s B w Z) := by
        show Step _ _ _ _
        rw [← hZ]
        exact ((HS2.out.trans (Step.set _ (.inr (.inl rfl)) HOK.out.bv)).trans (Step.set _ (.inr (.inl rfl)) HOK.out.bv)).trans (Step.set _ (.inr (.inl rfl)) HOK.out.bv)
      rw [hZ]
      clear hZ hHw vz0 vz1 vz2 vc0 vc1 vc2 HO2 HS2
      go_wp2_with fail
      go_roundw
      case rel => exact ⟨k + 1, _, _, by go_num, by omega, HOZ, HSt, HMs, HTZ⟩
      case measure => simp [intOf]; omega
    · have hkI : ¬ (k : Int) < (vs.length : Int) := by omega
      obtain rfl : k = vs.length := by omega
      have HMs : Hid (MsOk vs (vs.length + 1) (put M' (vs.length * 2) (.int .i64 (Od.aS vs vs.length)))) := hM.out.put
      obtain ⟨cnt, hcnt⟩ : ∃ c, Od.aS vs vs.length = c := ⟨_, rfl⟩
      rw [hcnt] at hO HMs
      have HE : Hid (Od.aS vs vs.length = cnt) := hcnt
      clear hcnt
      have hkn : (vs.length : Int) < (s.n : Int) + 1 := by have := Hn.out; omega
      have hkn3 : vs.length * 2 < (s.n + 1) * 2 := by have := Hn.out; omega
      go_wp2_with fail
      refine wp_region_T (fun _ => True) (Ls3 s.P s.mb s.n cnt wr) [12] (by kernel_rfl) ⟨trivial, Ls3.of hO.out (Below.refl _ _).drew⟩ (fun hHeld => ?_)
      unfold Ls3 at hHeld ⊢
      obtain ⟨mc, mz⟩ : (∃ u, wr.drew.cell? ⟨s.mb, vs.length * 2, none⟩ = some u) ∧ wr.drew.frozen? ⟨s.mb, vs.length * 2, none⟩ = false := ⟨⟨_, (hO.out.m.drew).cell hkn3⟩, (hO.out.m.drew).frozen _⟩
      obtain ⟨mu, mc⟩ := mc
      refine wpAnyT_takeB (i := 0) (oi := ⟨some 40, .move (.tmp 0), _, _, _, _⟩) (v := ?vR6x0) rfl (by kernel_rfl) (by kernel_rfl) (by kernel_rfl) (by kernel_rfl) (fun _ _ _ h => h) (Or.inl ⟨by rfl, ?hyR6x0⟩) (by assumption) ?restR6x0
      case hyR6x0 => (intro w hSw; (try dsimp only at hSw); go_simp; try (with_reducible rfl))
      try simp only [Act.put, List.setIfInBounds_toArray, List.set_cons_zero, List.set_cons_succ]
      refine wpAnyT_takeB (i := 1) (oi := ⟨some 41, .nilCheck (.tmp 40), _, _, _, _⟩) (v := ?vR6x1) rfl (by kernel_rfl) (by kernel_rfl) (by kernel_rfl) (by kernel_rfl) (fun _ _ _ h => h) (Or.inl ⟨by rfl, ?hyR6x1⟩) (by assumption) ?restR6x1
      case hyR6x1 => (intro w hSw; (try dsimp only at hSw); go_simp; try (with_reducible rfl))
      try simp only [Act.put, List.setIfInBounds_toArray, List.set_cons_zero, List.set_cons_succ]
      refine wpAnyT_takeB (i := 2) (oi := ⟨some 42, .fieldAddr 67 (.tmp 41) 2, _, _, _, _⟩) (v := ?vR6x2) rfl (by kernel_rfl) (by kernel_rfl) (by kernel_rfl) (by kernel_rfl) (fun _ _ _ h => h) (Or.inl ⟨by rfl, ?hyR6x2⟩) (by assumption) ?restR6x2
      case hyR6x2 => (intro w hSw; (try dsimp only at hSw); go_simp; try (with_reducible rfl))
      try simp only [Act.put, List.setIfInBounds_toArray, List.set_cons_zero, List.set_cons_succ]
      refine wpAnyT_take (i := 3) (oi := ⟨some 43, .load 64 (.tmp 42), _, _, _, _⟩) (v := ?vR6x3) rfl (by kernel_rfl) (by kernel_rfl) (by kernel_rfl) (by kernel_rfl) (by kernel_rfl) (fun _ _ _ h => h) (Or.inl ⟨by rfl, ?hyR6x3⟩) (by assumption) ?restR6x3
      case hyR6x3 => (intro w hSw; (try dsimp only at hSw); go_simp; try (with_reducible rfl))
      try simp only [Act.put, List.setIfInBounds_toArray, List.set_cons_zero, List.set_cons_succ]
      refine wpAnyT_takeB (i := 4) (oi := ⟨some 44, .move (.tmp 1), _, _, _, _⟩) (v := ?vR6x4) rfl (by kernel_rfl) (by kernel_rfl) (by kernel_rfl) (by kernel_rfl) (fun _ _ _ h => h) (Or.inl ⟨by rfl, ?hyR6x4⟩) (by assumption) ?restR6x4
      case hyR6x4 => (intro w hSw; (try dsimp only at hSw); go_simp; try (with_reducible rfl))
      try simp only [Act.put, List.setIfInBounds_toArray, List.set_cons_zero, List.set_cons_succ]
      refine wpAnyT_takeB (i := 5) (oi := ⟨some 45, .call { callee := .builtin .len, args := #[.tmp 44], argTypes := #[22] }, _, _, _, _⟩) (v := ?vR6x5) rfl (by kernel_rfl) (by kernel_rfl) (by kernel_rfl) (by kernel_rfl) (fun _ _ _ h => h) (Or.inl ⟨by rfl, ?hyR6x5⟩) (by assumption) ?restR6x5
      case hyR6x5 => (intro w hSw; (try dsimp only at hSw); go_simp; try (with_reducible rfl))
      try simp only [Act.put, List.setIfInBounds_toArray, List.set_cons_zero, List.set_cons_succ]
      refine wpAnyT_takeB (i := 6) (oi := ⟨some 46, .move (.tmp 0), _, _, _, _⟩) (v := ?vR6x6) rfl (by kernel_rfl) (by kernel_rfl) (by kernel_rfl) (by kernel_rfl) (fun _ _ _ h => h) (Or.inl ⟨by rfl, ?hyR6x6⟩) (by assumption) ?restR6x6
      case hyR6x6 => (intro w hSw; (try dsimp only at hSw); go_simp; try (with_reducible rfl))
      try simp only [Act.put, List.setIfInBounds_toArray, List.set_cons_zero, List.set_cons_succ]
      refine wpAnyT_takeB (i := 7) (oi := ⟨some 47, .nilCheck (.tmp 46), _, _, _, _⟩) (v := ?vR6x7) rfl (by kernel_rfl) (by kernel_rfl) (by kernel_rfl) (by kernel_rfl) (fun _ _ _ h => h) (Or.inl ⟨by rfl, ?hyR6x7⟩) (by assumption) ?restR6x7
      case hyR6x7 => (intro w hSw; (try dsimp only at hSw); go_simp; try (with_reducible rfl))
      try simp only [Act.put, List.setIfInBounds_toArray, List.set_cons_zero, List.set_cons_succ]
      refine wpAnyT_takeB (i := 8) (oi := ⟨some 48, .fieldAddr 67 (.tmp 47) 0, _, _, _, _⟩) (v := ?vR6x8) rfl (by kernel_rfl) (by kernel_rfl) (by kernel_rfl) (by kernel_rfl) (fun _ _ _ h => h) (Or.inl ⟨by rfl, ?hyR6x8⟩) (by assumption) ?restR6x8
      case hyR6x8 => (intro w hSw; (try dsimp only at hSw); go_simp; try (with_reducible rfl))
      try simp only [Act.put, List.setIfInBounds_toArray, List.set_cons_zero, List.set_cons_succ]
      refine wpAnyT_take (i := 9) (oi := ⟨some 49, .load 3 (.tmp 48), _, _, _, _⟩) (v := ?vR6x9) rfl (by kernel_rfl) (by kernel_rfl) (by kernel_rfl) (by kernel_rfl) (by kernel_rfl) (fun _ _ _ h => h) (Or.inl ⟨by rfl, ?hyR6x9⟩) (by assumption) ?restR6x9
      case hyR6x9 => (intro w hSw; (try dsimp only at hSw); go_simp; try (with_reducible rfl))
      try simp only [Act.put, List.setIfInBounds_toArray, List.set_cons_zero, List.set_cons_succ]
      refine wpAnyT_takeB (i := 10) (oi := ⟨some 50, .indexAddr 64 (.tmp 43) (.tmp 45), _, _, _, _⟩) (v := ?vR6x10) rfl (by kernel_rfl) (by kernel_rfl) (by kernel_rfl) (by kernel_rfl) (fun _ _ _ h => h) (Or.inl ⟨by rfl, ?hyR6x10⟩) (by assumption) ?restR6x10
      case hyR6x10 => (intro w hSw; (try dsimp only at hSw); go_simp; try (with_reducible rfl))
      try simp only [Act.put, List.setIfInBounds_toArray, List.set_cons_zero, List.set_cons_succ]
      refine wpAnyT_takeB (i := 11) (oi := ⟨some 51, .indexAddr 81 (.tmp 50) ((.const (.int .i64 0))), _, _, _, _⟩) (v := ?vR6x11) rfl (by kernel_rfl) (by kernel_rfl) (by kernel_rfl) (by kernel_rfl) (fun _ _ _ h => h) (Or.inl ⟨by rfl, ?hyR6x11⟩) (by assumption) ?restR6x11
      case hyR6x11 => (intro w hSw; (try dsimp only at hSw); go_simp; try (with_reducible rfl))
      try simp only [Act.put, List.setIfInBounds_toArray, List.set_cons_zero, List.set_cons_succ]
      refine wpAnyT_late (i := 12) (o := ⟨none, .store 3 (.tmp 51) (.tmp 49), _, _, _, _⟩) (by kernel_rfl) rfl (by kernel_rfl) (fun K hK => ?_)
      go_simp
      refine hK.out _ _ ?shR6x12 ?restR6x12
      case shR6x12 => ((try dsimp only); all_goals trivial)
      clear hK K
      try simp only [Act.put, List.setIfInBounds_toArray, List.set_cons_zero, List.set_cons_succ]
      refine wpAnyT_done (by kernel_rfl) ?_ _
      go_wp2_with fail
      go_end0
      exact ⟨rfl, _, _, by rw [HE.out]; exact (hO.out.setM HOK.out (vs.length * 2) (.int .i64 cnt)).next (Below.refl _ _).drew, hS.out, HMs.out, hT.out.trans ⟨((Below.refl _ _).setCell HOK.out.bm _).drew, (Off.set (S := s.own) _ (.inr (.inr (.inl rfl)))).trans (Off.of_below (Below.refl _ _).drew)⟩⟩
end Go.Proofs.Ytkgeknlmkkoobaa
