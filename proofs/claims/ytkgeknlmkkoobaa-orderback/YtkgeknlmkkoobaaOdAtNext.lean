/-
  Put together: OdAt, OdNext.
-/
import Derived.Test.YtkgeknlmkkoobaaOdRuns
import Derived.Deep.OwnRows
namespace Go.Proofs.Ytkgeknlmkkoobaa
open Go.RowKit

/-- Where an order lies: itself, its variables, marks and picks; how many variables and constraints. -/
structure Sh where
  P : Nat
  vb : Nat
  mb : Nat
  kb : Nat
  n : Nat
  nc : Nat
def Sh.own (s : Sh) (k : Nat) : Prop := k = s.P ∨ k = s.vb ∨ k = s.mb ∨ k = s.kb
structure Sh.Ok (s : Sh) (B : Nat) : Prop where
  pv : s.P ≠ s.vb
  pm : s.P ≠ s.mb
  pk : s.P ≠ s.kb
  vm : s.vb ≠ s.mb
  vk : s.vb ≠ s.kb
  mq : s.mb ≠ s.kb
  bp : B ≤ s.P
  bv : B ≤ s.vb
  bm : B ≤ s.mb
  bk : B ≤ s.kb
  n1 : s.n ≤ 32
  nc1 : s.nc ≤ 64
def hdr (s : Sh) (cnt : Int) : Array Value := #[.int .i64 cnt, .slice (some ⟨s.vb, 0, none⟩) s.n s.n, .slice (some ⟨s.mb, 0, none⟩) (s.n + 1) (s.n + 1), .slice (some ⟨s.kb, 0, none⟩) s.nc s.nc]
structure OrdAt (s : Sh) (w : World) (cnt : Int) (V M K : Nat → Value) : Prop where
  o : w.heap[s.P]? = some (.cells (hdr s cnt) 67 (0, 0))
  v : w.rowIs s.vb 77 (s.n * 6) V
  m : w.rowIs s.mb 81 ((s.n + 1) * 2) M
  k : w.rowIs s.kb 86 (s.nc * 5) K
/-- What is changed: the order's own blocks alone. -/
structure Step (s : Sh) (B : Nat) (w w' : World) : Prop where
  below : Below B w w'
  off : Off s.own w w'
theorem Step.refl (s : Sh) (B : Nat) (w : World) : Step s B w w := ⟨Below.refl _ _, Off.refl _ _⟩
theorem Step.trans {s : Sh} {B : Nat} {a b c : World} (h : Step s B a b) (k : Step s B b c) : Step s B a c := ⟨h.below.trans k.below, h.off.trans k.off⟩
theorem Step.of_below {s : Sh} {B : Nat} {w w' : World} (h : Below w.heap.size w w') (hB : B ≤ w.heap.size) : Step s B w w' := ⟨h.mono hB, Off.of_below h⟩
theorem Step.set {s : Sh} {B : Nat} {w : World} {g i : Nat} (v : Value) (h : s.own g) (hB : B ≤ g) : Step s B w (w.setCell ⟨g, i, none⟩ v) := ⟨(Below.refl _ _).setCell hB _, Off.set v h⟩
theorem Step.size {s : Sh} {B : Nat} {w w' : World} (h : Step s B w w') : w.heap.size ≤ w'.heap.size := h.off.size

def put (f : Nat → Value) (i : Nat) (v : Value) : Nat → Value := fun j => if j = i then v else f j
theorem put_same (f : Nat → Value) (i : Nat) (v : Value) : put f i v i = v := if_pos rfl
theorem put_other {f : Nat → Value} {i j : Nat} {v : Value} (h : j ≠ i) : put f i v j = f j := if_neg h

theorem Off.setNew {S : Nat → Prop} {w w' : World} {g i : Nat} (h : Off S w w') (v : Value) (hg : w.heap.size ≤ g) : Off S w (w'.setCell ⟨g, i, none⟩ v) :=
  ⟨by simpa using h.size, fun k hk hs => (heap_setCell_other w' ⟨g, i, none⟩ k v (fun e => by rw [e] at hk; exact absurd hk (Nat.not_lt.2 hg))).trans (h.block k hk hs)⟩
theorem Step.setNew {s : Sh} {B : Nat} {w w' : World} {g i : Nat} (h : Step s B w w') (v : Value) (hg : w.heap.size ≤ g) (hB : B ≤ w.heap.size) : Step s B w (w'.setCell ⟨g, i, none⟩ v) :=
  ⟨h.below.setCell (Nat.le_trans hB hg) _, h.off.setNew v hg⟩
theorem Step.new {s : Sh} {B : Nat} {w w' w2 : World} (h : Step s B w w') (hb : Below w'.heap.size w' w2) (hB : B ≤ w.heap.size) : Step s B w w2 := h.trans (Step.of_below hb (Nat.le_trans hB h.size))

section
variable {s : Sh} {w w' : World} {cnt : Int} {V M K : Nat → Value} {B : Nat}
theorem OrdAt.lt (h : OrdAt s w cnt V M K) : s.P < w.heap.size ∧ s.vb < w.heap.size ∧ s.mb < w.heap.size ∧ s.kb < w.heap.size :=
  ⟨(Array.getElem?_eq_some_iff.1 h.o).1, h.v.lt, h.m.lt, h.k.lt⟩
theorem OrdAt.next (h : OrdAt s w cnt V M K) (hb : Below w.heap.size w w') : OrdAt s w' cnt V M K :=
  ⟨(hb.block _ h.lt.1).trans h.o, h.v.of_block (hb.block _ h.lt.2.1), h.m.of_block (hb.block _ h.lt.2.2.1), h.k.of_block (hb.block _ h.lt.2.2.2)⟩
theorem OrdAt.cells (h : OrdAt s w cnt V M K) : (w.cell? ⟨s.P, 0, none⟩ = some (.int .i64 cnt) ∧ w.cell? ⟨s.P, 1, none⟩ = some (.slice (some ⟨s.vb, 0, none⟩) s.n s.n) ∧ w.cell? ⟨s.P, 2, none⟩ = some (.slice (some ⟨s.mb, 0, none⟩) (s.n + 1) (s.n + 1)) ∧ w.cell? ⟨s.P, 3, none⟩ = some (.slice (some ⟨s.kb, 0, none⟩) s.nc s.nc)) ∧ ∀ j, w.frozen? ⟨s.P, j, none⟩ = false := box4 h.o
theorem OrdAt.setP (h : OrdAt s w cnt V M K) (ok : s.Ok B) (c : Int) : OrdAt s (w.setCell ⟨s.P, 0, none⟩ (.int .i64 c)) c V M K :=
  ⟨heap_setCell_same w s.P 0 _ 67 _ h.o, h.v.setOther (Ne.symm ok.pv) _, h.m.setOther (Ne.symm ok.pm) _, h.k.setOther (Ne.symm ok.pk) _⟩
theorem OrdAt.setV (h : OrdAt s w cnt V M K) (ok : s.Ok B) (i : Nat) (v : Value) : OrdAt s (w.setCell ⟨s.vb, i, none⟩ v) cnt (put V i v) M K :=
  ⟨(heap_setCell_other w ⟨s.vb, i, none⟩ s.P v ok.pv).trans h.o, h.v.set i v, h.m.setOther (Ne.symm ok.vm) _, h.k.setOther (Ne.symm ok.vk) _⟩
theorem OrdAt.setM (h : OrdAt s w cnt V M K) (ok : s.Ok B) (i : Nat) (v : Value) : OrdAt s (w.setCell ⟨s.mb, i, none⟩ v) cnt V (put M i v) K :=
  ⟨(heap_setCell_other w ⟨s.mb, i, none⟩ s.P v ok.pm).trans h.o, h.v.setOther ok.vm _, h.m.set i v, h.k.setOther (Ne.symm ok.mq) _⟩
theorem OrdAt.setK (h : OrdAt s w cnt V M K) (ok : s.Ok B) (i : Nat) (v : Value) : OrdAt s (w.setCell ⟨s.kb, i, none⟩ v) cnt V M (put K i v) :=
  ⟨(heap_setCell_other w ⟨s.kb, i, none⟩ s.P v ok.pk).trans h.o, h.v.setOther ok.vk _, h.m.setOther ok.mq _, h.k.set i v⟩
theorem OrdAt.setNew (h : OrdAt s w cnt V M K) {g : Nat} (i : Nat) (v : Value) (h0 : s.P < g) (h1 : s.vb < g) (h2 : s.mb < g) (h3 : s.kb < g) : OrdAt s (w.setCell ⟨g, i, none⟩ v) cnt V M K :=
  ⟨(heap_setCell_other w ⟨g, i, none⟩ s.P v (Nat.ne_of_lt h0)).trans h.o, h.v.setOther (Nat.ne_of_lt h1) _, h.m.setOther (Nat.ne_of_lt h2) _, h.k.setOther (Nat.ne_of_lt h3) _⟩
end
end Go.Proofs.Ytkgeknlmkkoobaa

namespace Go.Proofs.Ytkgeknlmkkoobaa
open Go.RowKit

/-- What next leaves. -/
def NextOut (s : Sh) (B : Nat) (cnt f t : Int) (V M K : Nat → Value) (w : World) (e : Ending) (w' : World) : Prop :=
  e = .returned (.agg #[.int .i64 cnt, .int .i64 f, .int .i64 t]) ∧ OrdAt s w' (cnt + (t - f + 1)) V M K ∧ Step s B w w'

def Nx (P N : Nat) (cnt f t : Int) (X w' : World) : Prop := w'.cell? ⟨P, 0, none⟩ = some (.int .i64 cnt) ∧ w'.cell? ⟨N, 0, none⟩ = some (.int .i64 cnt) ∧ w'.cell? ⟨N, 1, none⟩ = some (.int .i64 f) ∧ w'.cell? ⟨N, 2, none⟩ = some (.int .i64 t) ∧ Below X.heap.size X w'
theorem Nx.of {s : Sh} {N : Nat} {cnt f t : Int} {X w' : World} {V M K : Nat → Value} (ho : ∀ w', Below X.heap.size X w' → OrdAt s w' cnt V M K) (hn : ∀ w', Below X.heap.size X w' → w'.heap[N]? = some (.cells #[.int .i64 cnt, .int .i64 f, .int .i64 t] 72)) (hb : Below X.heap.size X w') : Nx s.P N cnt f t X w' :=
  ⟨(ho w' hb).cells.1.1, (box3 (hn w' hb)).1.1, (box3 (hn w' hb)).1.2.1, (box3 (hn w' hb)).1.2.2, hb⟩

set_option maxRecDepth 10000 in
set_option maxHeartbeats 1000000 in
theorem next_any (s : Sh) (B : Nat) (cnt f t : Int) (V M K : Nat → Value) (w : World) (h : OrdAt s w cnt V M K) (ok : s.Ok B) (hB : B ≤ w.heap.size) (hF : Od.Run.Fit ⟨cnt, f, t⟩) : Calls Try.prog 40 #[.pointer (some ⟨s.P, 0, none⟩), .int .i64 f, .int .i64 t] w (NextOut s B cnt f t V M K w) := by
  have HL : Hid (∀ w, Calls Try.prog 46 #[runVal ⟨cnt, f, t⟩] w fun e w' => e = .returned (.int .i64 (t - f + 1)) ∧ Below w.heap.size w w') := fun w => size_any ⟨cnt, f, t⟩ w hF
  unfold runVal at HL
  simp only at HL
  obtain ⟨a0, a1, f0, f1, t0, t1, s0⟩ := hF
  simp only at a0 a1 f0 f1 t0 t1 s0
  have h0 : IntKind.i64.wrap (cnt + (t - f + 1)) = cnt + (t - f + 1) := wrap_ok (by omega) (by omega)
  obtain ⟨W, hW⟩ : ∃ W, w.alloc (.cells #[.int .i64 0, .int .i64 0, .int .i64 0] 72) = W := ⟨_, rfl⟩
  have hbW : Below w.heap.size w W := by rw [← hW]; exact (Below.refl _ _).alloc (Nat.le_refl _) _
  have hsW : W.heap.size = w.heap.size + 1 := by rw [← hW]; simp
  have hN : W.heap[w.heap.size]? = some (.cells #[.int .i64 0, .int .i64 0, .int .i64 0] 72) := by rw [← hW]; exact heap_alloc_new w _
  obtain ⟨X, hX⟩ : ∃ X, W.alloc (.cells #[.int .i64 cnt, .int .i64 f, .int .i64 t] 72) = X := ⟨_, rfl⟩
  have hbX : Below W.heap.size W X := by rw [← hX]; exact (Below.refl _ _).alloc (Nat.le_refl _) _
  have hNX : X.heap[W.heap.size]? = some (.cells #[.int .i64 cnt, .int .i64 f, .int .i64 t] 72) := by rw [← hX]; exact heap_alloc_new W _
  have hsX : X.heap.size = W.heap.size + 1 := by rw [← hX]; simp
  have hbwX : Below w.heap.size w X := hbW.trans (hbX.mono hbW.size)
  have hO := h.next hbwX
  have HO : Hid (∀ w', Below X.heap.size X w' → OrdAt s w' cnt V M K) := fun w' hb => hO.next hb
  have HNX : Hid (∀ w', Below X.heap.size X w' → w'.heap[W.heap.size]? = some (.cells #[.int .i64 cnt, .int .i64 f, .int .i64 t] 72)) := fun w' hb => (hb.block _ (Array.getElem?_eq_some_iff.1 hNX).1).trans hNX
  have hN' := (hbX.block _ (by omega)).trans hN
  have HN : Hid (∀ w', Below X.heap.size X w' → w'.heap[w.heap.size]? = some (.cells #[.int .i64 0, .int .i64 0, .int .i64 0] 72)) := fun w' hb => (hb.block _ (by omega)).trans hN'
  have HwX : Hid (Below w.heap.size w X) := hbwX
  have hlt := h.lt
  have Hlt : Hid (s.P < w.heap.size ∧ s.vb < w.heap.size ∧ s.mb < w.heap.size ∧ s.kb < w.heap.size) := hlt
  have HW1 : Hid (W.heap.size = w.heap.size + 1) := hsW
  obtain ⟨⟨c0, c1, c2, c3⟩, cz⟩ := (h.next hbW).cells
  clear h hbW hN hbX hO hN' hlt hsW hsX hbwX c1 c2 c3 cz hNX
  go_enter Try.func40, Try.ntmps40
  go_wp2_with fail
  clear c0
  refine wp_region_T (fun _ => True) (Nx s.P W.heap.size cnt f t X) [9] (by kernel_rfl) ⟨trivial, Nx.of HO.out HNX.out (Below.refl _ _).drew⟩ (fun hHeld => ?_)
  unfold Nx at hHeld ⊢
  refine wpAnyT_takeB (i := 0) (oi := ⟨some 15, .move (.tmp 0), _, _, _, _⟩) (v := ?vR2x0) rfl (by kernel_rfl) (by kernel_rfl) (by kernel_rfl) (by kernel_rfl) (fun _ _ _ h => h) (Or.inl ⟨by rfl, ?hyR2x0⟩) (by assumption) ?restR2x0
  case hyR2x0 => (intro w hSw; (try dsimp only at hSw); go_simp; try (with_reducible rfl))
  try simp only [Act.put, List.setIfInBounds_toArray, List.set_cons_zero, List.set_cons_succ]
  refine wpAnyT_takeB (i := 1) (oi := ⟨some 16, .nilCheck (.tmp 15), _, _, _, _⟩) (v := ?vR2x1) rfl (by kernel_rfl) (by kernel_rfl) (by kernel_rfl) (by kernel_rfl) (fun _ _ _ h => h) (Or.inl ⟨by rfl, ?hyR2x1⟩) (by assumption) ?restR2x1
  case hyR2x1 => (intro w hSw; (try dsimp only at hSw); go_simp; try (with_reducible rfl))
  try simp only [Act.put, List.setIfInBounds_toArray, List.set_cons_zero, List.set_cons_succ]
  refine wpAnyT_takeB (i := 2) (oi := ⟨some 17, .fieldAddr 67 (.tmp 16) 0, _, _, _, _⟩) (v := ?vR2x2) rfl (by kernel_rfl) (by kernel_rfl) (by kernel_rfl) (by kernel_rfl) (fun _ _ _ h => h) (Or.inl ⟨by rfl, ?hyR2x2⟩) (by assumption) ?restR2x2
  case hyR2x2 => (intro w hSw; (try dsimp only at hSw); go_simp; try (with_reducible rfl))
  try simp only [Act.put, List.setIfInBounds_toArray, List.set_cons_zero, List.set_cons_succ]
  refine wpAnyT_take (i := 3) (oi := ⟨some 18, .load 3 (.tmp 17), _, _, _, _⟩) (v := ?vR2x3) rfl (by kernel_rfl) (by kernel_rfl) (by kernel_rfl) (by kernel_rfl) (by kernel_rfl) (fun _ _ _ h => h) (Or.inl ⟨by rfl, ?hyR2x3⟩) (by assumption) ?restR2x3
  case hyR2x3 => (intro w hSw; (try dsimp only at hSw); go_simp; try (with_reducible rfl))
  try simp only [Act.put, List.setIfInBounds_toArray, List.set_cons_zero, List.set_cons_succ]
  refine wpAnyT_take (i := 4) (oi := ⟨some 19, .load 72 (.tmp 7), _, _, _, _⟩) (v := ?vR2x4) rfl (by kernel_rfl) (by kernel_rfl) (by kernel_rfl) (by kernel_rfl) (by kernel_rfl) (fun _ _ _ h => h) (Or.inl ⟨by rfl, ?hyR2x4⟩) (by assumption) ?restR2x4
  case hyR2x4 => (intro w hSw; (try dsimp only at hSw); go_simp; try (with_reducible rfl))
  try simp only [Act.put, List.setIfInBounds_toArray, List.set_cons_zero, List.set_cons_succ]
  refine wpAnyT_one (i := 5) (o := ⟨some 20, .call { callee := .value (.func 46), args := #[.tmp 19], argTypes := #[72] }, _, _, _, _⟩) (by kernel_rfl) rfl (fun K hK => ?_)
  go_simp
  refine calls_at (HL.out _) (by with_reducible rfl) (by with_reducible rfl) ?_
  rintro e w2 ⟨rfl, hb2⟩
  go_wp2_with fail
  have hb3 : Below X.heap.size X w2 := hHeld.2.2.2.2.2.trans (hb2.mono hHeld.2.2.2.2.2.size)
  have hHw : True ∧ _ := ⟨trivial, Nx.of HO.out HNX.out hb3⟩
  have HB3 : Hid (Below X.heap.size X w2) := hb3
  unfold Nx at hHw
  clear hb2 hb3
  obtain ⟨⟨c0, _, _, _⟩, cz⟩ := (HO.out _ HB3.out).cells
  have cz0 := cz 0
  refine hK.out _ _ ⟨trivial, fun _ => hHw.2⟩ ?_
  clear hK K cz
  refine wpAnyT_takeB (i := 6) (oi := ⟨some 21, .binOp .add 3 (.tmp 18) (.tmp 20) 3, _, _, _, _⟩) (v := ?vR2x6) rfl (by kernel_rfl) (by kernel_rfl) (by kernel_rfl) (by kernel_rfl) (fun _ _ _ h => h) (Or.inl ⟨by rfl, ?hyR2x6⟩) (by assumption) ?restR2x6
  case hyR2x6 => (intro w hSw; (try dsimp only at hSw); go_simp; try (with_reducible rfl))
  try simp only [Act.put, List.setIfInBounds_toArray, List.set_cons_zero, List.set_cons_succ]
  refine wpAnyT_takeB (i := 7) (oi := ⟨some 22, .nilCheck (.tmp 15), _, _, _, _⟩) (v := ?vR2x7) rfl (by kernel_rfl) (by kernel_rfl) (by kernel_rfl) (by kernel_rfl) (fun _ _ _ h => h) (Or.inl ⟨by rfl, ?hyR2x7⟩) (by assumption) ?restR2x7
  case hyR2x7 => (intro w hSw; (try dsimp only at hSw); go_simp; try (with_reducible rfl))
  try simp only [Act.put, List.setIfInBounds_toArray, List.set_cons_zero, List.set_cons_succ]
  refine wpAnyT_takeB (i := 8) (oi := ⟨some 23, .fieldAddr 67 (.tmp 22) 0, _, _, _, _⟩) (v := ?vR2x8) rfl (by kernel_rfl) (by kernel_rfl) (by kernel_rfl) (by kernel_rfl) (fun _ _ _ h => h) (Or.inl ⟨by rfl, ?hyR2x8⟩) (by assumption) ?restR2x8
  case hyR2x8 => (intro w hSw; (try dsimp only at hSw); go_simp; try (with_reducible rfl))
  try simp only [Act.put, List.setIfInBounds_toArray, List.set_cons_zero, List.set_cons_succ]
  refine wpAnyT_late (i := 9) (o := ⟨none, .store 3 (.tmp 23) (.tmp 21), _, _, _, _⟩) (by kernel_rfl) rfl (by kernel_rfl) (fun K hK => ?_)
  go_simp
  refine hK.out _ _ ?shR2x9 ?restR2x9
  case shR2x9 => ((try dsimp only); all_goals trivial)
  clear hK K
  try simp only [Act.put, List.setIfInBounds_toArray, List.set_cons_zero, List.set_cons_succ]
  refine wpAnyT_done (by kernel_rfl) ?_ _
  obtain ⟨Y, hY⟩ : ∃ Y, w2.setCell ⟨s.P, 0, none⟩ (.int .i64 (cnt + (t - f + 1))) = Y := ⟨_, rfl⟩
  have hl := Hlt.out
  have hOY : OrdAt s Y (cnt + (t - f + 1)) V M K := by rw [← hY]; exact (HO.out _ HB3.out).setP ok _
  have hNY : Y.heap[W.heap.size]? = some (.cells #[.int .i64 cnt, .int .i64 f, .int .i64 t] 72) := by
    rw [← hY]; exact (heap_setCell_other w2 ⟨s.P, 0, none⟩ _ _ (by have := HW1.out; show W.heap.size ≠ s.P; omega)).trans (HNX.out _ HB3.out)
  have hZY : Y.heap[w.heap.size]? = some (.cells #[.int .i64 0, .int .i64 0, .int .i64 0] 72) := by
    rw [← hY]; exact (heap_setCell_other w2 ⟨s.P, 0, none⟩ _ _ (by show w.heap.size ≠ s.P; omega)).trans (HN.out _ HB3.out)
  have hsY : Step s B w Y := by
    rw [← hY]
    exact (Step.of_below (HwX.out.trans (HB3.out.mono HwX.out.size)) hB).trans (Step.set _ (.inl rfl) ok.bp)
  try rw [hY]
  have HOY : Hid (OrdAt s Y (cnt + (t - f + 1)) V M K) := hOY
  have HSY : Hid (Step s B w Y) := hsY
  obtain ⟨⟨b0, b1, b2⟩, _⟩ := box3 hNY
  obtain ⟨⟨z0, z1, z2⟩, zf⟩ := box3 hZY
  have zf0 := zf 0
  have zf1 := zf 1
  have zf2 := zf 2
  have HZY : Hid (Y.heap[w.heap.size]? = some (.cells #[.int .i64 0, .int .i64 0, .int .i64 0] 72)) := hZY
  have HB : Hid (B ≤ w.heap.size) := hB
  clear hOY hsY hNY hZY hY zf hHw c0 cz0 hB hl
  go_wp2_with fail
  have hE := heap_setCell_same _ w.heap.size 2 _ 72 (.int .i64 t) (heap_setCell_same _ w.heap.size 1 _ 72 (.int .i64 f) (heap_setCell_same Y w.heap.size 0 _ 72 (.int .i64 cnt) HZY.out))
  simp only [List.setIfInBounds_toArray, List.set_cons_zero, List.set_cons_succ] at hE
  obtain ⟨⟨q0, q1, q2⟩, _⟩ := box3 hE
  have hl := Hlt.out
  refine bodyPost_ret (by simp [results, Try.results40, go_sem, q0, q1, q2]; try rfl) rfl ?_
  exact ⟨rfl, ((HOY.out.setNew 0 _ hl.1 hl.2.1 hl.2.2.1 hl.2.2.2).setNew 1 _ hl.1 hl.2.1 hl.2.2.1 hl.2.2.2).setNew 2 _ hl.1 hl.2.1 hl.2.2.1 hl.2.2.2, ((HSY.out.setNew _ (Nat.le_refl _) HB.out).setNew _ (Nat.le_refl _) HB.out).setNew _ (Nat.le_refl _) HB.out⟩
end Go.Proofs.Ytkgeknlmkkoobaa
