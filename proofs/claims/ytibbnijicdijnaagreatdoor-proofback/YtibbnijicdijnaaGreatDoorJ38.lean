/-
  Put together: PfRng, PfWr3, PfWr6.
-/
import Derived.RangeFuncNested
import Derived.RangeFuncBound
import Derived.RangeFuncCalls
import Derived.RangeFuncLeaves
import Derived.Shelf.Abstract
import Derived.Shelf.RegionOpen
import Derived.OwnWalkIn
import Derived.TacticsInMore
import Derived.LoopNIn
import Derived.LoopIn
import Derived.Test.YtibbnijicdijnaaGreatDoorJ37
import Derived.Test.YtibbnijicdijnaaGreatDoorJ34
namespace Go.Proofs.YtibbnijicdijnaaGreatDoor
open Go Go.RowKit

/-- All but the blocks of S stays. -/
structure Ofw (S : Nat → Prop) (w w' : World) : Prop where
  os : w'.os = w.os
  tape : w'.tape = w.tape
  output : w'.output = w.output
  size : w.heap.size ≤ w'.heap.size
  block : ∀ k, k < w.heap.size → ¬ S k → w'.heap[k]? = w.heap[k]?
theorem Ofw.refl (S : Nat → Prop) (w : World) : Ofw S w w := ⟨rfl, rfl, rfl, Nat.le_refl _, fun _ _ _ => rfl⟩
theorem Ofw.trans {S : Nat → Prop} {a b c : World} (h : Ofw S a b) (k : Ofw S b c) : Ofw S a c :=
  ⟨k.os.trans h.os, k.tape.trans h.tape, k.output.trans h.output, Nat.le_trans h.size k.size, fun i hi hs => (k.block i (Nat.lt_of_lt_of_le hi h.size) hs).trans (h.block i hi hs)⟩
theorem Ofw.of_below {S : Nat → Prop} {w w' : World} (h : Below w.heap.size w w') : Ofw S w w' := ⟨h.os, h.tape, h.output, h.size, fun k hk _ => h.block k hk⟩
theorem Ofw.set {S : Nat → Prop} {w : World} {g i : Nat} (v : Value) (h : S g) : Ofw S w (w.setCell ⟨g, i, none⟩ v) :=
  ⟨rfl, rfl, rfl, by simp [World.setCell], fun k _ hs => Below.heap_setCell _ ⟨g, i, none⟩ _ k (fun e => hs (e ▸ h))⟩
theorem Ofw.less {S T : Nat → Prop} {w w' : World} (h : Ofw S w w') (hs : ∀ k, S k → T k) : Ofw T w w' := ⟨h.os, h.tape, h.output, h.size, fun k hk ht => h.block k hk fun e => ht (hs k e)⟩
theorem Ofw.below {S : Nat → Prop} {B : Nat} {w w' : World} (h : Ofw S w w') (hS : ∀ k, S k → B ≤ k) (hB : B ≤ w.heap.size) : Below B w w' := ⟨h.os, h.tape, h.output, h.size, fun k hk => h.block k (Nat.lt_of_lt_of_le hk hB) fun e => by have := hS k e; omega⟩

/-- An iterator that gives xs until a round says no; T: its own blocks, which no round may touch; at a round memory has M blocks at least. -/
def SeqX {α : Type} (F : Fence) (n : Nat) (P : Program) (g : Nat) (lb : Array Value) (encs : α → Array Value) (T : Nat → Prop) (M : Nat) (xs : List α) (w : World) : Prop :=
  ∀ (l : Nat) (J J' : List α → World → Prop), (∀ s W W', J s W → Ofw T W W' → J s W') → (∀ s W W', J' s W → Ofw T W W' → J' s W') →
    (∀ pre x post W, xs = pre ++ x :: post → J pre W → M ≤ W.heap.size → YieldAt F (n - 1) P l (encs x) W fun e W' => ((e = .returned (.bool true) ∧ J (pre ++ [x]) W') ∨ (e = .returned (.bool false) ∧ J' (pre ++ [x]) W')) ∧ W.heap.size ≤ W'.heap.size ∧ ∀ k, T k → W'.heap[k]? = W.heap[k]?) →
    J [] w → CallsIn F n P g (#[.func (.yield l) #[] #[]] ++ lb) w fun e W' => (∃ v, e = .returned v) ∧ (J xs W' ∨ ∃ pre x post, xs = pre ++ x :: post ∧ J' (pre ++ [x]) W')

theorem off_putObj {S : Nat → Prop} (W : World) (k : Nat) (o : Obj) (hk : S k) : Ofw S W (W.putObj k o) := ⟨rfl, rfl, rfl, by simp, fun i _ hi => World.putObj_heap_other (fun e => hi (e ▸ hk))⟩

theorem range_stop {α : Type} {F : Fence} {n : Nat} {P : Program} {g : Operand} {ps : Array Tmp} {assign body : Code} {Q : Exit → Act → World → Prop} {a : Act} {w : World}
    (hro : F.round = none) (h1 : 1 ≤ n) {gf : Nat} {lb : Array Value} (hg : a.eval g = .func (.func gf) #[] lb) (hFg : F.fn gf) (eg : ∀ args w, (callFunc gf args).run P w = .ok (.enter gf args) w)
    {encs : α → Array Value} {T : Nat → Prop} {M : Nat} {xs : List α} (hT : ∀ k, T k → k < w.heap.size ∨ w.heap.size + 2 ≤ k)
    (hseq : ∀ W, RowKit.Below w.heap.size w W → W.heap.size = w.heap.size + 2 → SeqX F (n - 1) P gf lb encs T M xs W) (hps : ∀ x, (encs x).size = ps.size)
    (I I' : List α → World → Prop) (hI : ∀ s W W', I s W → Ofw (fun k => T k ∨ k = w.heap.size ∨ k = w.heap.size + 1) W W' → I s W') (hI' : ∀ s W W', I' s W → Ofw (fun k => T k ∨ k = w.heap.size ∨ k = w.heap.size + 1) W W' → I' s W') (h0 : I [] w) (a₁ : α → Act)
    (hassign : ∀ (l : Nat) (x : α) (W : World) (K : Act → World → Prop), K (a₁ x) W → assign.wpIn (F.inRound l) (n - 1 - 1) P (Exit.then K (fun _ _ _ => False)) { tmps := (ps.zip (encs x)).foldl (fun t (p, v) => t.setIfInBounds p v) a.tmps, defers := [] } W)
    (hbody : ∀ (l : Nat) (pre : List α) (x : α) (post : List α) (W : World), xs = pre ++ x :: post → I pre W → M ≤ W.heap.size → w.heap.size + 2 ≤ W.heap.size →
      body.wpIn (F.inRound l) (n - 1 - 1) P (fun ex _ W' => ((ex = .normal ∧ I (pre ++ [x]) W') ∨ (ex = .ret ∧ I' (pre ++ [x]) W')) ∧ W.heap.size ≤ W'.heap.size ∧ ∀ k, (T k ∨ k = w.heap.size ∨ k = w.heap.size + 1) → W'.heap[k]? = W.heap[k]?) (a₁ x) W)
    (hdone : ∀ (W : World), I xs W → W.heap[w.heap.size]? = some (.deferred (some [])) → Q .normal { a with defers := { target := .collected w.heap.size, args := #[] } :: a.defers } W)
    (hstop : ∀ (pre : List α) (x : α) (post : List α) (W : World), xs = pre ++ x :: post → I' (pre ++ [x]) W → W.heap[w.heap.size]? = some (.deferred (some [])) → Q .ret { a with defers := { target := .collected w.heap.size, args := #[] } :: a.defers } W) :
    (Code.rangeFunc g ps assign body).wpIn F n P Q a w := by
  refine wpIn_rangeFunc fun fn hfn => ?_
  obtain ⟨rec, hrec⟩ : ∃ rec : LoopState → Option Code → Loop, rec = fun st p => { state := st, pending := p, fn := fn, tmps := a.tmps, params := ps, assign := assign, body := body, defers := w.heap.size } := ⟨_, rfl⟩
  obtain ⟨D, hD⟩ : ∃ D, D = w.heap.size := ⟨_, rfl⟩
  have hnew := run_enterLoop_outer (P := P) (w := w) fn a.tmps ps assign body
  rw [← hro] at hnew
  obtain ⟨W1, hW1⟩ : ∃ W1, (w.alloc (.deferred (some []))).alloc (.loop (rec .ready none)) = W1 := ⟨_, rfl⟩
  have hrr : rec .ready none = { state := .ready, pending := none, fn := fn, tmps := a.tmps, params := ps, assign := assign, body := body, defers := w.heap.size } := by rw [hrec]
  rw [← hrr, hW1] at hnew
  have hb1 : RowKit.Below w.heap.size w W1 := by
    rw [← hW1]
    exact ((Below.refl _ w).alloc (Nat.le_refl _) _).alloc (by simp) _
  have hs1 : W1.heap.size = w.heap.size + 2 := by rw [← hW1]; simp
  have hl1 : W1.heap[D + 1]? = some (.loop (rec .ready none)) := by
    rw [← hW1, hD]
    have := World.alloc_heap_new (w.alloc (.deferred (some []))) (.loop (rec .ready none))
    rwa [World.size_alloc] at this
  have hk1 : W1.heap[D]? = some (.deferred (some [])) := by
    rw [← hW1, hD]
    exact (Below.heap_alloc _ _ _ (by simp)).trans (World.alloc_heap_new w _)
  refine ⟨w.heap.size + 1, _, W1, { target := .fn (.func gf) lb, args := #[.func (.yield (w.heap.size + 1)) #[] #[]] }, W1, gf, #[.func (.yield (w.heap.size + 1)) #[] #[]] ++ lb, W1, hnew, ?_, ?_, ?_, fun _ => h1, ?_⟩
  · simp only [resolve, hg]
    simp [go_sem]
  · intro f' hf'
    simp [Target.leads] at hf'
    subst hf'
    exact hFg
  · simp [invoke, go_sem, eg]
  · rw [← hD] at hT hseq hI hI' hbody hdone hstop ⊢
    refine (hseq W1 (hD ▸ hb1) (hD ▸ hs1) (D + 1) (fun pre W => I pre W ∧ W.heap[D + 1]? = some (.loop (rec .ready none)) ∧ W.heap[D]? = some (.deferred (some []))) (fun pre W => I' pre W ∧ W.heap[D + 1]? = some (.loop (rec .done (some .ret))) ∧ W.heap[D]? = some (.deferred (some []))) ?_ ?_ ?_ ⟨hI _ _ _ h0 (Ofw.of_below hb1), hl1, hk1⟩).mono ?_
    · rintro s W W' ⟨hi, hl, hk⟩ ho
      have h3 := (Array.getElem?_eq_some_iff.1 hl).1
      have h4 := (Array.getElem?_eq_some_iff.1 hk).1
      refine ⟨hI s W W' hi (ho.less fun k h => .inl h), (ho.block _ h3 fun h => ?_).trans hl, (ho.block _ h4 fun h => ?_).trans hk⟩
      · have := hT _ h; omega
      · have := hT _ h; omega
    · rintro s W W' ⟨hi, hl, hk⟩ ho
      have h3 := (Array.getElem?_eq_some_iff.1 hl).1
      have h4 := (Array.getElem?_eq_some_iff.1 hk).1
      refine ⟨hI' s W W' hi (ho.less fun k h => .inl h), (ho.block _ h3 fun h => ?_).trans hl, (ho.block _ h4 fun h => ?_).trans hk⟩
      · have := hT _ h; omega
      · have := hT _ h; omega
    · rintro pre x post W hx ⟨hi, hl, hk⟩ hM
      have h3 := (Array.getElem?_eq_some_iff.1 hl).1
      have hy := run_yield (P := P) (args := encs x) hl (by rw [hrec]; exact hps x)
      rw [hrec] at hy
      refine ⟨fn, _, assign, body, hy, roundIn_of_wpIn hfn (hassign _ x W _ ?_)⟩
      obtain ⟨W2, hW2⟩ : ∃ W2, W.putObj (D + 1) (.loop { rec .ready none with state := .busy }) = W2 := ⟨_, rfl⟩
      have o2 : Ofw (fun k => T k ∨ k = D ∨ k = D + 1) W W2 := hW2 ▸ off_putObj W (D + 1) _ (.inr (.inr rfl))
      have l2 : W2.heap[D + 1]? = some (.loop { rec .ready none with state := .busy }) := hW2 ▸ World.putObj_heap_same h3
      have k2 : W2.heap[D]? = some (.deferred (some [])) := hW2 ▸ (World.putObj_heap_other (by omega)).trans hk
      have e2 : ∀ k, k ≠ D + 1 → W2.heap[k]? = W.heap[k]? := fun k hne => hW2 ▸ World.putObj_heap_other hne
      have s2 : W2.heap.size = W.heap.size := by rw [← hW2]; simp
      refine ⟨W2, hW2 ▸ run_beginRound hl (by rw [hrec]), wpIn_mono (hbody _ pre x post W2 hx (hI _ _ _ hi o2) (by omega) (by omega)) ?_⟩
      rintro ex a3 W3 ⟨hex, hs3, hk3⟩
      have l3 := (hk3 (D + 1) (.inr (.inr rfl))).trans l2
      have h5 : D + 1 < W3.heap.size := (Array.getElem?_eq_some_iff.1 l3).1
      have fin : ∀ (st : LoopState) (p : Option Code), (W3.putObj (D + 1) (.loop (rec st p))).heap[D + 1]? = some (.loop (rec st p)) ∧ (W3.putObj (D + 1) (.loop (rec st p))).heap[D]? = some (.deferred (some [])) ∧ W.heap.size ≤ (W3.putObj (D + 1) (.loop (rec st p))).heap.size ∧ ∀ k, T k → (W3.putObj (D + 1) (.loop (rec st p))).heap[k]? = W.heap[k]? := fun st p => by
        refine ⟨World.putObj_heap_same h5, (World.putObj_heap_other (by omega)).trans ((hk3 D (.inr (.inl rfl))).trans k2), by simp; omega, fun k hTk => ?_⟩
        have hne : k ≠ D + 1 := fun e => by have := hT k hTk; omega
        exact (World.putObj_heap_other hne).trans ((hk3 k (.inl hTk)).trans (e2 k hne))
      rcases hex with ⟨rfl, hi3⟩ | ⟨rfl, hi3⟩
      · have hr := run_endRound (P := P) none l3
        have hre : ({ { rec .ready none with state := .busy } with state := if (none : Option Code).isNone then .ready else .done, pending := none } : Loop) = rec .ready none := by rw [hrec]; rfl
        rw [hre] at hr
        obtain ⟨f1, f2, f3, f4⟩ := fin .ready none
        exact ⟨_, _, hr, .inl ⟨rfl, hI _ _ _ hi3 (off_putObj W3 (D + 1) _ (.inr (.inr rfl))), f1, f2⟩, f3, f4⟩
      · have hr := run_endRound (P := P) (some .ret) l3
        have hre : ({ { rec .ready none with state := .busy } with state := if (some Code.ret : Option Code).isNone then .ready else .done, pending := some .ret } : Loop) = rec .done (some .ret) := by rw [hrec]; rfl
        rw [hre] at hr
        obtain ⟨f1, f2, f3, f4⟩ := fin .done (some .ret)
        exact ⟨_, _, hr, .inr ⟨rfl, hI' _ _ _ hi3 (off_putObj W3 (D + 1) _ (.inr (.inr rfl))), f1, f2⟩, f3, f4⟩
    · rintro e W2 ⟨⟨v, rfl⟩, (⟨hi, hl, hk⟩ | ⟨pre, x, post, hx, hi, hl, hk⟩)⟩
      · have he := run_endLoop (P := P) hl (by rw [hrec]; simp)
        have hp : (rec .ready none).pending = none := by rw [hrec]
        rw [hp] at he
        exact ⟨none, _, he, hdone _ (hI _ _ _ hi (off_putObj W2 (D + 1) _ (.inr (.inr rfl)))) ((World.putObj_heap_other (by omega)).trans hk)⟩
      · have he := run_endLoop (P := P) hl (by rw [hrec]; simp)
        have hp : (rec .done (some .ret)).pending = some .ret := by rw [hrec]
        rw [hp] at he
        exact ⟨some .ret, _, he, wpIn_ret (hstop pre x post _ hx (hI' _ _ _ hi (off_putObj W2 (D + 1) _ (.inr (.inr rfl)))) ((World.putObj_heap_other (by omega)).trans hk))⟩
end Go.Proofs.YtibbnijicdijnaaGreatDoor

namespace Go.Proofs.YtibbnijicdijnaaGreatDoor
open Go.RowKit

set_option maxRecDepth 10000 in
set_option maxHeartbeats 2000000 in
theorem wrt_equal : Wrt 90 fun d => d.ids ++ rowT d.pcs d.deg := by
  intro B b l d vo vp vl vi w h hs hi hl hBw hg hB
  have hl1 : l.length + tot d.ids + tot (rowT d.pcs d.deg) ≤ 900000000 := by rw [tot_app] at hl; omega
  obtain ⟨W, hW⟩ : ∃ W, w.alloc (.cells (slC d vo vp vl vi) 45) = W := ⟨_, rfl⟩
  have hbW : Below w.heap.size w W := by rw [← hW]; exact (Below.refl _ _).alloc (Nat.le_refl _) _
  have kW : Kq B w W.drew := Kq.of_below hbW.drew hBw
  have hBW : B ≤ W.drew.heap.size := Nat.le_trans hBw hbW.drew.size
  have HK : Hid (∀ w', Kq B W.drew w' → w'.cell? ⟨w.heap.size, 3, none⟩ = some vp ∧ w'.cell? ⟨w.heap.size, 4, none⟩ = some (.string (txtOf d.deg)) ∧ w'.cell? ⟨w.heap.size, 6, none⟩ = some vi) := fun w' k => by
    have := k.other _ _ _ _ (show W.drew.heap[w.heap.size]? = some (.cells (slC d vo vp vl vi) 45 (0, 0)) by show W.heap[w.heap.size]? = _; rw [← hW]; exact heap_alloc_new w _) (by decide) (by decide)
    exact ⟨cell_of this 3, cell_of this 4, cell_of this 6⟩
  have HR : Hid (Calls Tryz.prog 80 #[.pointer (some ⟨b, 0, none⟩), vi] W.drew fun e w' => e = .returned (.pointer (some ⟨b, 0, none⟩)) ∧ PageAt B b (wordsP d.ids l) w' ∧ Kq B W.drew w') := words_any d.ids vi W.drew (page_below h hbW.drew) (hs.i.next kW) (by omega) hBW
  have HI : Hid (∀ w', Kq B W.drew w' → PageAt B b (wordsP d.ids l) w' → Calls Tryz.prog 125 #[.pointer (some ⟨b, 0, none⟩), .agg #[vp, .string (txtOf d.deg)]] w' fun e w2 => e = .returned (.pointer (some ⟨b, 0, none⟩)) ∧ PageAt B b (wordsP (d.ids ++ rowT d.pcs d.deg) l) w2 ∧ Kq B w' w2) := fun w' k hp => by
    refine (prow_any d.pcs d.deg vp w' hp (hs.p.next (kW.trans k)) ?_ hi.p (Nat.le_trans hBW k.low.size) (hg.kq (kW.trans k) hB) hB).mono fun e w2 hq => ⟨hq.1, ?_, hq.2.2⟩
    · have := words_len d.ids l
      omega
    · rw [words_app]; exact hq.2.1
  have HKW : Hid (Kq B w W.drew) := kW
  unfold WrO
  obtain ⟨Z, hZ⟩ : ∃ Z, wordsP (d.ids ++ rowT d.pcs d.deg) l = Z := ⟨_, rfl⟩
  rw [hZ] at HI
  show Calls _ _ _ _ fun e w' => e = _ ∧ PageAt B b (wordsP (d.ids ++ rowT d.pcs d.deg) l) w' ∧ Kq B w w'
  rw [hZ]
  have HC := hs.o
  unfold slC at hW
  unfold slC
  obtain ⟨ao, co, rfl, _, _⟩ := hs.o
  obtain ⟨ap, cp, rfl, _, _⟩ := hs.p
  obtain ⟨al, cl, rfl, _, _⟩ := hs.l
  obtain ⟨ai, ci, rfl, _, _⟩ := hs.i
  obtain ⟨dk, dn, do_, dp, dg, dl, di, de, dw, dh⟩ := d
  dsimp only at hW HK HR HI hZ ⊢
  clear h hs hi hl hg hl1 hbW kW HC hZ
  go_enter Tryz.func90, Tryz.ntmps90
  go_wp2_with fail
  refine wp_region_T (fun w' => w'.cell? ⟨w.heap.size, 3, none⟩ = some (.slice ap dp.length cp) ∧ w'.cell? ⟨w.heap.size, 4, none⟩ = some (.string (txtOf dg)) ∧ w'.cell? ⟨w.heap.size, 6, none⟩ = some (.slice ai di.length ci)) (fun _ => True) [] (by kernel_rfl) ⟨HK.out _ (Kq.refl _ _), trivial⟩ (fun hHeld => ?_)
  clear hW
  generalize W.drew = U at hHeld HK HR HI HKW hBW ⊢
  refine wpAnyT_takeB (i := 0) (oi := ⟨some 4, .move (.tmp 0), _, _, _, _⟩) (v := ?v0) rfl (by kernel_rfl) (by kernel_rfl) (by kernel_rfl) (by kernel_rfl) (fun _ _ _ h => h) (Or.inl ⟨by rfl, ?hy0⟩) (by assumption) ?rest0
  case hy0 => (intro w hSw; (try dsimp only at hSw); obtain ⟨s0, s1, s2⟩ := hSw; go_simp; try (with_reducible rfl))
  try simp only [Act.put, List.setIfInBounds_toArray, List.set_cons_zero, List.set_cons_succ]
  refine wpAnyT_takeB (i := 1) (oi := ⟨some 5, .fieldAddr 45 (.tmp 3) 5, _, _, _, _⟩) (v := ?v1) rfl (by kernel_rfl) (by kernel_rfl) (by kernel_rfl) (by kernel_rfl) (fun _ _ _ h => h) (Or.inl ⟨by rfl, ?hy1⟩) (by assumption) ?rest1
  case hy1 => (intro w hSw; (try dsimp only at hSw); obtain ⟨s0, s1, s2⟩ := hSw; go_simp; try (with_reducible rfl))
  try simp only [Act.put, List.setIfInBounds_toArray, List.set_cons_zero, List.set_cons_succ]
  refine wpAnyT_takeB (i := 2) (oi := ⟨some 6, .load 43 (.tmp 5), _, _, _, _⟩) (v := ?v2) rfl (by kernel_rfl) (by kernel_rfl) (by kernel_rfl) (by kernel_rfl) (fun _ _ _ h => h) (Or.inl ⟨by rfl, ?hy2⟩) (by assumption) ?rest2
  case hy2 => (intro w hSw; (try dsimp only at hSw); obtain ⟨s0, s1, s2⟩ := hSw; go_simp; try (with_reducible rfl))
  try simp only [Act.put, List.setIfInBounds_toArray, List.set_cons_zero, List.set_cons_succ]
  refine wpAnyT_takeB (i := 4) (oi := ⟨some 8, .fieldAddr 45 (.tmp 3) 3, _, _, _, _⟩) (v := ?v4) rfl (by kernel_rfl) (by kernel_rfl) (by kernel_rfl) (by kernel_rfl) (fun _ _ _ h => h) (Or.inl ⟨by rfl, ?hy4⟩) (by assumption) ?rest4
  case hy4 => (intro w hSw; (try dsimp only at hSw); obtain ⟨s0, s1, s2⟩ := hSw; go_simp; try (with_reducible rfl))
  try simp only [Act.put, List.setIfInBounds_toArray, List.set_cons_zero, List.set_cons_succ]
  refine wpAnyT_takeB (i := 5) (oi := ⟨some 9, .load 41 (.tmp 8), _, _, _, _⟩) (v := ?v5) rfl (by kernel_rfl) (by kernel_rfl) (by kernel_rfl) (by kernel_rfl) (fun _ _ _ h => h) (Or.inl ⟨by rfl, ?hy5⟩) (by assumption) ?rest5
  case hy5 => (intro w hSw; (try dsimp only at hSw); obtain ⟨s0, s1, s2⟩ := hSw; go_simp; try (with_reducible rfl))
  try simp only [Act.put, List.setIfInBounds_toArray, List.set_cons_zero, List.set_cons_succ]
  clear hHeld
  refine wpAnyT_one (i := 3) (o := ⟨some 7, .call { callee := .value (.func 80), args := #[(.tmp 4), (.tmp 6)], argTypes := #[123, 43] }, _, _, _, _⟩) (by kernel_rfl) rfl (fun K hK => ?_)
  go_simp
  refine calls_at HR.out (by with_reducible rfl) (by with_reducible rfl) ?_
  rintro e w1 ⟨rfl, hp1, hk1⟩
  have H1 : Hid (PageAt B b (wordsP di l) w1 ∧ Kq B U w1) := ⟨hp1, hk1⟩
  clear hp1 hk1
  go_wp2_with fail
  refine hK.out _ _ ⟨HK.out _ H1.out.2, fun _ => trivial⟩ ?_
  clear hK K
  try simp only [Act.put, List.setIfInBounds_toArray, List.set_cons_zero, List.set_cons_succ]
  refine wpAnyT_one (i := 6) (o := ⟨some 10, .call { callee := .value (.func 125), args := #[(.tmp 7), (.tmp 9)], argTypes := #[123, 41] }, _, _, _, _⟩) (by kernel_rfl) rfl (fun K hK => ?_)
  go_simp
  refine calls_at (HI.out w1 H1.out.2 H1.out.1) (by with_reducible rfl) (by with_reducible rfl) ?_
  rintro e w2 ⟨rfl, hp2, hk2⟩
  have H2 : Hid (PageAt B b Z w2 ∧ Kq B U w2) := ⟨hp2, H1.out.2.trans hk2⟩
  clear hp2 hk2
  go_wp2_with fail
  refine hK.out _ _ ⟨HK.out _ H2.out.2, fun _ => trivial⟩ ?_
  clear hK K
  try simp only [Act.put, List.setIfInBounds_toArray, List.set_cons_zero, List.set_cons_succ]
  refine wpAnyT_done (by kernel_rfl) ?_ _
  go_wp2_with fail
  go_end0
  exact ⟨rfl, H2.out.1, HKW.out.trans H2.out.2⟩
/-- An id that is leant on. -/
def leanT (ids : List (List UInt8)) : List (List UInt8) := if ids = [] then [] else [58] :: ids
set_option maxRecDepth 10000 in
set_option maxHeartbeats 2000000 in
theorem leaning_any {B b : Nat} {l : List UInt8} (L : List (List UInt8)) (v : Value) (w : World) (h : PageAt B b l w) (hR : RdE B w v L.length (L.map fun x => .string (txtOf x))) (hl : l.length + tot (leanT L) ≤ 900000000) (hBw : B ≤ w.heap.size) : Calls Tryz.prog 176 #[.pointer (some ⟨b, 0, none⟩), v] w fun e w' => e = .returned (.pointer (some ⟨b, 0, none⟩)) ∧ PageAt B b (wordsP (leanT L) l) w' ∧ Kq B w w' := by
  by_cases hL : L = []
  · subst hL
    have HE : Hid (PageAt B b l w ∧ Kq B w w) := ⟨h, Kq.refl _ _⟩
    obtain ⟨a, cap, rfl, _, _⟩ := hR
    clear h hl
    go_enter Tryz.func176, Tryz.ntmps176
    go_wp2_with fail
    go_ret
    exact ⟨rfl, HE.out⟩
  · have hn : 0 < L.length := List.length_pos_iff.2 hL
    have hnI : (0 : Int) < (L.length : Int) := by omega
    have hlt : leanT L = [58] :: L := if_neg hL
    rw [hlt, show tot ([58] :: L) = 2 + tot L by simp [tot]] at hl
    have HA : Hid (Calls Tryz.prog 80 #[.pointer (some ⟨b, 0, none⟩), .slice (some ⟨w.heap.size, 0, none⟩) 1 1] (w.alloc (.cells #[.string ⟨#[58]⟩] 9)) fun e w' => e = .returned (.pointer (some ⟨b, 0, none⟩)) ∧ PageAt B b (wordP l [58]) w' ∧ Kq B w w') := words_one [58] w h (by simp; omega) hBw
    have HB : Hid (∀ w', Kq B w w' → PageAt B b (wordP l [58]) w' → Calls Tryz.prog 80 #[.pointer (some ⟨b, 0, none⟩), v] w' fun e w2 => e = .returned (.pointer (some ⟨b, 0, none⟩)) ∧ PageAt B b (wordsP (leanT L) l) w2 ∧ Kq B w' w2) := fun w' k hp => by
      refine (words_any L v w' hp (hR.next k) ?_ (Nat.le_trans hBw k.low.size)).mono fun e w2 hq => ⟨hq.1, ?_, hq.2.2⟩
      · have := word_len l [58]
        simp at this
        omega
      · rw [hlt]; exact hq.2.1
    obtain ⟨a, cap, rfl, _, _⟩ := hR
    clear h hl hlt
    go_enter Tryz.func176, Tryz.ntmps176
    go_wp2_with fail
    refine calls_at HA.out (by with_reducible rfl) (by with_reducible rfl) ?_
    rintro e w1 ⟨rfl, hp1, hk1⟩
    have H1 : Hid (PageAt B b (wordP l [58]) w1 ∧ Kq B w w1) := ⟨hp1, hk1⟩
    clear hp1 hk1
    go_wp2_with fail
    refine calls_at (HB.out w1 H1.out.2 H1.out.1) (by with_reducible rfl) (by with_reducible rfl) ?_
    rintro e w2 ⟨rfl, hp2, hk2⟩
    have H2 : Hid (PageAt B b (wordsP (leanT L) l) w2 ∧ Kq B w w2) := ⟨hp2, H1.out.2.trans hk2⟩
    clear hp2 hk2
    go_wp2_with fail
    go_ret
    exact ⟨rfl, H2.out⟩
set_option maxRecDepth 10000 in
set_option maxHeartbeats 2000000 in
theorem wrt_unsat : Wrt 154 fun d => leanT d.ids := by
  intro B b l d vo vp vl vi w h hs hi hl hBw hg hB
  obtain ⟨W, hW⟩ : ∃ W, w.alloc (.cells (slC d vo vp vl vi) 45) = W := ⟨_, rfl⟩
  have hbW : Below w.heap.size w W := by rw [← hW]; exact (Below.refl _ _).alloc (Nat.le_refl _) _
  have kW : Kq B w W := Kq.of_below hbW hBw
  have hBW : B ≤ W.heap.size := Nat.le_trans hBw hbW.size
  have gW : W.heap[w.heap.size]? = some (.cells (slC d vo vp vl vi) 45 (0, 0)) := by rw [← hW]; exact heap_alloc_new w _
  have HKW : Hid (Kq B w W) := kW
  have c0 := cell_of gW 6
  have HC : Hid (Calls Tryz.prog 176 #[.pointer (some ⟨b, 0, none⟩), vi] W fun e w' => e = .returned (.pointer (some ⟨b, 0, none⟩)) ∧ PageAt B b (wordsP (leanT d.ids) l) w' ∧ Kq B W w') := leaning_any d.ids vi W (page_below h hbW) (hs.i.next kW) hl hBW
  obtain ⟨ao, co, rfl, _, _⟩ := hs.o
  obtain ⟨ap, cp, rfl, _, _⟩ := hs.p
  obtain ⟨al, cl, rfl, _, _⟩ := hs.l
  obtain ⟨ai, ci, rfl, _, _⟩ := hs.i
  unfold slC at hW
  unfold WrO slC
  simp only [slC] at c0
  dsimp at c0
  clear h hs hi hl hg hbW kW gW
  go_enter Tryz.func154, Tryz.ntmps154
  go_wp2_with fail
  refine calls_at HC.out (by with_reducible rfl) (by with_reducible rfl) ?_
  rintro e w2 ⟨rfl, hp2, hk2⟩
  have H2 : Hid (PageAt B b (wordsP (leanT d.ids) l) w2 ∧ Kq B w w2) := ⟨hp2, HKW.out.trans hk2⟩
  clear hp2 hk2
  go_wp2_with fail
  go_end0
  exact ⟨rfl, H2.out⟩
end Go.Proofs.YtibbnijicdijnaaGreatDoor

namespace Go.Proofs.YtibbnijicdijnaaGreatDoor
open Go.RowKit

/-- An operation's words. -/
def opT (o : OpL) : List (List UInt8) := if o.1 = 1 then [o.2.1] else if o.1 = 2 then [litT o.2.2] else if o.1 = 3 then [[43]] else if o.1 = 4 then [o.2.1, [42]] else if o.1 = 5 then [o.2.1, [100]] else if o.1 = 6 then [[115]] else if o.1 = 7 then [litT o.2.2, [119]] else []
theorem two_texts {B : Nat} (w : World) (x y : List UInt8) : RdE B (w.alloc (.cells #[.string (txtOf x), .string (txtOf y)] 9)) (.slice (some ⟨w.heap.size, 0, none⟩) 2 2) 2 ([x, y].map fun x => .string (txtOf x)) := by
  have hg := heap_alloc_new w (.cells #[.string (txtOf x), .string (txtOf y)] 9)
  refine ⟨_, _, rfl, by omega, fun _ => ⟨w.heap.size, 0, rfl, .inr ⟨_, _, _, hg, by decide, by decide⟩, (Array.getElem?_eq_some_iff.1 hg).1, fun j u hu => ?_⟩⟩
  rw [Nat.zero_add, cell_of hg]
  simpa using hu
theorem words_two {B b : Nat} {l : List UInt8} (x y : List UInt8) (w : World) (h : PageAt B b l w) (hl : l.length + tot [x, y] ≤ 900000000) (hBw : B ≤ w.heap.size) : Calls Tryz.prog 80 #[.pointer (some ⟨b, 0, none⟩), .slice (some ⟨w.heap.size, 0, none⟩) 2 2] (w.alloc (.cells #[.string (txtOf x), .string (txtOf y)] 9)) fun e w' => e = .returned (.pointer (some ⟨b, 0, none⟩)) ∧ PageAt B b (wordsP [x, y] l) w' ∧ Kq B w w' := by
  have hb : Below w.heap.size w (w.alloc (.cells #[.string (txtOf x), .string (txtOf y)] 9)) := (Below.refl _ _).alloc (Nat.le_refl _) _
  refine (words_any [x, y] _ _ (page_below h hb) (two_texts w x y) hl (Nat.le_trans hBw hb.size)).mono fun e w' hq => ?_
  exact ⟨hq.1, hq.2.1, (Kq.of_below hb hBw).trans hq.2.2⟩

set_option maxRecDepth 10000 in
set_option maxHeartbeats 4000000 in
theorem op_wr {B b : Nat} {l : List UInt8} (k : Int) (n : List UInt8) (z : Int) (w : World) (h : PageAt B b l w) (hl : l.length + tot (opT (k, n, z)) ≤ 900000000) (hr : -9223372036854775808 ≤ z ∧ z ≤ 9223372036854775807) (hBw : B ≤ w.heap.size) (hg : Gl w) (hB : 12 ≤ B) : Calls Tryz.prog 121 #[.pointer (some ⟨b, 0, none⟩), .agg #[.int .i64 k, .string (txtOf n), .int .i64 z]] w (WrO B b (wordsP (opT (k, n, z)) l) w) := by
  obtain ⟨W, hW⟩ : ∃ W, w.alloc (.cells #[.int .i64 k, .string (txtOf n), .int .i64 z] 84) = W := ⟨_, rfl⟩
  have hbW : Below w.heap.size w W := by rw [← hW]; exact (Below.refl _ _).alloc (Nat.le_refl _) _
  have kW : Kq B w W := Kq.of_below hbW hBw
  have hBW : B ≤ W.heap.size := Nat.le_trans hBw hbW.size
  have gW : W.heap[w.heap.size]? = some (.cells #[.int .i64 k, .string (txtOf n), .int .i64 z] 84 (0, 0)) := by rw [← hW]; exact heap_alloc_new w _
  have HKW : Hid (Kq B w W) := kW
  have HP : Hid (PageAt B b l W) := page_below h hbW
  have HG : Hid (Gl W) := hg.kq kW hB
  have c0 := cell_of gW 0
  have c1 := cell_of gW 1
  have c2 := cell_of gW 2
  dsimp at c0 c1 c2
  have HgW : Hid (W.heap[w.heap.size]? = some (.cells #[.int .i64 k, .string (txtOf n), .int .i64 z] 84 (0, 0))) := gW
  clear h hg hbW kW gW
  unfold WrO
  by_cases h1 : k = 1
  · subst h1
    have hT : opT (1, n, z) = [n] := rfl
    rw [hT] at hl
    rw [hT]
    have HC : Hid (Calls Tryz.prog 80 #[.pointer (some ⟨b, 0, none⟩), .slice (some ⟨W.heap.size, 0, none⟩) 1 1] (W.alloc (.cells #[.string (txtOf n)] 9)) fun e w' => e = .returned (.pointer (some ⟨b, 0, none⟩)) ∧ PageAt B b (wordsP [n] l) w' ∧ Kq B W w') := words_one n W HP.out (by simpa [tot] using hl) hBW
    clear hl hT
    go_enter Tryz.func121, Tryz.ntmps121
    go_wp2_with fail
    refine calls_at HC.out (by with_reducible rfl) (by with_reducible rfl) ?_
    rintro e w2 ⟨rfl, hp2, hk2⟩
    have H2 : Hid (PageAt B b (wordsP [n] l) w2 ∧ Kq B w w2) := ⟨hp2, HKW.out.trans hk2⟩
    clear hp2 hk2
    go_wp2_with fail
    go_end0
    exact ⟨rfl, H2.out⟩
  by_cases h2 : k = 2
  · subst h2
    have hT : opT (2, n, z) = [litT z] := rfl
    rw [hT] at hl
    rw [hT]
    have HC : Hid (Calls Tryz.prog 128 #[.pointer (some ⟨b, 0, none⟩), .slice (some ⟨W.heap.size, 0, none⟩) 1 1] (W.alloc (.cells #[.int .i64 z] 3)) fun e w' => e = .returned (.pointer (some ⟨b, 0, none⟩)) ∧ PageAt B b (wordsP [litT z] l) w' ∧ Kq B W w') := lits_one z W HP.out (by simpa [tot] using hl) hr hBW HG.out hB
    clear hl hT
    go_enter Tryz.func121, Tryz.ntmps121
    go_wp2_with fail
    refine calls_at HC.out (by with_reducible rfl) (by with_reducible rfl) ?_
    rintro e w2 ⟨rfl, hp2, hk2⟩
    have H2 : Hid (PageAt B b (wordsP [litT z] l) w2 ∧ Kq B w w2) := ⟨hp2, HKW.out.trans hk2⟩
    clear hp2 hk2
    go_wp2_with fail
    go_end0
    exact ⟨rfl, H2.out⟩
  by_cases h3 : k = 3
  · subst h3
    have hT : opT (3, n, z) = [[43]] := rfl
    rw [hT] at hl
    rw [hT]
    have HC : Hid (Calls Tryz.prog 80 #[.pointer (some ⟨b, 0, none⟩), .slice (some ⟨W.heap.size, 0, none⟩) 1 1] (W.alloc (.cells #[.string ⟨#[43]⟩] 9)) fun e w' => e = .returned (.pointer (some ⟨b, 0, none⟩)) ∧ PageAt B b (wordsP [[43]] l) w' ∧ Kq B W w') := words_one [43] W HP.out (by simpa [tot] using hl) hBW
    clear hl hT
    go_enter Tryz.func121, Tryz.ntmps121
    go_wp2_with fail
    refine calls_at HC.out (by with_reducible rfl) (by with_reducible rfl) ?_
    rintro e w2 ⟨rfl, hp2, hk2⟩
    have H2 : Hid (PageAt B b (wordsP [[43]] l) w2 ∧ Kq B w w2) := ⟨hp2, HKW.out.trans hk2⟩
    clear hp2 hk2
    go_wp2_with fail
    go_end0
    exact ⟨rfl, H2.out⟩
  by_cases h4 : k = 4
  · subst h4
    have hT : opT (4, n, z) = [n, [42]] := rfl
    rw [hT] at hl
    rw [hT]
    have HC : Hid (Calls Tryz.prog 80 #[.pointer (some ⟨b, 0, none⟩), .slice (some ⟨W.heap.size, 0, none⟩) 2 2] (W.alloc (.cells #[.string (txtOf n), .string ⟨#[42]⟩] 9)) fun e w' => e = .returned (.pointer (some ⟨b, 0, none⟩)) ∧ PageAt B b (wordsP [n, [42]] l) w' ∧ Kq B W w') := words_two n [42] W HP.out hl hBW
    clear hl hT
    go_enter Tryz.func121, Tryz.ntmps121
    go_wp2_with fail
    refine calls_at HC.out (by with_reducible rfl) (by with_reducible rfl) ?_
    rintro e w2 ⟨rfl, hp2, hk2⟩
    have H2 : Hid (PageAt B b (wordsP [n, [42]] l) w2 ∧ Kq B w w2) := ⟨hp2, HKW.out.trans hk2⟩
    clear hp2 hk2
    go_wp2_with fail
    go_end0
    exact ⟨rfl, H2.out⟩
  by_cases h5 : k = 5
  · subst h5
    have hT : opT (5, n, z) = [n, [100]] := rfl
    rw [hT] at hl
    rw [hT]
    have HC : Hid (Calls Tryz.prog 80 #[.pointer (some ⟨b, 0, none⟩), .slice (some ⟨W.heap.size, 0, none⟩) 2 2] (W.alloc (.cells #[.string (txtOf n), .string ⟨#[100]⟩] 9)) fun e w' => e = .returned (.pointer (some ⟨b, 0, none⟩)) ∧ PageAt B b (wordsP [n, [100]] l) w' ∧ Kq B W w') := words_two n [100] W HP.out hl hBW
    clear hl hT
    go_enter Tryz.func121, Tryz.ntmps121
    go_wp2_with fail
    refine calls_at HC.out (by with_reducible rfl) (by with_reducible rfl) ?_
    rintro e w2 ⟨rfl, hp2, hk2⟩
    have H2 : Hid (PageAt B b (wordsP [n, [100]] l) w2 ∧ Kq B w w2) := ⟨hp2, HKW.out.trans hk2⟩
    clear hp2 hk2
    go_wp2_with fail
    go_end0
    exact ⟨rfl, H2.out⟩
  by_cases h6 : k = 6
  · subst h6
    have hT : opT (6, n, z) = [[115]] := rfl
    rw [hT] at hl
    rw [hT]
    have HC : Hid (Calls Tryz.prog 80 #[.pointer (some ⟨b, 0, none⟩), .slice (some ⟨W.heap.size, 0, none⟩) 1 1] (W.alloc (.cells #[.string ⟨#[115]⟩] 9)) fun e w' => e = .returned (.pointer (some ⟨b, 0, none⟩)) ∧ PageAt B b (wordsP [[115]] l) w' ∧ Kq B W w') := words_one [115] W HP.out (by simpa [tot] using hl) hBW
    clear hl hT
    go_enter Tryz.func121, Tryz.ntmps121
    go_wp2_with fail
    refine calls_at HC.out (by with_reducible rfl) (by with_reducible rfl) ?_
    rintro e w2 ⟨rfl, hp2, hk2⟩
    have H2 : Hid (PageAt B b (wordsP [[115]] l) w2 ∧ Kq B w w2) := ⟨hp2, HKW.out.trans hk2⟩
    clear hp2 hk2
    go_wp2_with fail
    go_end0
    exact ⟨rfl, H2.out⟩
  by_cases h7 : k = 7
  · subst h7
    have hT : opT (7, n, z) = [litT z, [119]] := rfl
    rw [hT] at hl
    rw [hT]
    have hl2 : l.length + ((litT z).length + 1) + 2 ≤ 900000000 := by simp [tot] at hl; omega
    have HC : Hid (Calls Tryz.prog 128 #[.pointer (some ⟨b, 0, none⟩), .slice (some ⟨W.heap.size, 0, none⟩) 1 1] (W.alloc (.cells #[.int .i64 z] 3)) fun e w' => e = .returned (.pointer (some ⟨b, 0, none⟩)) ∧ PageAt B b (wordP l (litT z)) w' ∧ Kq B W w') := lits_one z W HP.out (by omega) hr hBW HG.out hB
    have HD : Hid (∀ w', Kq B W w' → PageAt B b (wordP l (litT z)) w' → Calls Tryz.prog 80 #[.pointer (some ⟨b, 0, none⟩), .slice (some ⟨w'.heap.size, 0, none⟩) 1 1] (w'.alloc (.cells #[.string ⟨#[119]⟩] 9)) fun e w2 => e = .returned (.pointer (some ⟨b, 0, none⟩)) ∧ PageAt B b (wordsP [litT z, [119]] l) w2 ∧ Kq B w' w2) := fun w' k hp => words_one [119] w' hp (by have := word_len l (litT z); simp; omega) (Nat.le_trans hBW k.low.size)
    clear hl hl2 hT
    go_enter Tryz.func121, Tryz.ntmps121
    go_wp2_with fail
    refine calls_at HC.out (by with_reducible rfl) (by with_reducible rfl) ?_
    rintro e w2 ⟨rfl, hp2, hk2⟩
    have H2 : Hid (PageAt B b (wordP l (litT z)) w2 ∧ Kq B W w2) := ⟨hp2, hk2⟩
    clear hp2 hk2
    go_wp2_with fail
    refine calls_at (HD.out w2 H2.out.2 H2.out.1) (by with_reducible rfl) (by with_reducible rfl) ?_
    rintro e w3 ⟨rfl, hp3, hk3⟩
    have H3 : Hid (PageAt B b (wordsP [litT z, [119]] l) w3 ∧ Kq B w w3) := ⟨hp3, HKW.out.trans (H2.out.2.trans hk3)⟩
    clear hp3 hk3
    go_wp2_with fail
    go_end0
    exact ⟨rfl, H3.out⟩
  have hT : opT (k, n, z) = [] := by simp [opT, h1, h2, h3, h4, h5, h6, h7]
  rw [hT]
  have HE : Hid (PageAt B b l W ∧ Kq B w W) := ⟨HP.out, HKW.out⟩
  clear hl hT
  go_enter Tryz.func121, Tryz.ntmps121
  go_wp2_with fail
  go_end0
  exact ⟨rfl, HE.out⟩
/-- All operations' words. -/
def opsT (L : List OpL) : List (List UInt8) := L.flatMap opT
end Go.Proofs.YtibbnijicdijnaaGreatDoor
