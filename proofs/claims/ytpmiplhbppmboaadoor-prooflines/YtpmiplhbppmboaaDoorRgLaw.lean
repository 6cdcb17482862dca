/-
  Laws of no program: a range over an iterator that keeps a state in blocks of its own; no round leaves early.
-/
import Derived.RangeFuncNested
import Derived.RangeFuncBound
import Derived.RangeFuncCalls
import Derived.RangeFuncLeaves
import Derived.Shelf.Abstract
import Derived.Shelf.RegionOpen
import Derived.OwnWalkIn
import Derived.TacticsInMore
import Derived.LoopNIn
import Derived.LoopIn
import Derived.Test.YtpmiplhbppmboaaDoorBkReg
namespace Go.Proofs.YtpmiplhbppmboaaDoor
open Go Go.RowKit

/-- An iterator that gives xs; T: its own blocks, which no round may touch; at a round memory has M blocks at least. -/
def SeqW {α : Type} (F : Fence) (n : Nat) (P : Program) (g : Nat) (lb : Array Value) (encs : α → Array Value) (T : Nat → Prop) (M : Nat) (xs : List α) (w : World) : Prop :=
  ∀ (l : Nat) (J : List α → World → Prop), (∀ s W W', J s W → Off T W W' → J s W') →
    (∀ pre x post W, xs = pre ++ x :: post → J pre W → M ≤ W.heap.size → YieldAt F (n - 1) P l (encs x) W fun e W' => e = .returned (.bool true) ∧ J (pre ++ [x]) W' ∧ W.heap.size ≤ W'.heap.size ∧ ∀ k, T k → W'.heap[k]? = W.heap[k]?) →
    J [] w → CallsIn F n P g (#[.func (.yield l) #[] #[]] ++ lb) w fun e W' => (∃ v, e = .returned v) ∧ J xs W'

theorem off_putObj {S : Nat → Prop} (W : World) (k : Nat) (o : Obj) (hk : S k) : Off S W (W.putObj k o) := ⟨rfl, rfl, rfl, by simp, fun i _ hi => World.putObj_heap_other (fun e => hi (e ▸ hk))⟩

theorem range_all {α : Type} {F : Fence} {n : Nat} {P : Program} {g : Operand} {ps : Array Tmp} {assign body : Code} {Q : Exit → Act → World → Prop} {a : Act} {w : World}
    (hro : F.round = none) (h1 : 1 ≤ n) {gf : Nat} {lb : Array Value} (hg : a.eval g = .func (.func gf) #[] lb) (hFg : F.fn gf) (eg : ∀ args w, (callFunc gf args).run P w = .ok (.enter gf args) w)
    {encs : α → Array Value} {T : Nat → Prop} {M : Nat} {xs : List α} (hT : ∀ k, T k → k < w.heap.size ∨ w.heap.size + 2 ≤ k)
    (hseq : ∀ W, RowKit.Below w.heap.size w W → W.heap.size = w.heap.size + 2 → SeqW F (n - 1) P gf lb encs T M xs W) (hps : ∀ x, (encs x).size = ps.size)
    (I : List α → World → Prop) (hI : ∀ s W W', I s W → Off (fun k => T k ∨ k = w.heap.size ∨ k = w.heap.size + 1) W W' → I s W') (h0 : I [] w) (a₁ : α → Act)
    (hassign : ∀ (l : Nat) (x : α) (W : World) (K : Act → World → Prop), K (a₁ x) W → assign.wpIn (F.inRound l) (n - 1 - 1) P (Exit.then K (fun _ _ _ => False)) { tmps := (ps.zip (encs x)).foldl (fun t (p, v) => t.setIfInBounds p v) a.tmps, defers := [] } W)
    (hbody : ∀ (l : Nat) (pre : List α) (x : α) (post : List α) (W : World), xs = pre ++ x :: post → I pre W → M ≤ W.heap.size → w.heap.size + 2 ≤ W.heap.size →
      body.wpIn (F.inRound l) (n - 1 - 1) P (fun ex _ W' => ex = .normal ∧ I (pre ++ [x]) W' ∧ W.heap.size ≤ W'.heap.size ∧ ∀ k, (T k ∨ k = w.heap.size ∨ k = w.heap.size + 1) → W'.heap[k]? = W.heap[k]?) (a₁ x) W)
    (hdone : ∀ (W : World), I xs W → W.heap[w.heap.size]? = some (.deferred (some [])) → Q .normal { a with defers := { target := .collected w.heap.size, args := #[] } :: a.defers } W) :
    (Code.rangeFunc g ps assign body).wpIn F n P Q a w := by
  refine wpIn_rangeFunc fun fn hfn => ?_
  obtain ⟨rec, hrec⟩ : ∃ rec : LoopState → Loop, rec = fun st => { state := st, pending := none, fn := fn, tmps := a.tmps, params := ps, assign := assign, body := body, defers := w.heap.size } := ⟨_, rfl⟩
  obtain ⟨D, hD⟩ : ∃ D, D = w.heap.size := ⟨_, rfl⟩
  have hnew := run_enterLoop_outer (P := P) (w := w) fn a.tmps ps assign body
  rw [← hro] at hnew
  obtain ⟨W1, hW1⟩ : ∃ W1, (w.alloc (.deferred (some []))).alloc (.loop (rec .ready)) = W1 := ⟨_, rfl⟩
  have hrr : rec .ready = { state := .ready, pending := none, fn := fn, tmps := a.tmps, params := ps, assign := assign, body := body, defers := w.heap.size } := by rw [hrec]
  rw [← hrr, hW1] at hnew
  have hb1 : RowKit.Below w.heap.size w W1 := by
    rw [← hW1]
    exact ((Below.refl _ w).alloc (Nat.le_refl _) _).alloc (by simp) _
  have hs1 : W1.heap.size = w.heap.size + 2 := by rw [← hW1]; simp
  have hl1 : W1.heap[D + 1]? = some (.loop (rec .ready)) := by
    rw [← hW1, hD]
    have := World.alloc_heap_new (w.alloc (.deferred (some []))) (.loop (rec .ready))
    rwa [World.size_alloc] at this
  have hk1 : W1.heap[D]? = some (.deferred (some [])) := by
    rw [← hW1, hD]
    exact (Below.heap_alloc _ _ _ (by simp)).trans (World.alloc_heap_new w _)
  refine ⟨w.heap.size + 1, _, W1, { target := .fn (.func gf) lb, args := #[.func (.yield (w.heap.size + 1)) #[] #[]] }, W1, gf, #[.func (.yield (w.heap.size + 1)) #[] #[]] ++ lb, W1, hnew, ?_, ?_, ?_, fun _ => h1, ?_⟩
  · simp only [resolve, hg]
    simp [go_sem]
  · intro f' hf'
    simp [Target.leads] at hf'
    subst hf'
    exact hFg
  · simp [invoke, go_sem, eg]
  · rw [← hD] at hT hseq hI hbody hdone ⊢
    refine (hseq W1 (hD ▸ hb1) (hD ▸ hs1) (D + 1) (fun pre W => I pre W ∧ W.heap[D + 1]? = some (.loop (rec .ready)) ∧ W.heap[D]? = some (.deferred (some []))) ?_ ?_ ⟨hI _ _ _ h0 (Off.of_below hb1), hl1, hk1⟩).mono ?_
    · rintro s W W' ⟨hi, hl, hk⟩ ho
      have h3 := (Array.getElem?_eq_some_iff.1 hl).1
      have h4 := (Array.getElem?_eq_some_iff.1 hk).1
      refine ⟨hI s W W' hi (ho.less fun k h => .inl h), (ho.block _ h3 fun h => ?_).trans hl, (ho.block _ h4 fun h => ?_).trans hk⟩
      · have := hT _ h; omega
      · have := hT _ h; omega
    · rintro pre x post W hx ⟨hi, hl, hk⟩ hM
      have h3 := (Array.getElem?_eq_some_iff.1 hl).1
      have hy := run_yield (P := P) (args := encs x) hl (by rw [hrec]; exact hps x)
      rw [hrec] at hy
      refine ⟨fn, _, assign, body, hy, roundIn_of_wpIn hfn (hassign _ x W _ ?_)⟩
      obtain ⟨W2, hW2⟩ : ∃ W2, W.putObj (D + 1) (.loop { rec .ready with state := .busy }) = W2 := ⟨_, rfl⟩
      have o2 : Off (fun k => T k ∨ k = D ∨ k = D + 1) W W2 := hW2 ▸ off_putObj W (D + 1) _ (.inr (.inr rfl))
      have l2 : W2.heap[D + 1]? = some (.loop { rec .ready with state := .busy }) := hW2 ▸ World.putObj_heap_same h3
      have k2 : W2.heap[D]? = some (.deferred (some [])) := hW2 ▸ (World.putObj_heap_other (by omega)).trans hk
      have e2 : ∀ k, k ≠ D + 1 → W2.heap[k]? = W.heap[k]? := fun k hne => hW2 ▸ World.putObj_heap_other hne
      have s2 : W2.heap.size = W.heap.size := by rw [← hW2]; simp
      refine ⟨W2, hW2 ▸ run_beginRound hl (by rw [hrec]), wpIn_mono (hbody _ pre x post W2 hx (hI _ _ _ hi o2) (by omega) (by omega)) ?_⟩
      rintro ex a3 W3 ⟨rfl, hi3, hs3, hk3⟩
      have l3 := (hk3 (D + 1) (.inr (.inr rfl))).trans l2
      have hr := run_endRound (P := P) none l3
      obtain ⟨W4, hW4⟩ : ∃ W4, W3.putObj (D + 1) (.loop (rec .ready)) = W4 := ⟨_, rfl⟩
      have hre : ({ { rec .ready with state := .busy } with state := if (none : Option Code).isNone then .ready else .done, pending := none } : Loop) = rec .ready := by rw [hrec]; rfl
      rw [hre, hW4] at hr
      have h5 : D + 1 < W3.heap.size := (Array.getElem?_eq_some_iff.1 l3).1
      have s4 : W4.heap.size = W3.heap.size := by rw [← hW4]; simp
      refine ⟨_, _, hr, rfl, ⟨hI _ _ _ hi3 (hW4 ▸ off_putObj W3 (D + 1) _ (.inr (.inr rfl))), hW4 ▸ World.putObj_heap_same h5, hW4 ▸ (World.putObj_heap_other (by omega)).trans ((hk3 D (.inr (.inl rfl))).trans k2)⟩, by omega, fun k hTk => ?_⟩
      have hne : k ≠ D + 1 := fun e => by have := hT k hTk; omega
      exact (hW4 ▸ World.putObj_heap_other hne : W4.heap[k]? = W3.heap[k]?).trans ((hk3 k (.inl hTk)).trans (e2 k hne))
    · rintro e W2 ⟨⟨v, rfl⟩, hi, hl, hk⟩
      have he := run_endLoop (P := P) hl (by rw [hrec]; simp)
      have hp : (rec .ready).pending = none := by rw [hrec]
      rw [hp] at he
      exact ⟨none, _, he, hdone _ (hI _ _ _ hi (off_putObj W2 (D + 1) _ (.inr (.inr rfl)))) ((World.putObj_heap_other (by omega)).trans hk)⟩
end Go.Proofs.YtpmiplhbppmboaaDoor
