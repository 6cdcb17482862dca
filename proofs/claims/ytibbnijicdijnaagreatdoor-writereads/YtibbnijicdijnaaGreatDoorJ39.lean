/-
  Put together: PfMf, PfRng.
-/
import Derived.Test.YtibbnijicdijnaaGreatDoorJ38
import Derived.RangeFuncNested
import Derived.RangeFuncBound
import Derived.RangeFuncCalls
import Derived.RangeFuncLeaves
import Derived.Shelf.Abstract
import Derived.Shelf.RegionOpen
import Derived.OwnWalkIn
import Derived.TacticsInMore
import Derived.LoopNIn
import Derived.LoopIn
import Derived.Test.YtibbnijicdijnaaGreatDoorJ36
namespace Go.Proofs.YtibbnijicdijnaaGreatDoor
open Go.RowKit

theorem forms_kind (f : FmL) (hf : f ∈ formsL) (d : SL) : kindT formsL wrF f.1 d = f.2.1 :: wrF f.2.2.2 d := by
  simp only [formsL, List.mem_cons, List.not_mem_nil, or_false] at hf
  rcases hf with rfl | rfl | rfl | rfl | rfl | rfl | rfl | rfl | rfl | rfl | rfl | rfl <;> simp [kindT, formsL]
theorem claims_kind (f : FmL) (hf : f ∈ claimsL) (d : SL) : kindT claimsL wrC f.1 d = f.2.1 :: wrC f.2.2.2 d := by
  simp only [claimsL, List.mem_cons, List.not_mem_nil, or_false] at hf
  rcases hf with rfl | rfl | rfl | rfl | rfl <;> simp [kindT, claimsL]
theorem forms_word (f : FmL) (hf : f ∈ formsL) : f.2.1 = wordsP (fmW f) [] ∧ f.2.1 ≠ [] := by
  simp only [formsL, List.mem_cons, List.not_mem_nil, or_false] at hf
  rcases hf with rfl | rfl | rfl | rfl | rfl | rfl | rfl | rfl | rfl | rfl | rfl | rfl <;> exact ⟨by kernel_rfl, by simp⟩
theorem claims_word (f : FmL) (hf : f ∈ claimsL) : fmW f = [f.2.1] := by
  simp only [claimsL, List.mem_cons, List.not_mem_nil, or_false] at hf
  rcases hf with rfl | rfl | rfl | rfl | rfl <;> kernel_rfl
theorem wrC_is (f : FmL) (hf : f ∈ claimsL) {M : List (List UInt8)} {e : SL} (h : BdC f.2.2.1 M e) (d : SL) (hi : d.ids = e.ids) (hl : d.low = e.low) (hh : d.high = e.high) : wrC f.2.2.2 d = M := by
  simp only [claimsL, List.mem_cons, List.not_mem_nil, or_false] at hf
  rcases hf with rfl | rfl | rfl | rfl | rfl
  · exact h.1.symm
  · rcases h with ⟨rfl, rfl⟩ | ⟨i, rfl, _, rfl⟩
    · show leanT d.ids = _; rw [hi]; rfl
    · show leanT d.ids = _; rw [hi]; rfl
  · exact h.1.symm
  · rcases h with ⟨a, b, rfl, _, _, rfl⟩ | ⟨a, i, b, rfl, _, _, _, rfl⟩
    · show (d.low :: leanT d.ids) ++ [d.high] = _; rw [hi, hl, hh]; rfl
    · show (d.low :: leanT d.ids) ++ [d.high] = _; rw [hi, hl, hh]; rfl
  · obtain ⟨a, i, rfl, _, _, rfl⟩ := h
    show d.high :: leanT d.ids = _; rw [hi, hh]; rfl
theorem wrF_is (f : FmL) (hf : f ∈ formsL) {M : List (List UInt8)} {e : SL} (h : BdF f.2.2.1 M e) : wrF f.2.2.2 { e with k := f.1 } = M := by
  simp only [formsL, List.mem_cons, List.not_mem_nil, or_false] at hf
  rcases hf with rfl | rfl | rfl | rfl | rfl | rfl | rfl | rfl | rfl | rfl | rfl | rfl
  · exact h.1.symm
  · obtain ⟨n, rfl, _, rfl⟩ := h; rfl
  · obtain ⟨F, _, hr, rfl⟩ := h
    show opsT F = M
    have := (runW_is M [] F hr).1
    rw [this]
    rfl
  · obtain ⟨P, deg, ids, rfl, _, _, _, rfl⟩ := h; rfl
  · obtain ⟨i, P, deg, rfl, _, _, _, rfl⟩ := h; rfl
  · obtain ⟨l, rfl, _, rfl⟩ := h; rfl
  · obtain ⟨l, rfl, _, rfl⟩ := h; rfl
  · obtain ⟨i, ids, rfl, _, _, rfl⟩ := h; rfl
  · exact h.1.symm
  · exact h.1.symm
  · obtain ⟨g, hg, N, e', rfl, hB, rfl⟩ := h
    show kindT claimsL wrC g.1 _ = _
    rw [claims_kind g hg, claims_word g hg]
    exact congrArg (List.cons g.2.1) (wrC_is g hg hB _ rfl rfl rfl)
  · exact h.1.symm
theorem Rgt.line {L : List (List UInt8)} {d : SL} (h : Rgt L d) : lnT d = wordsP L [] ∧ lnT d ≠ [] ∧ tot (lnW d) = (lnT d).length + 1 := by
  have hg := h.good
  obtain ⟨f, hf, M, e, rfl, hb, rfl⟩ := h
  have e1 : lnW { e with k := f.1 } = f.2.1 :: M := by
    show kindT formsL wrF f.1 _ = _
    rw [forms_kind f hf, wrF_is f hf hb]
  obtain ⟨w1, w2⟩ := forms_word f hf
  have hlen : ∀ M : List (List UInt8), (spW M).length = tot M := by
    intro M
    induction M with
    | nil => rfl
    | cons x M ih => simp [spW, tot] at ih ⊢; omega
  have e2 : lnT { e with k := f.1 } = f.2.1 ++ spW M := by unfold lnT; rw [e1, words_first _ _ w2]
  refine ⟨?_, ?_, ?_⟩
  · rw [e2, words_app, ← w1, words_sp _ _ w2]
  · rw [e2]; simp [w2]
  · rw [e1, e2, List.length_append, hlen]
    simp [tot]
    omega
theorem words_mem : ∀ (L : List (List UInt8)) (l : List UInt8) (c : UInt8), c ∈ wordsP L l → c ∈ l ∨ c = 32 ∨ ∃ x ∈ L, c ∈ x := by
  intro L
  induction L with
  | nil => intro l c h; exact .inl h
  | cons x L ih =>
    intro l c h
    rcases ih (wordP l x) c h with h1 | h1 | ⟨y, hy, h1⟩
    · unfold wordP at h1
      split at h1
      · rcases List.mem_append.1 h1 with h1 | h1
        · exact .inl h1
        · rcases List.mem_cons.1 h1 with h1 | h1
          · exact .inr (.inl h1)
          · exact .inr (.inr ⟨x, List.mem_cons_self, h1⟩)
      · rcases List.mem_append.1 h1 with h1 | h1
        · exact .inl h1
        · exact .inr (.inr ⟨x, List.mem_cons_self, h1⟩)
    · exact .inr (.inl h1)
    · exact .inr (.inr ⟨y, List.mem_cons_of_mem _ hy, h1⟩)
/-- A right step's line has no newline. -/
theorem Rgt.no10 {L : List (List UInt8)} {d : SL} (h : Rgt L d) : 10 ∉ lnT d := by
  intro hc
  rw [h.line.1] at hc
  rcases words_mem L [] 10 hc with h1 | h1 | ⟨x, hx, h1⟩
  · exact absurd h1 List.not_mem_nil
  · exact absurd h1 (by decide)
  · exact ((h.good.1 x hx).2 10 h1).2 rfl
theorem Rgt.tk {L : List (List UInt8)} {d : SL} (h : Rgt L d) : Tk (lnT d) L := by
  rw [h.line.1]
  cases L with
  | nil => exact absurd rfl h.good.2
  | cons x L => exact tk_line x L fun y hy => (h.good.1 y hy).pw
/-- What a right step's line says. -/
theorem Rgt.parse {L : List (List UInt8)} {d : SL} (h : Rgt L d) : parseP (lnT d) = (d, 0) := by
  unfold parseP
  rw [right_read h h.tk]
theorem parse_right {x : List UInt8} {d : SL} (h : parseP x = (d, 0)) (h0 : ∀ e, (readP x).2 = some e → e ≠ 0) : ∃ L, Rgt L d ∧ (Tk x L ∨ L = [[42]]) := by
  unfold parseP at h
  cases hr : (readP x).2 with
  | some e => rw [hr] at h; exact absurd (Prod.ext_iff.1 h).2 (h0 e hr)
  | none =>
    rw [hr] at h
    exact read_right (Prod.ext (Prod.ext_iff.1 h).1 hr)
theorem Rgt.len {L : List (List UInt8)} {d : SL} (h : Rgt L d) {x : List UInt8} (hx : Tk x L ∨ L = [[42]]) : (lnT d).length ≤ x.length + 1 := by
  have e : (lnT d).length + 1 ≤ tot L := by
    rw [h.line.1]
    have hne := h.good
    cases L with
    | nil => exact absurd rfl hne.2
    | cons y L =>
      have hlen : ∀ M : List (List UInt8), (spW M).length = tot M := by
        intro M
        induction M with
        | nil => rfl
        | cons x M ih => simp [spW, tot] at ih ⊢; omega
      rw [words_first _ _ (hne.1 y List.mem_cons_self).1, List.length_append, hlen]
      simp [tot]
      omega
  rcases hx with hx | hx
  · have := (tk_len L x hx).1
    have := drop_le x
    omega
  · rw [hx] at e
    have : tot [[42]] = 2 := rfl
    omega
end Go.Proofs.YtibbnijicdijnaaGreatDoor

namespace Go.Proofs.YtibbnijicdijnaaGreatDoor
open Go Go.RowKit

/-- All but the blocks of S stays. -/
structure Ofw (S : Nat → Prop) (w w' : World) : Prop where
  os : w'.os = w.os
  tape : w'.tape = w.tape
  output : w'.output = w.output
  size : w.heap.size ≤ w'.heap.size
  block : ∀ k, k < w.heap.size → ¬ S k → w'.heap[k]? = w.heap[k]?
theorem Ofw.refl (S : Nat → Prop) (w : World) : Ofw S w w := ⟨rfl, rfl, rfl, Nat.le_refl _, fun _ _ _ => rfl⟩
theorem Ofw.trans {S : Nat → Prop} {a b c : World} (h : Ofw S a b) (k : Ofw S b c) : Ofw S a c :=
  ⟨k.os.trans h.os, k.tape.trans h.tape, k.output.trans h.output, Nat.le_trans h.size k.size, fun i hi hs => (k.block i (Nat.lt_of_lt_of_le hi h.size) hs).trans (h.block i hi hs)⟩
theorem Ofw.of_below {S : Nat → Prop} {w w' : World} (h : Below w.heap.size w w') : Ofw S w w' := ⟨h.os, h.tape, h.output, h.size, fun k hk _ => h.block k hk⟩
theorem Ofw.set {S : Nat → Prop} {w : World} {g i : Nat} (v : Value) (h : S g) : Ofw S w (w.setCell ⟨g, i, none⟩ v) :=
  ⟨rfl, rfl, rfl, by simp [World.setCell], fun k _ hs => Below.heap_setCell _ ⟨g, i, none⟩ _ k (fun e => hs (e ▸ h))⟩
theorem Ofw.less {S T : Nat → Prop} {w w' : World} (h : Ofw S w w') (hs : ∀ k, S k → T k) : Ofw T w w' := ⟨h.os, h.tape, h.output, h.size, fun k hk ht => h.block k hk fun e => ht (hs k e)⟩
theorem Ofw.below {S : Nat → Prop} {B : Nat} {w w' : World} (h : Ofw S w w') (hS : ∀ k, S k → B ≤ k) (hB : B ≤ w.heap.size) : Below B w w' := ⟨h.os, h.tape, h.output, h.size, fun k hk => h.block k (Nat.lt_of_lt_of_le hk hB) fun e => by have := hS k e; omega⟩

/-- An iterator that gives xs until a round says no; T: its own blocks, which no round may touch; at a round memory has M blocks at least. -/
def SeqX {α : Type} (F : Fence) (n : Nat) (P : Program) (g : Nat) (lb : Array Value) (encs : α → Array Value) (T : Nat → Prop) (M : Nat) (xs : List α) (w : World) : Prop :=
  ∀ (l : Nat) (J J' : List α → World → Prop), (∀ s W W', J s W → Ofw T W W' → J s W') → (∀ s W W', J' s W → Ofw T W W' → J' s W') →
    (∀ pre x post W, xs = pre ++ x :: post → J pre W → M ≤ W.heap.size → YieldAt F (n - 1) P l (encs x) W fun e W' => ((e = .returned (.bool true) ∧ J (pre ++ [x]) W') ∨ (e = .returned (.bool false) ∧ J' (pre ++ [x]) W')) ∧ W.heap.size ≤ W'.heap.size ∧ ∀ k, T k → W'.heap[k]? = W.heap[k]?) →
    J [] w → CallsIn F n P g (#[.func (.yield l) #[] #[]] ++ lb) w fun e W' => (∃ v, e = .returned v) ∧ (J xs W' ∨ ∃ pre x post, xs = pre ++ x :: post ∧ J' (pre ++ [x]) W')

theorem off_putObj {S : Nat → Prop} (W : World) (k : Nat) (o : Obj) (hk : S k) : Ofw S W (W.putObj k o) := ⟨rfl, rfl, rfl, by simp, fun i _ hi => World.putObj_heap_other (fun e => hi (e ▸ hk))⟩

theorem range_stop {α : Type} {F : Fence} {n : Nat} {P : Program} {g : Operand} {ps : Array Tmp} {assign body : Code} {Q : Exit → Act → World → Prop} {a : Act} {w : World}
    (hro : F.round = none) (h1 : 1 ≤ n) {gf : Nat} {lb : Array Value} (hg : a.eval g = .func (.func gf) #[] lb) (hFg : F.fn gf) (eg : ∀ args w, (callFunc gf args).run P w = .ok (.enter gf args) w)
    {encs : α → Array Value} {T : Nat → Prop} {M : Nat} {xs : List α} (hT : ∀ k, T k → k < w.heap.size ∨ w.heap.size + 2 ≤ k)
    (hseq : ∀ W, RowKit.Below w.heap.size w W → W.heap.size = w.heap.size + 2 → SeqX F (n - 1) P gf lb encs T M xs W) (hps : ∀ x, (encs x).size = ps.size)
    (I I' : List α → World → Prop) (hI : ∀ s W W', I s W → Ofw (fun k => T k ∨ k = w.heap.size ∨ k = w.heap.size + 1) W W' → I s W') (hI' : ∀ s W W', I' s W → Ofw (fun k => T k ∨ k = w.heap.size ∨ k = w.heap.size + 1) W W' → I' s W') (h0 : I [] w) (a₁ : α → Act)
    (hassign : ∀ (l : Nat) (x : α) (W : World) (K : Act → World → Prop), K (a₁ x) W → assign.wpIn (F.inRound l) (n - 1 - 1) P (Exit.then K (fun _ _ _ => False)) { tmps := (ps.zip (encs x)).foldl (fun t (p, v) => t.setIfInBounds p v) a.tmps, defers := [] } W)
    (hbody : ∀ (l : Nat) (pre : List α) (x : α) (post : List α) (W : World), xs = pre ++ x :: post → I pre W → M ≤ W.heap.size → w.heap.size + 2 ≤ W.heap.size →
      body.wpIn (F.inRound l) (n - 1 - 1) P (fun ex _ W' => ((ex = .normal ∧ I (pre ++ [x]) W') ∨ (ex = .ret ∧ I' (pre ++ [x]) W')) ∧ W.heap.size ≤ W'.heap.size ∧ ∀ k, (T k ∨ k = w.heap.size ∨ k = w.heap.size + 1) → W'.heap[k]? = W.heap[k]?) (a₁ x) W)
    (hdone : ∀ (W : World), I xs W → W.heap[w.heap.size]? = some (.deferred (some [])) → Q .normal { a with defers := { target := .collected w.heap.size, args := #[] } :: a.defers } W)
    (hstop : ∀ (pre : List α) (x : α) (post : List α) (W : World), xs = pre ++ x :: post → I' (pre ++ [x]) W → W.heap[w.heap.size]? = some (.deferred (some [])) → Q .ret { a with defers := { target := .collected w.heap.size, args := #[] } :: a.defers } W) :
    (Code.rangeFunc g ps assign body).wpIn F n P Q a w := by
  refine wpIn_rangeFunc fun fn hfn => ?_
  obtain ⟨rec, hrec⟩ : ∃ rec : LoopState → Option Code → Loop, rec = fun st p => { state := st, pending := p, fn := fn, tmps := a.tmps, params := ps, assign := assign, body := body, defers := w.heap.size } := ⟨_, rfl⟩
  obtain ⟨D, hD⟩ : ∃ D, D = w.heap.size := ⟨_, rfl⟩
  have hnew := run_enterLoop_outer (P := P) (w := w) fn a.tmps ps assign body
  rw [← hro] at hnew
  obtain ⟨W1, hW1⟩ : ∃ W1, (w.alloc (.deferred (some []))).alloc (.loop (rec .ready none)) = W1 := ⟨_, rfl⟩
  have hrr : rec .ready none = { state := .ready, pending := none, fn := fn, tmps := a.tmps, params := ps, assign := assign, body := body, defers := w.heap.size } := by rw [hrec]
  rw [← hrr, hW1] at hnew
  have hb1 : RowKit.Below w.heap.size w W1 := by
    rw [← hW1]
    exact ((Below.refl _ w).alloc (Nat.le_refl _) _).alloc (by simp) _
  have hs1 : W1.heap.size = w.heap.size + 2 := by rw [← hW1]; simp
  have hl1 : W1.heap[D + 1]? = some (.loop (rec .ready none)) := by
    rw [← hW1, hD]
    have := World.alloc_heap_new (w.alloc (.deferred (some []))) (.loop (rec .ready none))
    rwa [World.size_alloc] at this
  have hk1 : W1.heap[D]? = some (.deferred (some [])) := by
    rw [← hW1, hD]
    exact (Below.heap_alloc _ _ _ (by simp)).trans (World.alloc_heap_new w _)
  refine ⟨w.heap.size + 1, _, W1, { target := .fn (.func gf) lb, args := #[.func (.yield (w.heap.size + 1)) #[] #[]] }, W1, gf, #[.func (.yield (w.heap.size + 1)) #[] #[]] ++ lb, W1, hnew, ?_, ?_, ?_, fun _ => h1, ?_⟩
  · simp only [resolve, hg]
    simp [go_sem]
  · intro f' hf'
    simp [Target.leads] at hf'
    subst hf'
    exact hFg
  · simp [invoke, go_sem, eg]
  · rw [← hD] at hT hseq hI hI' hbody hdone hstop ⊢
    refine (hseq W1 (hD ▸ hb1) (hD ▸ hs1) (D + 1) (fun pre W => I pre W ∧ W.heap[D + 1]? = some (.loop (rec .ready none)) ∧ W.heap[D]? = some (.deferred (some []))) (fun pre W => I' pre W ∧ W.heap[D + 1]? = some (.loop (rec .done (some .ret))) ∧ W.heap[D]? = some (.deferred (some []))) ?_ ?_ ?_ ⟨hI _ _ _ h0 (Ofw.of_below hb1), hl1, hk1⟩).mono ?_
    · rintro s W W' ⟨hi, hl, hk⟩ ho
      have h3 := (Array.getElem?_eq_some_iff.1 hl).1
      have h4 := (Array.getElem?_eq_some_iff.1 hk).1
      refine ⟨hI s W W' hi (ho.less fun k h => .inl h), (ho.block _ h3 fun h => ?_).trans hl, (ho.block _ h4 fun h => ?_).trans hk⟩
      · have := hT _ h; omega
      · have := hT _ h; omega
    · rintro s W W' ⟨hi, hl, hk⟩ ho
      have h3 := (Array.getElem?_eq_some_iff.1 hl).1
      have h4 := (Array.getElem?_eq_some_iff.1 hk).1
      refine ⟨hI' s W W' hi (ho.less fun k h => .inl h), (ho.block _ h3 fun h => ?_).trans hl, (ho.block _ h4 fun h => ?_).trans hk⟩
      · have := hT _ h; omega
      · have := hT _ h; omega
    · rintro pre x post W hx ⟨hi, hl, hk⟩ hM
      have h3 := (Array.getElem?_eq_some_iff.1 hl).1
      have hy := run_yield (P := P) (args := encs x) hl (by rw [hrec]; exact hps x)
      rw [hrec] at hy
      refine ⟨fn, _, assign, body, hy, roundIn_of_wpIn hfn (hassign _ x W _ ?_)⟩
      obtain ⟨W2, hW2⟩ : ∃ W2, W.putObj (D + 1) (.loop { rec .ready none with state := .busy }) = W2 := ⟨_, rfl⟩
      have o2 : Ofw (fun k => T k ∨ k = D ∨ k = D + 1) W W2 := hW2 ▸ off_putObj W (D + 1) _ (.inr (.inr rfl))
      have l2 : W2.heap[D + 1]? = some (.loop { rec .ready none with state := .busy }) := hW2 ▸ World.putObj_heap_same h3
      have k2 : W2.heap[D]? = some (.deferred (some [])) := hW2 ▸ (World.putObj_heap_other (by omega)).trans hk
      have e2 : ∀ k, k ≠ D + 1 → W2.heap[k]? = W.heap[k]? := fun k hne => hW2 ▸ World.putObj_heap_other hne
      have s2 : W2.heap.size = W.heap.size := by rw [← hW2]; simp
      refine ⟨W2, hW2 ▸ run_beginRound hl (by rw [hrec]), wpIn_mono (hbody _ pre x post W2 hx (hI _ _ _ hi o2) (by omega) (by omega)) ?_⟩
      rintro ex a3 W3 ⟨hex, hs3, hk3⟩
      have l3 := (hk3 (D + 1) (.inr (.inr rfl))).trans l2
      have h5 : D + 1 < W3.heap.size := (Array.getElem?_eq_some_iff.1 l3).1
      have fin : ∀ (st : LoopState) (p : Option Code), (W3.putObj (D + 1) (.loop (rec st p))).heap[D + 1]? = some (.loop (rec st p)) ∧ (W3.putObj (D + 1) (.loop (rec st p))).heap[D]? = some (.deferred (some [])) ∧ W.heap.size ≤ (W3.putObj (D + 1) (.loop (rec st p))).heap.size ∧ ∀ k, T k → (W3.putObj (D + 1) (.loop (rec st p))).heap[k]? = W.heap[k]? := fun st p => by
        refine ⟨World.putObj_heap_same h5, (World.putObj_heap_other (by omega)).trans ((hk3 D (.inr (.inl rfl))).trans k2), by simp; omega, fun k hTk => ?_⟩
        have hne : k ≠ D + 1 := fun e => by have := hT k hTk; omega
        exact (World.putObj_heap_other hne).trans ((hk3 k (.inl hTk)).trans (e2 k hne))
      rcases hex with ⟨rfl, hi3⟩ | ⟨rfl, hi3⟩
      · have hr := run_endRound (P := P) none l3
        have hre : ({ { rec .ready none with state := .busy } with state := if (none : Option Code).isNone then .ready else .done, pending := none } : Loop) = rec .ready none := by rw [hrec]; rfl
        rw [hre] at hr
        obtain ⟨f1, f2, f3, f4⟩ := fin .ready none
        exact ⟨_, _, hr, .inl ⟨rfl, hI _ _ _ hi3 (off_putObj W3 (D + 1) _ (.inr (.inr rfl))), f1, f2⟩, f3, f4⟩
      · have hr := run_endRound (P := P) (some .ret) l3
        have hre : ({ { rec .ready none with state := .busy } with state := if (some Code.ret : Option Code).isNone then .ready else .done, pending := some .ret } : Loop) = rec .done (some .ret) := by rw [hrec]; rfl
        rw [hre] at hr
        obtain ⟨f1, f2, f3, f4⟩ := fin .done (some .ret)
        exact ⟨_, _, hr, .inr ⟨rfl, hI' _ _ _ hi3 (off_putObj W3 (D + 1) _ (.inr (.inr rfl))), f1, f2⟩, f3, f4⟩
    · rintro e W2 ⟨⟨v, rfl⟩, (⟨hi, hl, hk⟩ | ⟨pre, x, post, hx, hi, hl, hk⟩)⟩
      · have he := run_endLoop (P := P) hl (by rw [hrec]; simp)
        have hp : (rec .ready none).pending = none := by rw [hrec]
        rw [hp] at he
        exact ⟨none, _, he, hdone _ (hI _ _ _ hi (off_putObj W2 (D + 1) _ (.inr (.inr rfl)))) ((World.putObj_heap_other (by omega)).trans hk)⟩
      · have he := run_endLoop (P := P) hl (by rw [hrec]; simp)
        have hp : (rec .done (some .ret)).pending = some .ret := by rw [hrec]
        rw [hp] at he
        exact ⟨some .ret, _, he, wpIn_ret (hstop pre x post _ hx (hI' _ _ _ hi (off_putObj W2 (D + 1) _ (.inr (.inr rfl)))) ((World.putObj_heap_other (by omega)).trans hk))⟩
end Go.Proofs.YtibbnijicdijnaaGreatDoor
