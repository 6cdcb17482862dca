/-
  What is said beside rows that are written in place.
-/
import Derived.Test.YtdfbmfikhccajaaDoorMdSrc
import Derived.Test.YtdfbmfikhccajaaDoorJ30
namespace Go.Proofs.YtdfbmfikhccajaaDoor
open Go.RowKit

/-- All blocks but those of S are as they were. -/
structure Off (S : Nat → Prop) (w w' : World) : Prop where
  size : w.heap.size ≤ w'.heap.size
  block : ∀ k, k < w.heap.size → ¬ S k → w'.heap[k]? = w.heap[k]?
theorem Off.refl (S : Nat → Prop) (w : World) : Off S w w := ⟨Nat.le_refl _, fun _ _ _ => rfl⟩
theorem Off.trans {S : Nat → Prop} {a b c : World} (h : Off S a b) (k : Off S b c) : Off S a c :=
  ⟨Nat.le_trans h.size k.size, fun i hi hs => (k.block i (Nat.lt_of_lt_of_le hi h.size) hs).trans (h.block i hi hs)⟩
theorem Off.of_below {S : Nat → Prop} {w w' : World} (h : Below w.heap.size w w') : Off S w w' := ⟨h.size, fun k hk _ => h.block k hk⟩
theorem Off.set {S : Nat → Prop} {w : World} {g i : Nat} (v : Value) (h : S g) : Off S w (w.setCell ⟨g, i, none⟩ v) :=
  ⟨by simp, fun k _ hs => heap_setCell_other w ⟨g, i, none⟩ k v (fun e => hs (e ▸ h))⟩
theorem Off.less {S T : Nat → Prop} {w w' : World} (h : Off S w w') (hs : ∀ k, S k → T k) : Off T w w' := ⟨h.size, fun k hk ht => h.block k hk fun e => ht (hs k e)⟩
theorem Off.grown {S : Nat → Prop} {w w' : World} {row : Option Nat} (h : w.grownBy w' row) (hr : ∀ k, row = some k → S k) : Off S w w' :=
  ⟨h.size, fun k hk hs => h.block k hk fun e => hs (hr k e.symm)⟩

/-- So it stays, whatever is written to the rows of S. -/
def Kept (S : Nat → Prop) (w : World) (p : World → Prop) : Prop := ∀ w', Off S w w' → p w'
theorem Kept.now {S : Nat → Prop} {w : World} {p : World → Prop} (h : Kept S w p) : p w := h w (Off.refl _ _)
theorem Kept.next {S : Nat → Prop} {w w' : World} {p : World → Prop} (h : Kept S w p) (ho : Off S w w') : Kept S w' p := fun w2 h2 => h w2 (ho.trans h2)
theorem Kept.imp {S : Nat → Prop} {w : World} {p q : World → Prop} (h : Kept S w p) (hi : ∀ w', p w' → q w') : Kept S w q := fun w2 h2 => hi w2 (h w2 h2)

/-- What an elder world says stays, where the rows of S are younger. -/
theorem off_below {S : Nat → Prop} {w0 w w' : World} (h0 : Below w0.heap.size w0 w) (hS : ∀ k, S k → w0.heap.size ≤ k) (h : Off S w w') : w0.heap.size ≤ w'.heap.size ∧ ∀ b o, b < w0.heap.size → w'.cell? ⟨b, o, none⟩ = w0.cell? ⟨b, o, none⟩ :=
  ⟨Nat.le_trans h0.size h.size, fun b o hb => World.cell?_of_block (a := ⟨b, o, none⟩) ((h.block b (Nat.lt_of_lt_of_le hb h0.size) fun e => by have := hS b e; omega).trans (h0.block b hb))⟩
theorem kept_ints {S : Nat → Prop} {w0 w : World} {v : Value} {l : List Int} (h : IntsAt w0 v l) (h0 : Below w0.heap.size w0 w) (hS : ∀ k, S k → w0.heap.size ≤ k) : Kept S w (fun w' => IntsAt w' v l) := fun w' ho => by
  obtain ⟨h1, h2⟩ := off_below h0 hS ho
  exact h.mono h1 h2
theorem kept_cn {S : Nat → Prop} {w0 w : World} {c : Md.Cn} {vt vx vb vr : Value} (h : CnAt w0 c vt vx vb vr) (h0 : Below w0.heap.size w0 w) (hS : ∀ k, S k → w0.heap.size ≤ k) : Kept S w (fun w' => CnAt w' c vt vx vb vr) := fun w' ho => by
  obtain ⟨h1, h2⟩ := off_below h0 hS ho
  refine ⟨?_, h.x.mono h1 h2, h.xcap, h.b.mono h1 h2, ?_⟩
  · obtain ⟨a, cap, hv, hl, hc⟩ := h.t
    refine ⟨a, cap, hv, hl, fun hp => ?_⟩
    obtain ⟨b, off, ha, hb, hj⟩ := hc hp
    exact ⟨b, off, ha, by omega, fun j hjl => ⟨(h2 _ _ hb).trans (hj j hjl).1, (h2 _ _ hb).trans (hj j hjl).2⟩⟩
  · obtain ⟨a, cap, hv, hl, hc⟩ := h.r
    refine ⟨a, cap, hv, hl, fun hp => ?_⟩
    obtain ⟨b, off, ha, hb, hj⟩ := hc hp
    refine ⟨b, off, ha, by omega, fun j hjl => ?_⟩
    obtain ⟨u, hu, hi⟩ := hj j hjl
    exact ⟨u, (h2 _ _ hb).trans hu, hi.mono h1 h2⟩

/-- Rows of the call's own. -/
theorem own_cells {w : World} {B : Nat} {e : TypeId} {size : Nat} {v : Value} {n : Nat} {xs : List Value} (h : w.ownsRow B e size v n xs) : (v = .slice none 0 0 ∧ n = 0) ∨ ∃ g cap, v = .slice (some ⟨g, 0, none⟩) n cap ∧ B ≤ g ∧ g < w.heap.size ∧ n ≤ cap ∧ ∀ j u, xs[j]? = some u → w.cell? ⟨g, j, none⟩ = some u := by
  rcases h.2 with h1 | ⟨g, cap, cur, hv, hg, hc, hm, _, _, ht⟩
  · exact .inl h1
  · refine .inr ⟨g, cap, hv, hg, (Array.getElem?_eq_some_iff.1 hc).1, hm, fun j u hj => ?_⟩
    have hjl : j < n * size := by rw [← h.1]; exact (List.getElem?_eq_some_iff.1 hj).1
    rw [← ht, List.getElem?_take, if_pos hjl] at hj
    have hj3 : cur[j]? = some u := by simpa using hj
    simp [World.cell?, hc, hj3]
theorem own_off {S : Nat → Prop} {w w' : World} {B : Nat} {e : TypeId} {size : Nat} {v : Value} {n : Nat} {xs : List Value} (h : w.ownsRow B e size v n xs) (hS : ∀ g, v.ownBlock = some g → ¬ S g) (ho : Off S w w') : w'.ownsRow B e size v n xs := by
  refine ⟨h.1, ?_⟩
  rcases h.2 with h1 | ⟨g, cap, cur, hv, hg, hc, h2⟩
  · exact .inl h1
  · refine .inr ⟨g, cap, cur, hv, hg, ?_, h2⟩
    rw [ho.block g (Array.getElem?_eq_some_iff.1 hc).1 (hS g (by rw [hv]; rfl))]
    exact hc
theorem own_ints' {w : World} {B : Nat} {e : TypeId} {v : Value} {l : List Int} (h : w.ownsRow B e 1 v l.length (l.map (.int .i64))) (hm : l.length ≤ maxLen) : IntsAt w v l := by
  rcases own_cells h with ⟨rfl, hn⟩ | ⟨g, cap, rfl, _, hg, _, hc⟩
  · exact ⟨none, 0, by rw [hn], hm, fun h0 => by omega⟩
  · exact ⟨_, cap, rfl, hm, fun _ => ⟨g, 0, rfl, hg, fun j hj => by rw [Nat.zero_add]; exact hc j _ (by simp [hj])⟩⟩
theorem own_terms {w : World} {B : Nat} {e : TypeId} {v : Value} {l : List (Int × Int)} (h : w.ownsRow B e 2 v l.length (termCells l)) (hm : l.length ≤ maxLen) : TermsAt w v l := by
  rcases own_cells h with ⟨rfl, hn⟩ | ⟨g, cap, rfl, _, hg, _, hc⟩
  · exact ⟨none, 0, by rw [hn], hm, fun h0 => by omega⟩
  · exact ⟨_, cap, rfl, hm, fun _ => ⟨g, 0, rfl, hg, fun j hj => by rw [Nat.zero_add]; exact ⟨hc _ _ (termCells_get l j hj).1, hc _ _ (termCells_get l j hj).2⟩⟩⟩
theorem own_vars {w : World} {B : Nat} {e : TypeId} {v : Value} {l : List Md.Vr} (h : w.ownsRow B e 3 v l.length (varCells l)) (hm : l.length ≤ maxLen) (hn : ∀ x ∈ l, x.name.size ≤ maxLen) : VarsAt w v l := by
  rcases own_cells h with ⟨rfl, h0⟩ | ⟨g, cap, rfl, _, hg, _, hc⟩
  · exact ⟨none, 0, by rw [h0], hm, hn, fun h1 => by omega⟩
  · exact ⟨_, cap, rfl, hm, hn, fun _ => ⟨g, 0, rfl, hg, fun j hj => by rw [Nat.zero_add]; exact ⟨hc _ _ (varCells_get l j hj).1, hc _ _ (varCells_get l j hj).2.1, hc _ _ (varCells_get l j hj).2.2⟩⟩⟩
theorem own_cap {w : World} {B : Nat} {e : TypeId} {size : Nat} {v : Value} {n : Nat} {xs : List Value} (h : w.ownsRow B e size v n xs) : ∀ a k cp, v = .slice a k cp → k ≤ cp := by
  intro a k cp hv
  rcases own_cells h with ⟨rfl, _⟩ | ⟨g, cap, rfl, _, _, hm, _⟩
  · injection hv with _ e2 e3; omega
  · injection hv with _ e2 e3; omega
theorem keptown_ints {S : Nat → Prop} {w : World} {B : Nat} {e : TypeId} {v : Value} {l : List Int} (h : w.ownsRow B e 1 v l.length (l.map (.int .i64))) (hS : ∀ g, B ≤ g → ¬ S g) (hm : l.length ≤ maxLen) : Kept S w (fun w' => IntsAt w' v l) := fun _ ho => own_ints' (own_off h (fun g hg => hS g (h.lt g hg).1) ho) hm
theorem keptown_terms {S : Nat → Prop} {w : World} {B : Nat} {e : TypeId} {v : Value} {l : List (Int × Int)} (h : w.ownsRow B e 2 v l.length (termCells l)) (hS : ∀ g, B ≤ g → ¬ S g) (hm : l.length ≤ maxLen) : Kept S w (fun w' => TermsAt w' v l) := fun _ ho => own_terms (own_off h (fun g hg => hS g (h.lt g hg).1) ho) hm
theorem keptown_vars {S : Nat → Prop} {w : World} {B : Nat} {e : TypeId} {v : Value} {l : List Md.Vr} (h : w.ownsRow B e 3 v l.length (varCells l)) (hS : ∀ g, B ≤ g → ¬ S g) (hm : l.length ≤ maxLen) (hn : ∀ x ∈ l, x.name.size ≤ maxLen) : Kept S w (fun w' => VarsAt w' v l) := fun _ ho => own_vars (own_off h (fun g hg => hS g (h.lt g hg).1) ho) hm hn
end Go.Proofs.YtdfbmfikhccajaaDoor
