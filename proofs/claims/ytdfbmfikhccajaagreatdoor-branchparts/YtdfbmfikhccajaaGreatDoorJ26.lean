/-
  Put together: MdOff, MdCopyM.
-/
import Derived.Test.YtdfbmfikhccajaaGreatDoorMdSrc
import Derived.Test.YtdfbmfikhccajaaGreatDoorJ25
namespace Go.Proofs.YtdfbmfikhccajaaGreatDoor
open Go.RowKit

/-- All blocks but those of S are as they were. -/
structure Off (S : Nat → Prop) (w w' : World) : Prop where
  size : w.heap.size ≤ w'.heap.size
  block : ∀ k, k < w.heap.size → ¬ S k → w'.heap[k]? = w.heap[k]?
theorem Off.refl (S : Nat → Prop) (w : World) : Off S w w := ⟨Nat.le_refl _, fun _ _ _ => rfl⟩
theorem Off.trans {S : Nat → Prop} {a b c : World} (h : Off S a b) (k : Off S b c) : Off S a c :=
  ⟨Nat.le_trans h.size k.size, fun i hi hs => (k.block i (Nat.lt_of_lt_of_le hi h.size) hs).trans (h.block i hi hs)⟩
theorem Off.of_below {S : Nat → Prop} {w w' : World} (h : Below w.heap.size w w') : Off S w w' := ⟨h.size, fun k hk _ => h.block k hk⟩
theorem Off.set {S : Nat → Prop} {w : World} {g i : Nat} (v : Value) (h : S g) : Off S w (w.setCell ⟨g, i, none⟩ v) :=
  ⟨by simp, fun k _ hs => heap_setCell_other w ⟨g, i, none⟩ k v (fun e => hs (e ▸ h))⟩
theorem Off.less {S T : Nat → Prop} {w w' : World} (h : Off S w w') (hs : ∀ k, S k → T k) : Off T w w' := ⟨h.size, fun k hk ht => h.block k hk fun e => ht (hs k e)⟩
theorem Off.grown {S : Nat → Prop} {w w' : World} {row : Option Nat} (h : w.grownBy w' row) (hr : ∀ k, row = some k → S k) : Off S w w' :=
  ⟨h.size, fun k hk hs => h.block k hk fun e => hs (hr k e.symm)⟩

/-- So it stays, whatever is written to the rows of S. -/
def Kept (S : Nat → Prop) (w : World) (p : World → Prop) : Prop := ∀ w', Off S w w' → p w'
theorem Kept.now {S : Nat → Prop} {w : World} {p : World → Prop} (h : Kept S w p) : p w := h w (Off.refl _ _)
theorem Kept.next {S : Nat → Prop} {w w' : World} {p : World → Prop} (h : Kept S w p) (ho : Off S w w') : Kept S w' p := fun w2 h2 => h w2 (ho.trans h2)
theorem Kept.imp {S : Nat → Prop} {w : World} {p q : World → Prop} (h : Kept S w p) (hi : ∀ w', p w' → q w') : Kept S w q := fun w2 h2 => hi w2 (h w2 h2)

/-- What an elder world says stays, where the rows of S are younger. -/
theorem off_below {S : Nat → Prop} {w0 w w' : World} (h0 : Below w0.heap.size w0 w) (hS : ∀ k, S k → w0.heap.size ≤ k) (h : Off S w w') : w0.heap.size ≤ w'.heap.size ∧ ∀ b o, b < w0.heap.size → w'.cell? ⟨b, o, none⟩ = w0.cell? ⟨b, o, none⟩ :=
  ⟨Nat.le_trans h0.size h.size, fun b o hb => World.cell?_of_block (a := ⟨b, o, none⟩) ((h.block b (Nat.lt_of_lt_of_le hb h0.size) fun e => by have := hS b e; omega).trans (h0.block b hb))⟩
theorem kept_ints {S : Nat → Prop} {w0 w : World} {v : Value} {l : List Int} (h : IntsAt w0 v l) (h0 : Below w0.heap.size w0 w) (hS : ∀ k, S k → w0.heap.size ≤ k) : Kept S w (fun w' => IntsAt w' v l) := fun w' ho => by
  obtain ⟨h1, h2⟩ := off_below h0 hS ho
  exact h.mono h1 h2
theorem kept_cn {S : Nat → Prop} {w0 w : World} {c : Md.Cn} {vt vx vb vr : Value} (h : CnAt w0 c vt vx vb vr) (h0 : Below w0.heap.size w0 w) (hS : ∀ k, S k → w0.heap.size ≤ k) : Kept S w (fun w' => CnAt w' c vt vx vb vr) := fun w' ho => by
  obtain ⟨h1, h2⟩ := off_below h0 hS ho
  refine ⟨?_, h.x.mono h1 h2, h.xcap, h.b.mono h1 h2, ?_⟩
  · obtain ⟨a, cap, hv, hl, hc⟩ := h.t
    refine ⟨a, cap, hv, hl, fun hp => ?_⟩
    obtain ⟨b, off, ha, hb, hj⟩ := hc hp
    exact ⟨b, off, ha, by omega, fun j hjl => ⟨(h2 _ _ hb).trans (hj j hjl).1, (h2 _ _ hb).trans (hj j hjl).2⟩⟩
  · obtain ⟨a, cap, hv, hl, hc⟩ := h.r
    refine ⟨a, cap, hv, hl, fun hp => ?_⟩
    obtain ⟨b, off, ha, hb, hj⟩ := hc hp
    refine ⟨b, off, ha, by omega, fun j hjl => ?_⟩
    obtain ⟨u, hu, hi⟩ := hj j hjl
    exact ⟨u, (h2 _ _ hb).trans hu, hi.mono h1 h2⟩

/-- Rows of the call's own. -/
theorem own_cells {w : World} {B : Nat} {e : TypeId} {size : Nat} {v : Value} {n : Nat} {xs : List Value} (h : w.ownsRow B e size v n xs) : (v = .slice none 0 0 ∧ n = 0) ∨ ∃ g cap, v = .slice (some ⟨g, 0, none⟩) n cap ∧ B ≤ g ∧ g < w.heap.size ∧ n ≤ cap ∧ ∀ j u, xs[j]? = some u → w.cell? ⟨g, j, none⟩ = some u := by
  rcases h.2 with h1 | ⟨g, cap, cur, hv, hg, hc, hm, _, _, ht⟩
  · exact .inl h1
  · refine .inr ⟨g, cap, hv, hg, (Array.getElem?_eq_some_iff.1 hc).1, hm, fun j u hj => ?_⟩
    have hjl : j < n * size := by rw [← h.1]; exact (List.getElem?_eq_some_iff.1 hj).1
    rw [← ht, List.getElem?_take, if_pos hjl] at hj
    have hj3 : cur[j]? = some u := by simpa using hj
    simp [World.cell?, hc, hj3]
theorem own_off {S : Nat → Prop} {w w' : World} {B : Nat} {e : TypeId} {size : Nat} {v : Value} {n : Nat} {xs : List Value} (h : w.ownsRow B e size v n xs) (hS : ∀ g, v.ownBlock = some g → ¬ S g) (ho : Off S w w') : w'.ownsRow B e size v n xs := by
  refine ⟨h.1, ?_⟩
  rcases h.2 with h1 | ⟨g, cap, cur, hv, hg, hc, h2⟩
  · exact .inl h1
  · refine .inr ⟨g, cap, cur, hv, hg, ?_, h2⟩
    rw [ho.block g (Array.getElem?_eq_some_iff.1 hc).1 (hS g (by rw [hv]; rfl))]
    exact hc
theorem own_ints' {w : World} {B : Nat} {e : TypeId} {v : Value} {l : List Int} (h : w.ownsRow B e 1 v l.length (l.map (.int .i64))) (hm : l.length ≤ maxLen) : IntsAt w v l := by
  rcases own_cells h with ⟨rfl, hn⟩ | ⟨g, cap, rfl, _, hg, _, hc⟩
  · exact ⟨none, 0, by rw [hn], hm, fun h0 => by omega⟩
  · exact ⟨_, cap, rfl, hm, fun _ => ⟨g, 0, rfl, hg, fun j hj => by rw [Nat.zero_add]; exact hc j _ (by simp [hj])⟩⟩
theorem own_terms {w : World} {B : Nat} {e : TypeId} {v : Value} {l : List (Int × Int)} (h : w.ownsRow B e 2 v l.length (termCells l)) (hm : l.length ≤ maxLen) : TermsAt w v l := by
  rcases own_cells h with ⟨rfl, hn⟩ | ⟨g, cap, rfl, _, hg, _, hc⟩
  · exact ⟨none, 0, by rw [hn], hm, fun h0 => by omega⟩
  · exact ⟨_, cap, rfl, hm, fun _ => ⟨g, 0, rfl, hg, fun j hj => by rw [Nat.zero_add]; exact ⟨hc _ _ (termCells_get l j hj).1, hc _ _ (termCells_get l j hj).2⟩⟩⟩
theorem own_vars {w : World} {B : Nat} {e : TypeId} {v : Value} {l : List Md.Vr} (h : w.ownsRow B e 3 v l.length (varCells l)) (hm : l.length ≤ maxLen) (hn : ∀ x ∈ l, x.name.size ≤ maxLen) : VarsAt w v l := by
  rcases own_cells h with ⟨rfl, h0⟩ | ⟨g, cap, rfl, _, hg, _, hc⟩
  · exact ⟨none, 0, by rw [h0], hm, hn, fun h1 => by omega⟩
  · exact ⟨_, cap, rfl, hm, hn, fun _ => ⟨g, 0, rfl, hg, fun j hj => by rw [Nat.zero_add]; exact ⟨hc _ _ (varCells_get l j hj).1, hc _ _ (varCells_get l j hj).2.1, hc _ _ (varCells_get l j hj).2.2⟩⟩⟩
theorem own_cap {w : World} {B : Nat} {e : TypeId} {size : Nat} {v : Value} {n : Nat} {xs : List Value} (h : w.ownsRow B e size v n xs) : ∀ a k cp, v = .slice a k cp → k ≤ cp := by
  intro a k cp hv
  rcases own_cells h with ⟨rfl, _⟩ | ⟨g, cap, rfl, _, _, hm, _⟩
  · injection hv with _ e2 e3; omega
  · injection hv with _ e2 e3; omega
theorem keptown_ints {S : Nat → Prop} {w : World} {B : Nat} {e : TypeId} {v : Value} {l : List Int} (h : w.ownsRow B e 1 v l.length (l.map (.int .i64))) (hS : ∀ g, B ≤ g → ¬ S g) (hm : l.length ≤ maxLen) : Kept S w (fun w' => IntsAt w' v l) := fun _ ho => own_ints' (own_off h (fun g hg => hS g (h.lt g hg).1) ho) hm
theorem keptown_terms {S : Nat → Prop} {w : World} {B : Nat} {e : TypeId} {v : Value} {l : List (Int × Int)} (h : w.ownsRow B e 2 v l.length (termCells l)) (hS : ∀ g, B ≤ g → ¬ S g) (hm : l.length ≤ maxLen) : Kept S w (fun w' => TermsAt w' v l) := fun _ ho => own_terms (own_off h (fun g hg => hS g (h.lt g hg).1) ho) hm
theorem keptown_vars {S : Nat → Prop} {w : World} {B : Nat} {e : TypeId} {v : Value} {l : List Md.Vr} (h : w.ownsRow B e 3 v l.length (varCells l)) (hS : ∀ g, B ≤ g → ¬ S g) (hm : l.length ≤ maxLen) (hn : ∀ x ∈ l, x.name.size ≤ maxLen) : Kept S w (fun w' => VarsAt w' v l) := fun _ ho => own_vars (own_off h (fun g hg => hS g (h.lt g hg).1) ho) hm hn
end Go.Proofs.YtdfbmfikhccajaaGreatDoor

namespace Go.Proofs.YtdfbmfikhccajaaGreatDoor
open Go.RowKit

/-- So it stays for another set: what is new may be written. -/
theorem Kept.young {S T : Nat → Prop} {w w1 : World} {p : World → Prop} (h : Kept S w p) (ho : Off S w w1) (hT : ∀ b, T b → S b ∨ w.heap.size ≤ b) : Kept T w1 p := fun w2 h2 =>
  h w2 ⟨Nat.le_trans ho.size h2.size, fun k hk hs => (h2.block k (Nat.lt_of_lt_of_le hk ho.size) fun ht => (hT k ht).elim hs (fun h => by omega)).trans (ho.block k hk hs)⟩
theorem Kept.less {S T : Nat → Prop} {w : World} {p : World → Prop} (h : Kept T w p) (hs : ∀ k, S k → T k) : Kept S w p := fun w2 h2 => h w2 (h2.less hs)

theorem list_val {P : Nat → Value → Prop} {n : Nat} (h : ∀ j, j < n → ∃ u, P j u) : ∃ us : List Value, us.length = n ∧ ∀ j (hj : j < us.length), P j us[j] := by
  induction n with
  | zero => exact ⟨[], rfl, fun j hj => absurd hj (Nat.not_lt_zero _)⟩
  | succ n ih =>
    obtain ⟨us, hl, hp⟩ := ih fun j hj => h j (by omega)
    obtain ⟨u, hu⟩ := h n (by omega)
    refine ⟨us ++ [u], by simp [hl], fun j hj => ?_⟩
    rcases Nat.lt_or_ge j us.length with h1 | h1
    · rw [List.getElem_append_left h1]; exact hp j h1
    · have : j = n := by simp at hj; omega
      subst this
      rw [List.getElem_append_right h1]
      simp [hl]
      exact hu

/-- A list of lists. -/
structure KRows (S : Nat → Prop) (w : World) (v : Value) (l : List (List Int)) (us : List Value) : Prop where
  len : us.length = l.length
  form : ∃ a cap, v = .slice a l.length cap ∧ l.length ≤ maxLen ∧ (0 < l.length → ∃ b off, a = some ⟨b, off, none⟩ ∧ b < w.heap.size ∧ ¬ S b ∧ ∀ j (h : j < us.length), w.cell? ⟨b, off + j, none⟩ = some us[j])
  each : ∀ j (h : j < us.length) (h2 : j < l.length), Kept S w (fun w' => IntsAt w' us[j] l[j])
theorem KRows.next {S : Nat → Prop} {w w' : World} {v : Value} {l : List (List Int)} {us : List Value} (h : KRows S w v l us) (ho : Off S w w') : KRows S w' v l us := by
  refine ⟨h.len, ?_, fun j hj h2 => (h.each j hj h2).next ho⟩
  obtain ⟨a, cap, hv, hm, hc⟩ := h.form
  refine ⟨a, cap, hv, hm, fun h0 => ?_⟩
  obtain ⟨b, off, ha, hb, hS, hj⟩ := hc h0
  exact ⟨b, off, ha, Nat.lt_of_lt_of_le hb ho.size, hS, fun j h => (World.cell?_of_block (a := ⟨b, off + j, none⟩) (ho.block b hb hS)).trans (hj j h)⟩
theorem KRows.rows {S : Nat → Prop} {w : World} {v : Value} {l : List (List Int)} {us : List Value} (h : KRows S w v l us) : RowsAt w v l := by
  obtain ⟨a, cap, hv, hm, hc⟩ := h.form
  refine ⟨a, cap, hv, hm, fun h0 => ?_⟩
  obtain ⟨b, off, ha, hb, _, hj⟩ := hc h0
  exact ⟨b, off, ha, hb, fun j h1 => ⟨us[j]'(by rw [h.len]; exact h1), hj j _, (h.each j (by rw [h.len]; exact h1) h1).now⟩⟩
theorem KRows.src {S : Nat → Prop} {w : World} {v : Value} {l : List (List Int)} {us : List Value} (h : KRows S w v l us) : SrcAt w v l.length 1 us := by
  obtain ⟨a, cap, hv, hm, hc⟩ := h.form
  refine ⟨a, cap, hv, by rw [h.len, Nat.mul_one], fun u hu => ?_, fun ha => ?_, fun ad ha j u hj => ?_⟩
  · obtain ⟨j, hj, rfl⟩ := List.mem_iff_getElem.1 hu
    obtain ⟨a', c', he, _⟩ := (h.each j hj (by rw [← h.len]; exact hj)).now
    rw [he]; rfl
  · rcases Nat.eq_zero_or_pos l.length with h0 | h0
    · exact h0
    · obtain ⟨b, off, hb, _⟩ := hc h0
      rw [ha] at hb; cases hb
  · obtain ⟨hj', he⟩ := List.getElem?_eq_some_iff.1 hj
    obtain ⟨b, off, hb, _, _, hcell⟩ := hc (by rw [← h.len]; omega)
    rw [ha] at hb
    injection hb with hb
    subst hb
    rw [addr_none, ← he]
    exact hcell j hj'
theorem KRows.old {S : Nat → Prop} {w0 w : World} {v : Value} {l : List (List Int)} (h : RowsAt w0 v l) (h0 : Below w0.heap.size w0 w) (hS : ∀ k, S k → w0.heap.size ≤ k) : ∃ us, KRows S w v l us := by
  obtain ⟨a, cap, hv, hm, hc⟩ := h
  rcases Nat.eq_zero_or_pos l.length with hz | hz
  · exact ⟨[], by rw [hz]; rfl, ⟨a, cap, hv, hm, fun h => by omega⟩, fun j hj => absurd hj (Nat.not_lt_zero _)⟩
  · obtain ⟨b, off, ha, hb, hj⟩ := hc hz
    obtain ⟨us, hl, hp⟩ := list_val (n := l.length) (P := fun j u => w0.cell? ⟨b, off + j, none⟩ = some u ∧ ∀ (h : j < l.length), IntsAt w0 u l[j]) (fun j h1 => by
      obtain ⟨u, h2, h3⟩ := hj j h1
      exact ⟨u, h2, fun _ => h3⟩)
    refine ⟨us, hl, ⟨a, cap, hv, hm, fun _ => ⟨b, off, ha, Nat.lt_of_lt_of_le hb h0.size, fun e => by have := hS b e; omega, fun j h1 => ?_⟩⟩, fun j h1 h2 => kept_ints ((hp j h1).2 h2) h0 hS⟩
    exact (h0.cell (p := ⟨b, off + j, none⟩) hb).trans (hp j h1).1
theorem KRows.own {S : Nat → Prop} {w : World} {B : Nat} {v : Value} {l : List (List Int)} {us : List Value} {e : TypeId} (h : w.ownsRow B e 1 v l.length us) (hl : us.length = l.length) (hm : l.length ≤ maxLen) (hS : ∀ g, B ≤ g → ¬ S g) (hk : ∀ j (h : j < us.length) (h2 : j < l.length), Kept S w (fun w' => IntsAt w' us[j] l[j])) : KRows S w v l us := by
  refine ⟨hl, ?_, hk⟩
  rcases own_cells h with ⟨rfl, hn⟩ | ⟨g, cap, rfl, hB, hg, _, hc⟩
  · exact ⟨none, 0, by rw [hn], hm, fun h0 => by omega⟩
  · exact ⟨_, cap, rfl, hm, fun _ => ⟨g, 0, rfl, hg, hS g hB, fun j hj => by rw [Nat.zero_add]; exact hc j _ (List.getElem?_eq_getElem hj)⟩⟩

/-- A constraint's lists. -/
structure KCn (S : Nat → Prop) (w : World) (c : Md.Cn) (vt vx vb vr : Value) : Prop where
  t : Kept S w (fun w' => TermsAt w' vt c.terms)
  x : Kept S w (fun w' => IntsAt w' vx c.xs)
  xcap : ∀ a n cp, vx = .slice a n cp → n ≤ cp
  b : Kept S w (fun w' => IntsAt w' vb c.table)
  r : ∃ us, KRows S w vr c.rows us
theorem KCn.at {S : Nat → Prop} {w : World} {c : Md.Cn} {vt vx vb vr : Value} (h : KCn S w c vt vx vb vr) : CnAt w c vt vx vb vr := by
  obtain ⟨us, hr⟩ := h.r
  exact ⟨h.t.now, h.x.now, h.xcap, h.b.now, hr.rows⟩
theorem KCn.next {S : Nat → Prop} {w w' : World} {c : Md.Cn} {vt vx vb vr : Value} (h : KCn S w c vt vx vb vr) (ho : Off S w w') : KCn S w' c vt vx vb vr := by
  obtain ⟨us, hr⟩ := h.r
  exact ⟨h.t.next ho, h.x.next ho, h.xcap, h.b.next ho, us, hr.next ho⟩
theorem KCn.old {S : Nat → Prop} {w0 w : World} {c : Md.Cn} {vt vx vb vr : Value} (h : CnAt w0 c vt vx vb vr) (h0 : Below w0.heap.size w0 w) (hS : ∀ k, S k → w0.heap.size ≤ k) : KCn S w c vt vx vb vr :=
  ⟨(kept_cn h h0 hS).imp fun _ h => h.t, kept_ints h.x h0 hS, h.xcap, kept_ints h.b h0 hS, KRows.old h.r h0 hS⟩

/-- A constraint's cells. -/
def cnCells (c : Md.Cn) (vt vx vb vr : Value) : List Value := [.int .i64 c.kind, .int .i64 c.op, vt, .int .i64 c.k, .int .i64 c.v, .int .i64 c.x, .int .i64 c.y, vx, vb, vr]
def InArr (cur : Array Value) (o : Nat) (L : List Value) : Prop := ∀ i u, L[i]? = some u → cur[o + i]? = some u
theorem InArr.far {cur : Array Value} {o p : Nat} {L : List Value} {v : Value} (h : InArr cur o L) (hp : p < o ∨ o + L.length ≤ p) : InArr (cur.setIfInBounds p v) o L := fun i u hi => by
  have hl := (List.getElem?_eq_some_iff.1 hi).1
  rw [Array.getElem?_setIfInBounds_ne (by omega)]
  exact h i u hi
theorem InArr.set {cur : Array Value} {o q : Nat} {L : List Value} (h : InArr cur o L) (hq : q < L.length) (v : Value) : InArr (cur.setIfInBounds (o + q) v) o (L.set q v) := fun i u hi => by
  rw [List.getElem?_set] at hi
  by_cases e : q = i
  · subst e
    rw [if_pos rfl, if_pos hq] at hi
    have hs : o + q < cur.size := (Array.getElem?_eq_some_iff.1 (h q _ (List.getElem?_eq_getElem hq))).1
    rw [Array.getElem?_setIfInBounds_self_of_lt hs]
    exact hi
  · rw [if_neg e] at hi
    rw [Array.getElem?_setIfInBounds_ne (by omega)]
    exact h i u hi
theorem InArr.cells {w : World} {g : Nat} {cur : Array Value} {t : TypeId} {o : Nat} {c : Md.Cn} {vt vx vb vr : Value} (h : InArr cur o (cnCells c vt vx vb vr)) (hg : w.heap[g]? = some (.cells cur t (0, 0))) : CnCells w g o c vt vx vb vr := by
  have key : ∀ i u, (cnCells c vt vx vb vr)[i]? = some u → w.cell? ⟨g, o + i, none⟩ = some u := fun i u hi => by
    have := h i u hi
    simp [World.cell?, hg, this]
  exact ⟨key 0 _ rfl, key 1 _ rfl, key 2 _ rfl, key 3 _ rfl, key 4 _ rfl, key 5 _ rfl, key 6 _ rfl, key 7 _ rfl, key 8 _ rfl, key 9 _ rfl⟩

/-- A list of constraints in a row of the call's own. -/
structure KCons (w : World) (g r cap : Nat) (l : List Md.Cn) (cur : Array Value) : Prop where
  blk : w.heap[g]? = some (.cells cur 69 (0, 0))
  size : cur.size = cap * 10
  le : l.length ≤ cap
  max : cap ≤ maxLen
  each : ∀ j (h : j < l.length), ∃ vt vx vb vr, InArr cur (j * 10) (cnCells l[j] vt vx vb vr) ∧ KCn (fun k => k = g ∨ k = r) w l[j] vt vx vb vr
theorem KCons.next {w w' : World} {g r cap : Nat} {l : List Md.Cn} {cur : Array Value} (h : KCons w g r cap l cur) (hb : Below w.heap.size w w') : KCons w' g r cap l cur :=
  ⟨(hb.block g (Array.getElem?_eq_some_iff.1 h.blk).1).trans h.blk, h.size, h.le, h.max, fun j hj => by
    obtain ⟨vt, vx, vb, vr, h1, h2⟩ := h.each j hj
    exact ⟨vt, vx, vb, vr, h1, h2.next (Off.of_below hb)⟩⟩
theorem KCons.cons {w : World} {g r cap : Nat} {l : List Md.Cn} {cur : Array Value} (h : KCons w g r cap l cur) : ConsAt w (.slice (some ⟨g, 0, none⟩) l.length cap) l :=
  ⟨_, cap, rfl, Nat.le_trans h.le h.max, fun _ => ⟨g, 0, rfl, (Array.getElem?_eq_some_iff.1 h.blk).1, fun j hj => by
    obtain ⟨vt, vx, vb, vr, h1, h2⟩ := h.each j hj
    exact ⟨vt, vx, vb, vr, h2.at, by rw [Nat.zero_add]; exact h1.cells h.blk⟩⟩⟩
/-- One constraint's lists are written anew. -/
theorem KCons.write {w w' : World} {g r cap k : Nat} {l : List Md.Cn} {cur : Array Value} {vt vx vb vr vt' vx' vb' vr' : Value} (h : KCons w g r cap l cur) (hk : k < l.length) (h0 : InArr cur (k * 10) (cnCells l[k] vt vx vb vr)) (ho : Off (fun b => b = g ∨ b = r) w w')
    (hb : w'.heap[g]? = some (.cells ((((cur.setIfInBounds (k * 10 + 2) vt').setIfInBounds (k * 10 + 7) vx').setIfInBounds (k * 10 + 8) vb').setIfInBounds (k * 10 + 9) vr') 69 (0, 0))) (hn : KCn (fun b => b = g ∨ b = r) w' l[k] vt' vx' vb' vr') :
    KCons w' g r cap l ((((cur.setIfInBounds (k * 10 + 2) vt').setIfInBounds (k * 10 + 7) vx').setIfInBounds (k * 10 + 8) vb').setIfInBounds (k * 10 + 9) vr') := by
  refine ⟨hb, by simp [h.size], h.le, h.max, fun j hj => ?_⟩
  by_cases e : j = k
  · subst e
    refine ⟨vt', vx', vb', vr', ?_, hn⟩
    exact ((((h0.set (q := 2) (by simp [cnCells]) vt').set (q := 7) (by simp [cnCells]) vx').set (q := 8) (by simp [cnCells]) vb').set (q := 9) (by simp [cnCells]) vr')
  · obtain ⟨v1, v2, v3, v4, h1, h2⟩ := h.each j hj
    have hlen : (cnCells l[j] v1 v2 v3 v4).length = 10 := rfl
    refine ⟨v1, v2, v3, v4, ?_, h2.next ho⟩
    exact (((h1.far (by rw [hlen]; omega)).far (by rw [hlen]; omega)).far (by rw [hlen]; omega)).far (by rw [hlen]; omega)

/-- Rows of equal length, one behind the other. -/
theorem flat_length (f : Nat → List Value) (s : Nat) (hf : ∀ j, (f j).length = s) (n : Nat) : ((List.range n).flatMap f).length = n * s := by
  induction n with
  | zero => simp
  | succ n ih => rw [List.range_succ, List.flatMap_append, List.length_append, ih, Nat.succ_mul]; simp [hf]
theorem flat_get (f : Nat → List Value) (s : Nat) (hf : ∀ j, (f j).length = s) (n j i : Nat) (hj : j < n) (hi : i < s) : ((List.range n).flatMap f)[j * s + i]? = (f j)[i]? := by
  induction n with
  | zero => omega
  | succ n ih =>
    rw [List.range_succ, List.flatMap_append]
    have hl := flat_length f s hf n
    rcases Nat.lt_or_ge j n with h | h
    · have : j * s + i < n * s := by
        have := Nat.mul_le_mul_right s (show j + 1 ≤ n from h)
        rw [Nat.succ_mul] at this; omega
      rw [List.getElem?_append_left (by rw [hl]; exact this)]
      exact ih h
    · have hjn : j = n := by omega
      subst hjn
      rw [List.getElem?_append_right (by rw [hl]; omega), hl, Nat.add_sub_cancel_left]
      simp
theorem ConsAt.srcs {w : World} {v : Value} {l : List Md.Cn} (h : ConsAt w v l) : ∃ D : Nat → Value × Value × Value × Value, SrcAt w v l.length 10 ((List.range l.length).flatMap fun j => cnCells (l.getD j ⟨0, 0, [], 0, 0, 0, 0, [], [], []⟩) (D j).1 (D j).2.1 (D j).2.2.1 (D j).2.2.2) ∧ ∀ j (h : j < l.length), CnAt w l[j] (D j).1 (D j).2.1 (D j).2.2.1 (D j).2.2.2 := by
  obtain ⟨a, cap, hv, hm, hc⟩ := h
  have hflat : ∀ D : Nat → Value × Value × Value × Value, ((List.range l.length).flatMap fun j => cnCells (l.getD j ⟨0, 0, [], 0, 0, 0, 0, [], [], []⟩) (D j).1 (D j).2.1 (D j).2.2.1 (D j).2.2.2).length = l.length * 10 := fun D => flat_length _ 10 (fun j => rfl) _
  rcases Nat.eq_zero_or_pos l.length with hz | hz
  · refine ⟨fun _ => (undef, undef, undef, undef), ⟨a, cap, hv, hflat _, fun u hu => ?_, fun _ => hz, fun ad _ j u hj => ?_⟩, fun j hj => by omega⟩
    · rw [hz] at hu; simp at hu
    · rw [hz] at hj; simp at hj
  · obtain ⟨b, off, ha, hb, hj⟩ := hc hz
    have hD : ∀ j, ∃ d : Value × Value × Value × Value, ∀ (h : j < l.length), CnAt w l[j] d.1 d.2.1 d.2.2.1 d.2.2.2 ∧ CnCells w b (off + j * 10) l[j] d.1 d.2.1 d.2.2.1 d.2.2.2 := fun j => by
      by_cases h1 : j < l.length
      · obtain ⟨v1, v2, v3, v4, h2, h3⟩ := hj j h1
        exact ⟨(v1, v2, v3, v4), fun _ => ⟨h2, h3⟩⟩
      · exact ⟨(undef, undef, undef, undef), fun h => absurd h h1⟩
    obtain ⟨D, hD⟩ := Classical.axiomOfChoice hD
    have key : ∀ q u, ((List.range l.length).flatMap fun j => cnCells (l.getD j ⟨0, 0, [], 0, 0, 0, 0, [], [], []⟩) (D j).1 (D j).2.1 (D j).2.2.1 (D j).2.2.2)[q]? = some u → w.cell? ⟨b, off + q, none⟩ = some u ∧ u.oneCell' = true := fun q u hq => by
      have hql : q < l.length * 10 := by rw [← hflat D]; exact (List.getElem?_eq_some_iff.1 hq).1
      have hjl : q / 10 < l.length := by omega
      have e : q = q / 10 * 10 + q % 10 := by omega
      rw [e, flat_get _ 10 (fun j => rfl) _ _ _ hjl (by omega)] at hq
      obtain ⟨hA, h0, h1, h2, h3, h4, h5, h6, h7, h8, h9⟩ := hD (q / 10) hjl
      have hgd : l.getD (q / 10) ⟨0, 0, [], 0, 0, 0, 0, [], [], []⟩ = l[q / 10] := by rw [List.getD_eq_getElem?_getD, List.getElem?_eq_getElem hjl]; rfl
      rw [hgd] at hq
      obtain ⟨at1, ct1, et, _⟩ := hA.t
      obtain ⟨ax1, cx1, ex, _⟩ := hA.x
      obtain ⟨ab1, cb1, eb, _⟩ := hA.b
      obtain ⟨ar1, cr1, er, _⟩ := hA.r
      have e2 : off + q = off + q / 10 * 10 + q % 10 := by omega
      rw [e2]
      have hi : q % 10 < 10 := Nat.mod_lt _ (by decide)
      generalize q % 10 = i at *
      match i, hi with
      | 0, _ => cases hq; exact ⟨h0, rfl⟩
      | 1, _ => cases hq; exact ⟨h1, rfl⟩
      | 2, _ => simp only [cnCells] at hq; cases hq; exact ⟨h2, by rw [et]; rfl⟩
      | 3, _ => cases hq; exact ⟨h3, rfl⟩
      | 4, _ => cases hq; exact ⟨h4, rfl⟩
      | 5, _ => cases hq; exact ⟨h5, rfl⟩
      | 6, _ => cases hq; exact ⟨h6, rfl⟩
      | 7, _ => simp only [cnCells] at hq; cases hq; exact ⟨h7, by rw [ex]; rfl⟩
      | 8, _ => simp only [cnCells] at hq; cases hq; exact ⟨h8, by rw [eb]; rfl⟩
      | 9, _ => simp only [cnCells] at hq; cases hq; exact ⟨h9, by rw [er]; rfl⟩
    refine ⟨D, ⟨a, cap, hv, hflat D, fun u hu => ?_, fun hn => (by rw [hn] at ha; cases ha), fun ad hd q u hq => ?_⟩, fun j h => (hD j h).1⟩
    · obtain ⟨q, hq, rfl⟩ := List.mem_iff_getElem.1 hu
      exact (key q _ (List.getElem?_eq_getElem hq)).2
    · rw [ha] at hd
      injection hd with hd
      subst hd
      rw [addr_none]
      exact (key q u hq).1
end Go.Proofs.YtdfbmfikhccajaaGreatDoor
