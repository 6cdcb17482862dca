/-
  Put together: TrBad, TrMem, TrEnds, TrLen.
-/
import Derived.Test.YthohnmplbjhjaaaGreatDoorTrLay
import Derived.Test.YthohnmplbjhjaaaGreatDoorJ25
namespace Go.Proofs.YthohnmplbjhjaaaGreatDoor
open Go Go.RowKit

theorem ite_bad {s : St} {p : Prop} [Decidable p] (e : Int) (h : s.2 ≠ 0) : (if p then failT e s else s) = s := by split; exact fail_on h; rfl
theorem ite_bad' {s : St} {p : Prop} [Decidable p] (e : Int) (h : s.2 ≠ 0) : (if p then s else failT e s) = s := by split; rfl; exact fail_on h
theorem known_bad {V : List Md.Vr} {w : List UInt8} {s : St} (h : s.2 ≠ 0) : (knownT V w s).2 = s := by
  unfold knownT
  simp only [ite_bad' 54 h]
  exact ite_bad 56 h
theorem name_bad {V : List Md.Vr} {s : St} (h : s.2 ≠ 0) : (nameT V s).2 = s := by unfold nameT; rw [next_bad h]; exact known_bad h
theorem new_bad {V : List Md.Vr} {s : St} (h : s.2 ≠ 0) : (newT V s).2 = s := by
  unfold newT
  rw [next_bad h]
  simp only [ite_bad' 54 h]
  exact ite_bad 55 h
theorem op_bad {s : St} (h : s.2 ≠ 0) : (rdOp s).2 = s := by 
  unfold rdOp
  rw [next_bad h]
  simp only
  split
  · exact fail_on h
  · rfl
theorem lo_bad {s : St} (h : s.2 ≠ 0) : (rdLo s).2 = s := by
  unfold rdLo
  rw [next_bad h]
  simp only [whole_bad h]
  exact ite_bad' 42 h
theorem hi_bad {s : St} (lo : Int) (h : s.2 ≠ 0) : (rdHi lo s).2 = s := by
  unfold rdHi
  rw [next_bad h]
  simp only [whole_bad h]
  exact ite_bad' 42 h
theorem bounds_bad {s : St} (h : s.2 ≠ 0) : (rdBounds s).2 = s := by unfold rdBounds; simp only [lo_bad h]; exact hi_bad _ h
theorem term_bad {V : List Md.Vr} {x : List UInt8} {s : St} (h : s.2 ≠ 0) : (rdTerm V x s).2 = s := by
  unfold rdTerm cfT
  simp only [whole_bad h, ite_bad 45 h]
  exact name_bad h
theorem listGo_bad {α : Type} {rd : List UInt8 → St → α × St} (k : Nat) (all : List α) {s : St} (h : s.2 ≠ 0) : (listGo rd k all s).2 = s := by cases k <;> (unfold listGo; rw [take_bad h])
theorem list_bad {α : Type} {rd : List UInt8 → St → α × St} (hr : ∀ x s, s.2 ≠ 0 → (rd x s).2 = s) {s : St} (h : s.2 ≠ 0) : (rdList rd s).2 = s := by
  unfold rdList
  rw [next_bad h, hr _ _ h]
  exact listGo_bad _ _ h
theorem end_bad {s : St} (h : s.2 ≠ 0) : endT s = s := by unfold endT; rw [take_bad h]
theorem must_bad {x y : List UInt8} {s : St} (h : s.2 ≠ 0) : mustT x y s = s := by unfold mustT; exact ite_bad' 51 h
theorem cols_bad {V : List Md.Vr} {s : St} (h : s.2 ≠ 0) : (rdCols V s).2 = s := by
  unfold rdCols
  rw [name_bad h]
  unfold colsGo
  rw [take_bad h]
  exact fail_on h
theorem rows_bad {n : Nat} {s : St} (h : s.2 ≠ 0) : (rdRows n s).2 = s := by
  unfold rdRows
  rw [next_bad h, row_bad h]
  unfold rowsGo
  rw [take_bad h]
theorem form_bad {V : List Md.Vr} {k : Nat} {s : St} (h : s.2 ≠ 0) : (formT V k s).2 = s := by
  have hk := fun (x : List UInt8) (s : St) (h : s.2 ≠ 0) => known_bad (V := V) (w := x) h
  have ht := fun (x : List UInt8) (s : St) (h : s.2 ≠ 0) => term_bad (V := V) (x := x) h
  have hv := fun (x : List UInt8) (s : St) (h : s.2 ≠ 0) => value_bad (x := x) h
  unfold formT
  split
  · unfold fLin; simp only [op_bad h, number_bad h]; exact list_bad ht h
  split
  · unfold fNe; simp only [name_bad h, number_bad h]; exact end_bad h
  split
  · unfold fAll; exact list_bad hk h
  split
  · unfold fEl; simp only [name_bad h]; exact list_bad hv h
  split
  · unfold fMax; simp only [name_bad h]; exact list_bad hk h
  split
  · unfold fMax; simp only [name_bad h]; exact list_bad hk h
  split
  · unfold fReif; simp only [name_bad h, next_bad h, must_bad h, number_bad h]; exact list_bad ht h
  split
  · unfold fTable; simp only [cols_bad h]; exact rows_bad h
  split
  · unfold fCount; simp only [op_bad h, number_bad h]; exact list_bad hk h
  split
  · unfold fVar; simp only [new_bad h, bounds_bad h]; exact end_bad h
  · unfold fGoal; exact list_bad ht h
theorem form_kind {V : List Md.Vr} {k : Nat} {s : St} (h1 : 1 ≤ k) (h2 : k ≤ 11) : (formT V k s).1.c.kind = (k : Int) := by
  rcases (by omega : k = 1 ∨ k = 2 ∨ k = 3 ∨ k = 4 ∨ k = 5 ∨ k = 6 ∨ k = 7 ∨ k = 8 ∨ k = 9 ∨ k = 10 ∨ k = 11) with rfl | rfl | rfl | rfl | rfl | rfl | rfl | rfl | rfl | rfl | rfl <;> rfl
theorem kind_le (w : List UInt8) : kindW w ≤ 11 := by
  unfold kindW
  repeat (split; · omega)
  omega
/-- How much a problem holds that is being read. -/
structure Good (m : Md.Mo) : Prop where
  v : m.vars.length ≤ 32
  c : m.cons.length ≤ 64
  n : ∀ x ∈ m.vars, x.name.size ≤ 70000
theorem next_len (s : St) : (nextT s).1.length ≤ s.1.length := (next_word (Nat.le_refl _)).1
theorem say_name {V : List Md.Vr} {s : St} (hs : s.1.length ≤ 70000) : (fVar V s).1.v.name.size ≤ 70000 := by
  show (txtOf (newT V s).1).size ≤ 70000
  exact Nat.le_trans (by show (newT V s).1.length ≤ s.1.length; exact next_len s) hs
theorem say_good {m : Md.Mo} {w : List UInt8} {s : St} (hg : Good m) (hs : s.1.length ≤ 70000) (h0 : (sayT m w s).2.2 = 0) : Good (layT m (sayT m w s).1) := by
  unfold sayT at h0 ⊢
  by_cases hk : kindW w = 0
  · rw [if_pos hk] at h0
    unfold failT at h0
    split at h0
    · exact absurd (show (51 : Int) = 0 from h0) (by decide)
    · rename_i h; exact absurd h0 h
  · rw [if_neg hk] at h0 ⊢
    obtain ⟨k, hkk⟩ : ∃ k, kindW w = k := ⟨_, rfl⟩
    have hle := kind_le w
    rw [hkk] at h0 hk hle ⊢
    have hf : (failT (oneMoreT k m) s).2 = 0 := by
      by_cases h : (failT (oneMoreT k m) s).2 = 0
      · exact h
      · rw [form_bad h] at h0; exact h0
    have hz : oneMoreT k m = 0 := by
      unfold failT at hf
      split at hf
      · exact hf
      · rename_i h; exact absurd hf h
    have hkd := form_kind (V := m.vars) (s := failT (oneMoreT k m) s) (by omega : 1 ≤ k) hle
    unfold layT
    rw [hkd]
    by_cases k10 : k = 10
    · subst k10
      rw [if_pos (by decide)]
      have hv : m.vars.length ≠ 32 := fun e => by unfold oneMoreT at hz; rw [if_pos ⟨rfl, e⟩] at hz; exact absurd hz (by decide)
      refine ⟨by have := hg.v; simp; omega, hg.c, fun x hx => ?_⟩
      rcases List.mem_append.1 hx with hx | hx
      · exact hg.n x hx
      · rw [List.mem_singleton.1 hx]
        exact say_name (by rw [fail_rest]; exact hs)
    · rw [if_neg (by omega)]
      by_cases k11 : k = 11
      · rw [if_pos (by omega)]
        exact ⟨hg.v, hg.c, hg.n⟩
      · rw [if_neg (by omega)]
        have hc : m.cons.length ≠ 64 := fun e => by
          unfold oneMoreT at hz
          rw [if_neg (by omega), if_neg (by omega), if_pos ⟨by omega, e⟩] at hz
          exact absurd hz (by decide)
        exact ⟨hg.v, by have := hg.c; simp; omega, hg.n⟩
theorem read_good {m : Md.Mo} {l : List UInt8} (hg : Good m) (hl : l.length ≤ 70000) : Good (readT m l).1 := by
  unfold readT
  split
  · exact hg
  · rename_i p hp
    split
    · exact hg
    · split
      · rename_i h0
        have h1 := (take_len hp).1
        have h2 : (l, (0 : Int)).1 = l := rfl
        rw [h2] at h1
        exact say_good hg (by omega) h0
      · exact hg
end Go.Proofs.YthohnmplbjhjaaaGreatDoor

namespace Go.Proofs.YthohnmplbjhjaaaGreatDoor
open Go Go.RowKit

theorem own_cells {w : World} {B : Nat} {e : TypeId} {size : Nat} {v : Value} {n : Nat} {xs : List Value} (h : w.ownsRow B e size v n xs) :
    (v = .slice none 0 0 ∧ n = 0) ∨ ∃ g cap, v = .slice (some ⟨g, 0, none⟩) n cap ∧ B ≤ g ∧ g < w.heap.size ∧ n ≤ cap ∧ ∀ j u, xs[j]? = some u → w.cell? ⟨g, j, none⟩ = some u := by
  have hl := h.1
  rcases h.2 with h1 | ⟨g, cap, cur, hv, hB, hc, hn, _, _, ht⟩
  · exact .inl h1
  · refine .inr ⟨g, cap, hv, hB, (Array.getElem?_eq_some_iff.1 hc).1, hn, fun j u hj => ?_⟩
    have hjl : j < n * size := by rw [← hl]; exact (List.getElem?_eq_some_iff.1 hj).1
    rw [← ht, List.getElem?_take, if_pos hjl] at hj
    have hj3 : cur[j]? = some u := by simpa using hj
    simp [World.cell?, hc, hj3]
theorem flat_get {α : Type} (f : α → List Value) (n : Nat) (hf : ∀ a, (f a).length = n) : ∀ (l : List α) (j : Nat) (hj : j < l.length) (i : Nat), i < n → (l.flatMap f)[j * n + i]? = (f l[j])[i]?
  | [], j, hj, _, _ => by simp at hj
  | a :: l, 0, _, i, hi => by
    simp only [List.flatMap_cons, List.getElem_cons_zero, Nat.zero_mul, Nat.zero_add]
    exact List.getElem?_append_left (by rw [hf]; exact hi)
  | a :: l, j + 1, hj, i, hi => by
    simp only [List.flatMap_cons, List.getElem_cons_succ]
    have h := flat_get f n hf l j (by simpa using hj) i hi
    rw [List.getElem?_append_right (by rw [hf, Nat.add_mul]; omega), ← h, hf]
    congr 1
    rw [Nat.add_mul]
    omega
theorem flat_size {α : Type} {w : World} {B : Nat} {e : TypeId} {size : Nat} {v : Value} {l : List α} {xs : List Value} (h : w.ownsRow B e size v l.length xs) : l.length ≤ maxLen := by
  rcases h.2 with ⟨_, h0⟩ | ⟨g, cap, cur, _, _, _, h1, h2, _⟩
  · omega
  · omega
theorem own_ints {w : World} {B : Nat} {e : TypeId} {v : Value} {l : List Int} (h : w.ownsRow B e 1 v l.length (encL encI l)) : IntsAt w v l := by
  have hm := flat_size h
  rcases own_cells h with ⟨rfl, hn⟩ | ⟨g, cap, rfl, _, hg, _, hc⟩
  · exact ⟨none, 0, by rw [hn], hm, fun h0 => by omega⟩
  · exact ⟨_, cap, rfl, hm, fun _ => ⟨g, 0, rfl, hg, fun j hj => hc (0 + j) _ (by have := flat_get encI 1 (fun _ => rfl) l j hj 0 (by omega); rw [Nat.mul_one, Nat.add_zero] at this; rw [Nat.zero_add]; exact this)⟩⟩
theorem own_terms {w : World} {B : Nat} {e : TypeId} {v : Value} {l : List (Int × Int)} (h : w.ownsRow B e 2 v l.length (encL encT l)) : TermsAt w v l := by
  have hm := flat_size h
  rcases own_cells h with ⟨rfl, hn⟩ | ⟨g, cap, rfl, _, hg, _, hc⟩
  · exact ⟨none, 0, by rw [hn], hm, fun h0 => by omega⟩
  · exact ⟨_, cap, rfl, hm, fun _ => ⟨g, 0, rfl, hg, fun j hj => by
      rw [Nat.zero_add]
      exact ⟨hc _ _ (flat_get encT 2 (fun _ => rfl) l j hj 0 (by omega)), hc _ _ (flat_get encT 2 (fun _ => rfl) l j hj 1 (by omega))⟩⟩⟩
theorem own_vars {w : World} {B : Nat} {e : TypeId} {v : Value} {l : List Md.Vr} (h : w.ownsRow B e 3 v l.length (encL encV l)) (hn : ∀ x ∈ l, x.name.size ≤ maxLen) : VarsAt w v l := by
  have hm := flat_size h
  rcases own_cells h with ⟨rfl, h0⟩ | ⟨g, cap, rfl, _, hg, _, hc⟩
  · exact ⟨none, 0, by rw [h0], hm, hn, fun h1 => by omega⟩
  · exact ⟨_, cap, rfl, hm, hn, fun _ => ⟨g, 0, rfl, hg, fun j hj => by
      rw [Nat.zero_add]
      exact ⟨hc _ _ (flat_get encV 3 (fun _ => rfl) l j hj 0 (by omega)), hc _ _ (flat_get encV 3 (fun _ => rfl) l j hj 1 (by omega)), hc _ _ (flat_get encV 3 (fun _ => rfl) l j hj 2 (by omega))⟩⟩⟩
theorem own_cap {w : World} {B : Nat} {e : TypeId} {size : Nat} {v : Value} {n : Nat} {xs : List Value} (h : w.ownsRow B e size v n xs) : ∀ a k cp, v = .slice a k cp → k ≤ cp := by
  intro a k cp hv
  rcases own_cells h with ⟨rfl, _⟩ | ⟨g, cap, rfl, _, _, hm, _⟩
  · injection hv with _ e2 e3; omega
  · injection hv with _ e2 e3; omega
theorem own_rows {w : World} {B D : Nat} {e : TypeId} {v : Value} {l : List (List Int)} {vs : List Value} (h : w.ownsRow B e 1 v l.length vs) (hr : RowsW w B D vs l) : RowsAt w v l := by
  have hm := flat_size h
  have hl := hr.1
  rcases own_cells h with ⟨rfl, hn⟩ | ⟨g, cap, rfl, _, hg, _, hc⟩
  · exact ⟨none, 0, by rw [hn], hm, fun h0 => by omega⟩
  · refine ⟨_, cap, rfl, hm, fun _ => ⟨g, 0, rfl, hg, fun j hj => ?_⟩⟩
    have hj2 : j < vs.length := by omega
    exact ⟨vs[j], hc (0 + j) _ (by rw [Nat.zero_add]; exact List.getElem?_eq_getElem hj2), own_ints (hr.2 j _ _ (List.getElem?_eq_getElem hj2) (List.getElem?_eq_getElem hj)).1⟩
theorem own_con {w : World} {B : Nat} {c : Md.Cn} {vt vx vb vr : Value} (h : SyV B ⟨zv, c⟩ vt vx vb vr w) : CnAt w c vt vx vb vr := by
  obtain ⟨vs, D, hr, hrs⟩ := h.r
  exact ⟨own_terms h.t, own_ints h.x, own_cap h.x, own_ints h.b, own_rows hr hrs⟩
theorem own_cons {w : World} {B : Nat} {v : Value} {L : List CnL} {l : List Md.Cn} (hl : l = L.map (·.c)) (h : w.ownsRow B 61 10 v l.length (L.flatMap CnL.cells)) (hs : ∀ d ∈ L, SyV B ⟨zv, d.c⟩ d.t d.x d.b d.r w) : ConsAt w v l := by
  have hm := flat_size h
  subst hl
  rcases own_cells h with ⟨rfl, hn⟩ | ⟨g, cap, rfl, _, hg, _, hc⟩
  · exact ⟨none, 0, by rw [hn], hm, fun h0 => by omega⟩
  · refine ⟨_, cap, rfl, hm, fun _ => ⟨g, 0, rfl, hg, fun j hj => ?_⟩⟩
    have hj2 : j < L.length := by simpa using hj
    have he : (L.map (·.c))[j] = L[j].c := by simp
    have hx := fun i hi u (hu : (L[j].cells)[i]? = some u) => hc (j * 10 + i) u ((flat_get CnL.cells 10 (fun _ => rfl) L j hj2 i hi).trans hu)
    rw [he]
    refine ⟨L[j].t, L[j].x, L[j].b, L[j].r, own_con (hs _ (List.getElem_mem hj2)), ?_⟩
    rw [Nat.zero_add]
    exact ⟨hx 0 (by omega) _ rfl, hx 1 (by omega) _ rfl, hx 2 (by omega) _ rfl, hx 3 (by omega) _ rfl, hx 4 (by omega) _ rfl, hx 5 (by omega) _ rfl, hx 6 (by omega) _ rfl, hx 7 (by omega) _ rfl, hx 8 (by omega) _ rfl, hx 9 (by omega) _ rfl⟩
theorem MoIs.at {B P : Nat} {m : Md.Mo} {vv vc vg : Value} {w : World} (h : MoIs B P m vv vc vg w) (hg : Good m) : MoAt w m vv vc vg := by
  obtain ⟨L, hL, hk, hs⟩ := h.k
  exact ⟨own_vars h.v (fun x hx => Nat.le_trans (hg.n x hx) (by decide)), own_cap h.v, own_cons hL hk hs, own_terms h.g⟩
theorem way_here {w0 w : World} (h : Way w0 w) : Way w w := by
  obtain ⟨mx, hmx⟩ := h.mx
  have hb := h.big
  refine ⟨Below.refl _ _, ?_, Nat.le_trans h.big h.low.size, ⟨mx, (h.low.cell (p := ⟨1, 0, none⟩) (by simp only; omega)).trans hmx⟩, h.opw1, h.opw2, h.opw3⟩
  have ht := h.tab
  have hg : Tryz.prog.globalNamed "internal/strconv.uint64pow10" = some 4 := by kernel_rfl
  unfold Lib.TabIs World.var? at ht ⊢
  rw [hg] at ht ⊢
  simp only [Option.bind_some] at ht ⊢
  rw [h.low.block 4 (by omega)]
  exact ht
theorem way_on {w w' : World} {B : Nat} (h : Way w w) (o : Ofw (fun k => B ≤ k) w w') (hB : 5 ≤ B) : Way w' w' := by
  obtain ⟨mx, hmx⟩ := h.mx
  have hb := h.big
  have hk : ∀ k, k < 5 → w'.heap[k]? = w.heap[k]? := fun k hk => o.block k (by omega) (by omega)
  have hc : ∀ k i u, k < 5 → w.cell? ⟨k, i, none⟩ = some u → w'.cell? ⟨k, i, none⟩ = some u := fun k i u h1 h2 => (World.cell?_of_block (a := ⟨k, i, none⟩) (hk k h1)).trans h2
  refine ⟨Below.refl _ _, ?_, Nat.le_trans hb o.size, ⟨mx, hc 1 0 _ (by omega) hmx⟩, hc 0 1 _ (by omega) h.opw.1, hc 0 2 _ (by omega) h.opw.2.1, hc 0 3 _ (by omega) h.opw.2.2⟩
  have ht := h.tab
  have hg : Tryz.prog.globalNamed "internal/strconv.uint64pow10" = some 4 := by kernel_rfl
  unfold Lib.TabIs World.var? at ht ⊢
  rw [hg] at ht ⊢
  simp only [Option.bind_some] at ht ⊢
  rw [hk 4 (by omega)]
  exact ht
theorem pre_hash (x : List UInt8) : Lib.hasPrefix x [35] = decide (x.headD 0 = 35) := by
  cases x with
  | nil => rfl
  | cons c l =>
    by_cases h : c = 35
    · subst h; simp [Lib.hasPrefix]
    · have h' : ¬ 35 = c := fun e => h e.symm
      have h2 : ((35 : UInt8) == c) = false := by simp [h']
      simp [Lib.hasPrefix, List.isPrefixOf, h2, h]
end Go.Proofs.YthohnmplbjhjaaaGreatDoor

namespace Go.Proofs.YthohnmplbjhjaaaGreatDoor
open Go Go.RowKit

theorem fail_ends {e : Int} (he : e ≠ 0) (s : St) : takeT (failT e s) = none := by
  refine take_bad ?_
  unfold failT
  split
  · exact he
  · assumption
theorem end_ends (s : St) : takeT (endT s) = none := by
  unfold endT
  cases h : takeT s with
  | none => exact h
  | some p => exact fail_ends (by decide) _
theorem listGo_ends {α : Type} (rd : List UInt8 → St → α × St) : ∀ (k : Nat) (all : List α) (s : St), takeT (listGo rd k all s).2 = none
  | 0, all, s => by
    unfold listGo
    cases h : takeT s with
    | none => exact h
    | some p => exact fail_ends (by decide) _
  | k + 1, all, s => by
    unfold listGo
    cases h : takeT s with
    | none => exact h
    | some p => exact listGo_ends rd k _ _
theorem list_ends {α : Type} (rd : List UInt8 → St → α × St) (s : St) : takeT (rdList rd s).2 = none := listGo_ends rd _ _ _
theorem rowsGo_ends (n : Nat) : ∀ (k : Nat) (all : List (List Int)) (s : St), takeT (rowsGo n k all s).2 = none
  | 0, all, s => by
    unfold rowsGo
    cases h : takeT s with
    | none => exact h
    | some p =>
      have hb : (failT 47 (nextT (mustT p.1 [58] p.2)).2).2 ≠ 0 := by
        unfold failT
        split
        · show (47 : Int) ≠ 0; decide
        · assumption
      show takeT (rdRow n _ (failT 47 (nextT (mustT p.1 [58] p.2)).2)).2 = none
      rw [row_bad hb]
      exact take_bad hb
  | k + 1, all, s => by
    unfold rowsGo
    cases h : takeT s with
    | none => exact h
    | some p => exact rowsGo_ends n k _ _
theorem form_ends (V : List Md.Vr) (k : Nat) (s : St) : takeT (formT V k s).2 = none := by
  unfold formT
  split
  · exact list_ends _ _
  split
  · exact end_ends _
  split
  · exact list_ends _ _
  split
  · exact list_ends _ _
  split
  · exact list_ends _ _
  split
  · exact list_ends _ _
  split
  · exact list_ends _ _
  split
  · exact rowsGo_ends _ _ _ _
  split
  · exact list_ends _ _
  split
  · exact end_ends _
  · exact list_ends _ _
theorem say_ends (m : Md.Mo) (w : List UInt8) (s : St) : takeT (sayT m w s).2 = none := by
  unfold sayT
  split
  · exact fail_ends (by decide) _
  · exact form_ends _ _ _

/-- What a line that was read leaves: D, D + 1 are the blocks of the loop. -/
def FinAt (S : Nat → Prop) (B P : Nat) (RR : Md.Mo × Int) (D N : Nat) (w : World) (b : Nat) (s : St) (W : World) : Prop :=
  RR.2 = s.2 ∧ ∃ Wx, MoI B P RR.1 Wx ∧ Ofw S w Wx ∧ D + 2 ≤ Wx.heap.size ∧ (∀ k, (k = D ∨ k = D + 1) → ∀ c t z, Wx.heap[k]? ≠ some (.cells c t z)) ∧ Ofw (fun k => k = D ∨ k = D + 1) Wx W ∧ Wx.heap[N]? = some (.cells #[.pointer (some ⟨b, 0, none⟩)] 113 (0, 0))
theorem FinAt.on {S : Nat → Prop} {B P : Nat} {RR : Md.Mo × Int} {D N b : Nat} {w : World} {s : St} {W W' : World} (h : FinAt S B P RR D N w b s W) (o : Ofw (fun k => k = D ∨ k = D + 1) W W') : FinAt S B P RR D N w b s W' := by
  obtain ⟨h1, Wx, h2, h3, h4, h5, h6, h7⟩ := h
  exact ⟨h1, Wx, h2, h3, h4, h5, h6.trans o, h7⟩
theorem FinAt.fin {S : Nat → Prop} {B P : Nat} {RR : Md.Mo × Int} {D N b : Nat} {w : World} {s : St} {W : World} (h : FinAt S B P RR D N w b s W) (hPD : P < D) (hBD : w.heap.size ≤ D) (hN : N < D) : RR.2 = s.2 ∧ MoI B P RR.1 W ∧ Ofw S w W ∧ W.heap[N]? = some (.cells #[.pointer (some ⟨b, 0, none⟩)] 113 (0, 0)) := by
  obtain ⟨h1, Wx, ⟨vv, vc, vg, hm⟩, h3, h4, h5, h6, h7⟩ := h
  refine ⟨h1, ⟨vv, vc, vg, hm.off h6 (fun k hk => ⟨by omega, fun c t e => absurd e (h5 k hk c t (0, 0))⟩)⟩, h3.new h6 (fun k hk => by omega), (h6.block N (Array.getElem?_eq_some_iff.1 h7).1 (by omega)).trans h7⟩
end Go.Proofs.YthohnmplbjhjaaaGreatDoor

namespace Go.Proofs.YthohnmplbjhjaaaGreatDoor
open Go Go.RowKit

theorem next_less (s : St) : (nextT s).2.1.length ≤ s.1.length := (next_word (Nat.le_refl _)).2
theorem known_less (V : List Md.Vr) (x : List UInt8) (s : St) : (knownT V x s).2.1.length ≤ s.1.length := Nat.le_of_eq (congrArg List.length (known_rest V x s))
theorem name_less (V : List Md.Vr) (s : St) : (nameT V s).2.1.length ≤ s.1.length := Nat.le_trans (known_less _ _ _) (next_less s)
theorem ite_rest {p : Prop} [Decidable p] {a b s : St} (ha : a.1 = s.1) (hb : b.1 = s.1) : (if p then a else b).1 = s.1 := by split; exact ha; exact hb
theorem new_less (V : List Md.Vr) (s : St) : (newT V s).2.1.length ≤ s.1.length := by
  have h : (newT V s).2.1 = (nextT s).2.1 := by
    unfold newT
    refine ite_rest ((fail_rest _ _).trans ?_) ?_
    · exact ite_rest rfl (fail_rest _ _)
    · exact ite_rest rfl (fail_rest _ _)
  rw [h]
  exact next_less s
theorem op_less (s : St) : (rdOp s).2.1.length ≤ s.1.length := by
  have h : (rdOp s).2.1 = (nextT s).2.1 := by
    unfold rdOp
    exact ite_rest (fail_rest _ _) rfl
  rw [h]
  exact next_less s
theorem whole_less (x : List UInt8) (s : St) : (rdWhole x s).2.1 = s.1 := by
  unfold rdWhole
  exact ite_rest rfl (fail_rest _ _)
theorem lo_less (s : St) : (rdLo s).2.1.length ≤ s.1.length := by
  have h : (rdLo s).2.1 = (nextT s).2.1 := by
    unfold rdLo
    exact ite_rest (whole_less _ _) ((fail_rest _ _).trans (whole_less _ _))
  rw [h]
  exact next_less s
theorem hi_less (lo : Int) (s : St) : (rdHi lo s).2.1.length ≤ s.1.length := by
  have h : (rdHi lo s).2.1 = (nextT s).2.1 := by
    unfold rdHi
    exact ite_rest (whole_less _ _) ((fail_rest _ _).trans (whole_less _ _))
  rw [h]
  exact next_less s
theorem bounds_less (s : St) : (rdBounds s).2.1.length ≤ s.1.length := Nat.le_trans (hi_less _ _) (lo_less s)
theorem term_less (V : List Md.Vr) (x : List UInt8) (s : St) : (rdTerm V x s).2.1.length ≤ s.1.length := by
  unfold rdTerm
  refine Nat.le_trans (name_less V _) ?_
  refine Nat.le_of_eq (congrArg List.length ?_)
  unfold cfT
  exact ite_rest ((fail_rest _ _).trans (whole_less _ _)) (whole_less _ _)
theorem value_less (x : List UInt8) (s : St) : (rdValue x s).2.1.length ≤ s.1.length := Nat.le_of_eq (congrArg List.length (value_rest x s))
theorem listGo_less {α : Type} {rd : List UInt8 → St → α × St} (hr : ∀ x s, (rd x s).2.1.length ≤ s.1.length) : ∀ (k : Nat) (all : List α) (s : St), (listGo rd k all s).2.1.length ≤ s.1.length
  | 0, all, s => by
    unfold listGo
    cases h : takeT s with
    | none => exact Nat.le_refl _
    | some p => show (failT 47 p.2).1.length ≤ _; rw [fail_rest]; exact Nat.le_of_lt (take_len h).1
  | k + 1, all, s => by
    unfold listGo
    cases h : takeT s with
    | none => exact Nat.le_refl _
    | some p => exact Nat.le_trans (listGo_less hr k _ _) (Nat.le_trans (hr _ _) (Nat.le_of_lt (take_len h).1))
theorem list_less {α : Type} {rd : List UInt8 → St → α × St} (hr : ∀ x s, (rd x s).2.1.length ≤ s.1.length) (s : St) : (rdList rd s).2.1.length ≤ s.1.length :=
  Nat.le_trans (listGo_less hr _ _ _) (Nat.le_trans (hr _ _) (next_less s))
theorem end_less (s : St) : (endT s).1.length ≤ s.1.length := by
  unfold endT
  cases h : takeT s with
  | none => exact Nat.le_refl _
  | some p => show (failT 57 p.2).1.length ≤ _; rw [fail_rest]; exact Nat.le_of_lt (take_len h).1
theorem colsGo_less (V : List Md.Vr) : ∀ (k : Nat) (xs : List Int) (s : St), (colsGo V k xs s).2.1.length ≤ s.1.length
  | 0, xs, s => by
    unfold colsGo
    cases h : takeT s with
    | none => show (failT 52 s).1.length ≤ _; rw [fail_rest]; exact Nat.le_refl _
    | some p =>
      show (if p.1 = [58] then (xs, p.2) else (xs, failT 47 p.2)).2.1.length ≤ _
      split
      · exact Nat.le_of_lt (take_len h).1
      · show (failT 47 p.2).1.length ≤ _; rw [fail_rest]; exact Nat.le_of_lt (take_len h).1
  | k + 1, xs, s => by
    unfold colsGo
    cases h : takeT s with
    | none => show (failT 52 s).1.length ≤ _; rw [fail_rest]; exact Nat.le_refl _
    | some p =>
      show (if p.1 = [58] then (xs, p.2) else colsGo V k (xs ++ [(knownT V p.1 p.2).1]) (knownT V p.1 p.2).2).2.1.length ≤ _
      split
      · exact Nat.le_of_lt (take_len h).1
      · exact Nat.le_trans (colsGo_less V k _ _) (Nat.le_trans (known_less _ _ _) (Nat.le_of_lt (take_len h).1))
theorem cols_less (V : List Md.Vr) (s : St) : (rdCols V s).2.1.length ≤ s.1.length := Nat.le_trans (colsGo_less V _ _ _) (name_less V s)
theorem rowsGo_less (n : Nat) : ∀ (k : Nat) (all : List (List Int)) (s : St), (rowsGo n k all s).2.1.length ≤ s.1.length
  | 0, all, s => by
    unfold rowsGo
    cases h : takeT s with
    | none => exact Nat.le_refl _
    | some p =>
      show (rdRow n _ (failT 47 (nextT (mustT p.1 [58] p.2)).2)).2.1.length ≤ _
      refine Nat.le_trans (row_len _ _ _) ?_
      rw [fail_rest]
      refine Nat.le_trans (next_less _) ?_
      rw [must_rest]
      exact Nat.le_of_lt (take_len h).1
  | k + 1, all, s => by
    unfold rowsGo
    cases h : takeT s with
    | none => exact Nat.le_refl _
    | some p =>
      refine Nat.le_trans (rowsGo_less n k _ _) (Nat.le_trans (row_len _ _ _) (Nat.le_trans (next_less _) ?_))
      rw [must_rest]
      exact Nat.le_of_lt (take_len h).1
theorem rows_less (n : Nat) (s : St) : (rdRows n s).2.1.length ≤ s.1.length := Nat.le_trans (rowsGo_less n _ _ _) (Nat.le_trans (row_len _ _ _) (next_less s))
theorem form_less (V : List Md.Vr) (k : Nat) (s : St) : (formT V k s).2.1.length ≤ s.1.length := by
  have hk := known_less V
  have ht := term_less V
  unfold formT
  split
  · exact Nat.le_trans (list_less ht _) (Nat.le_trans (number_len _) (op_less s))
  split
  · exact Nat.le_trans (end_less _) (Nat.le_trans (number_len _) (Nat.le_trans (name_less V _) (name_less V s)))
  split
  · exact list_less hk s
  split
  · exact Nat.le_trans (list_less value_less _) (Nat.le_trans (name_less V _) (name_less V s))
  split
  · exact Nat.le_trans (list_less hk _) (name_less V s)
  split
  · exact Nat.le_trans (list_less hk _) (name_less V s)
  split
  · refine Nat.le_trans (list_less ht _) (Nat.le_trans (number_len _) ?_)
    rw [must_rest]
    exact Nat.le_trans (next_less _) (name_less V s)
  split
  · exact Nat.le_trans (rows_less _ _) (cols_less V s)
  split
  · exact Nat.le_trans (list_less hk _) (Nat.le_trans (number_len _) (Nat.le_trans (number_len _) (op_less s)))
  split
  · exact Nat.le_trans (end_less _) (Nat.le_trans (bounds_less _) (new_less V s))
  · exact list_less ht s
theorem say_less (m : Md.Mo) (w : List UInt8) (s : St) : (sayT m w s).2.1.length ≤ s.1.length := by
  unfold sayT
  split
  · show (failT 51 s).1.length ≤ _; rw [fail_rest]; exact Nat.le_refl _
  · refine Nat.le_trans (form_less _ _ _) ?_
    rw [fail_rest]
    exact Nat.le_refl _
end Go.Proofs.YthohnmplbjhjaaaGreatDoor
