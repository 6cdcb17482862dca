/-
  The document's store in memory: lists of lists, each in blocks of the store's own.
-/
import Derived.Test.YtdfbmfikhccajaaGreatDoorJ26
import Derived.Test.YtdfbmfikhccajaaGreatDoorJ04
import Derived.BigQuiet
namespace Go.Proofs.YtdfbmfikhccajaaGreatDoor
open Go.RowKit

theorem un38 : Tryz.prog.underlying 38 = some (.slice 3) := by kernel_rfl
theorem un63 : Tryz.prog.underlying 59 = some (.slice 38) := by kernel_rfl
theorem un64 : Tryz.prog.underlying 83 = some (.slice 59) := by kernel_rfl
theorem inf3 : (Tryz.prog.info? 3).map (fun i => (i.zero, i.size, i.bytes)) = some (some (.int .i64 0), 1, 8) := by kernel_rfl
theorem inf53 : (Tryz.prog.info? 38).map (fun i => (i.zero, i.size, i.bytes)) = some (some (.slice none 0 0), 1, 24) := by kernel_rfl
theorem inf63 : (Tryz.prog.info? 59).map (fun i => (i.zero, i.size, i.bytes)) = some (some (.slice none 0 0), 1, 24) := by kernel_rfl

/-- A list of ints in blocks of S. -/
def LsR (S : Nat → Prop) (w : World) (v : Value) (L : List Int) : Prop := w.ownsRow 0 3 1 v L.length (L.map (.int .i64)) ∧ ∀ g, v.ownBlock = some g → S g
def LssR (S : Nat → Prop) (w : World) (v : Value) (LL : List (List Int)) : Prop := ∃ cs, w.ownsRow 0 38 1 v LL.length cs ∧ (∀ g, v.ownBlock = some g → S g) ∧ ∀ i (h : i < LL.length), ∃ u, cs[i]? = some u ∧ LsR S w u LL[i]
def MksR (S : Nat → Prop) (w : World) (v dv : Value) (MM : List (List (List Int))) : Prop := ∃ cs, w.ownsRow 0 59 1 v MM.length cs ∧ (∀ g, v.ownBlock = some g → S g) ∧ ∀ i (h : i < MM.length), ∃ u, cs[i]? = some u ∧ LssR S w u MM[i] ∧ ∀ g, dv.ownBlock = some g → u.ownBlock ≠ some g
/-- Short lists. -/
structure Few (LL : List (List Int)) : Prop where
  n : LL.length ≤ 32
  ls : ∀ L ∈ LL, L.length ≤ 64
structure RsAt (B : Nat) (S : Nat → Prop) (w : World) (r : Nat) (LL : List (List Int)) (MM : List (List (List Int))) : Prop where
  ex : ∃ dv mv, w.heap[r]? = some (.cells #[dv, mv] 85 (0, 0)) ∧ LssR S w dv LL ∧ MksR S w mv dv MM
  sr : S r
  lo : ∀ k, S k → B ≤ k
  lt : ∀ k, S k → k < w.heap.size
  few : Few LL
  fews : ∀ M ∈ MM, Few M
  ms : MM.length ≤ 10000

theorem own_keep {w w' : World} {B : Nat} {e : TypeId} {size : Nat} {v : Value} {n : Nat} {xs : List Value} (h : w.ownsRow B e size v n xs) (hk : ∀ g, v.ownBlock = some g → w'.heap[g]? = w.heap[g]?) : w'.ownsRow B e size v n xs := by
  refine ⟨h.1, ?_⟩
  rcases h.2 with h1 | ⟨g, cap, cur, hv, hg, hc, h2⟩
  · exact .inl h1
  · exact .inr ⟨g, cap, cur, hv, hg, (hk g (by rw [hv]; rfl)).trans hc, h2⟩
theorem own_lessR {w : World} {B C : Nat} {e : TypeId} {size : Nat} {v : Value} {n : Nat} {xs : List Value} (h : w.ownsRow B e size v n xs) (hb : C ≤ B) : w.ownsRow C e size v n xs := by
  refine ⟨h.1, ?_⟩
  rcases h.2 with h1 | ⟨g, cap, cur, hv, hg, h2⟩
  · exact .inl h1
  · exact .inr ⟨g, cap, cur, hv, Nat.le_trans hb hg, h2⟩
/-- A row's block has its type. -/
theorem own_type {w : World} {B : Nat} {e : TypeId} {size : Nat} {v : Value} {n : Nat} {xs : List Value} (h : w.ownsRow B e size v n xs) {g : Nat} (hg : v.ownBlock = some g) : ∃ cur, w.heap[g]? = some (.cells cur e (0, 0)) := by
  rcases h.2 with ⟨h1, _⟩ | ⟨g', cap, cur, hv, _, hc, _⟩
  · rw [h1] at hg; cases hg
  · rw [hv] at hg
    injection hg with hg
    exact ⟨cur, by rw [← hg]; exact hc⟩
section
variable {B : Nat} {S T : Nat → Prop} {w w' : World}
theorem LsR.keep {v : Value} {L : List Int} (h : LsR S w v L) (hk : ∀ k, S k → w'.heap[k]? = w.heap[k]?) : LsR S w' v L := ⟨own_keep h.1 fun g hg => hk g (h.2 g hg), h.2⟩
theorem LssR.keep {v : Value} {LL : List (List Int)} (h : LssR S w v LL) (hk : ∀ k, S k → w'.heap[k]? = w.heap[k]?) : LssR S w' v LL := by
  obtain ⟨cs, h1, h2, h3⟩ := h
  refine ⟨cs, own_keep h1 fun g hg => hk g (h2 g hg), h2, fun i hi => ?_⟩
  obtain ⟨u, hu, hl⟩ := h3 i hi
  exact ⟨u, hu, hl.keep hk⟩
theorem MksR.keep {v dv : Value} {MM : List (List (List Int))} (h : MksR S w v dv MM) (hk : ∀ k, S k → w'.heap[k]? = w.heap[k]?) : MksR S w' v dv MM := by
  obtain ⟨cs, h1, h2, h3⟩ := h
  refine ⟨cs, own_keep h1 fun g hg => hk g (h2 g hg), h2, fun i hi => ?_⟩
  obtain ⟨u, hu, hl, ha⟩ := h3 i hi
  exact ⟨u, hu, hl.keep hk, ha⟩
theorem LsR.more {v : Value} {L : List Int} (h : LsR S w v L) (hs : ∀ k, S k → T k) : LsR T w v L := ⟨h.1, fun g hg => hs g (h.2 g hg)⟩
theorem LssR.more {v : Value} {LL : List (List Int)} (h : LssR S w v LL) (hs : ∀ k, S k → T k) : LssR T w v LL := by
  obtain ⟨cs, h1, h2, h3⟩ := h
  refine ⟨cs, h1, fun g hg => hs g (h2 g hg), fun i hi => ?_⟩
  obtain ⟨u, hu, hl⟩ := h3 i hi
  exact ⟨u, hu, hl.more hs⟩
theorem MksR.more {v dv : Value} {MM : List (List (List Int))} (h : MksR S w v dv MM) (hs : ∀ k, S k → T k) : MksR T w v dv MM := by
  obtain ⟨cs, h1, h2, h3⟩ := h
  refine ⟨cs, h1, fun g hg => hs g (h2 g hg), fun i hi => ?_⟩
  obtain ⟨u, hu, hl, ha⟩ := h3 i hi
  exact ⟨u, hu, hl.more hs, ha⟩
variable {r : Nat} {LL : List (List Int)} {MM : List (List (List Int))}
theorem RsAt.keep (h : RsAt B S w r LL MM) (hz : w.heap.size ≤ w'.heap.size) (hk : ∀ k, S k → w'.heap[k]? = w.heap[k]?) : RsAt B S w' r LL MM := by
  obtain ⟨dv, mv, h1, h2, h3⟩ := h.ex
  exact { h with
    ex := ⟨dv, mv, (hk r h.sr).trans h1, h2.keep hk, h3.keep hk⟩
    lt := fun k hS => Nat.lt_of_lt_of_le (h.lt k hS) hz }
theorem RsAt.below (h : RsAt B S w r LL MM) (hb : Below w.heap.size w w') : RsAt B S w' r LL MM := h.keep hb.size fun k hk => hb.block k (h.lt k hk)
end
/-- What is changed: the store's own blocks alone. -/
structure SStp (B : Nat) (S : Nat → Prop) (w w' : World) : Prop where
  below : Below B w w'
  off : Off S w w'
theorem SStp.refl (B : Nat) (S : Nat → Prop) (w : World) : SStp B S w w := ⟨Below.refl _ _, Off.refl _ _⟩
theorem SStp.of_below {B : Nat} {S : Nat → Prop} {w w' : World} (h : Below w.heap.size w w') (hB : B ≤ w.heap.size) : SStp B S w w' := ⟨h.mono hB, Off.of_below h⟩
/-- Blocks that came besides are new. -/
def Grown (S : Nat → Prop) (w w' : World) (S' : Nat → Prop) : Prop := ∀ k, S' k → S k ∨ (w.heap.size ≤ k ∧ k < w'.heap.size)
theorem Grown.refl (S : Nat → Prop) (w w' : World) : Grown S w w' S := fun _ h => .inl h

/-- The lists as they are read. -/
theorem LsR.form {S : Nat → Prop} {w : World} {v : Value} {L : List Int} (h : LsR S w v L) : ∃ a cap, v = .slice a L.length cap ∧ ∀ j (hj : j < L.length), ∃ g, a = some ⟨g, 0, none⟩ ∧ S g ∧ w.cell? ⟨g, j, none⟩ = some (.int .i64 L[j]) := by
  rcases own_cells h.1 with ⟨hv, hn⟩ | ⟨g, cap, hv, _, hg, _, hc⟩
  · exact ⟨none, 0, by rw [hv, hn], fun j hj => absurd hj (by omega)⟩
  · exact ⟨_, cap, hv, fun j hj => ⟨g, rfl, h.2 g (by rw [hv]; rfl), hc j _ (by simp [hj])⟩⟩
theorem LssR.form {S : Nat → Prop} {w : World} {v : Value} {LL : List (List Int)} (h : LssR S w v LL) : ∃ a cap, v = .slice a LL.length cap ∧ ∀ j (hj : j < LL.length), ∃ g u, a = some ⟨g, 0, none⟩ ∧ S g ∧ w.cell? ⟨g, j, none⟩ = some u ∧ LsR S w u LL[j] ∧ ∀ i, w.frozen? ⟨g, i, none⟩ = false := by
  obtain ⟨cs, h1, h2, h3⟩ := h
  rcases own_cells h1 with ⟨hv, hn⟩ | ⟨g, cap, hv, _, hg, _, hc⟩
  · exact ⟨none, 0, by rw [hv, hn], fun j hj => absurd hj (by omega)⟩
  · refine ⟨_, cap, hv, fun j hj => ?_⟩
    obtain ⟨u, hu, hl⟩ := h3 j hj
    obtain ⟨cur, hcur⟩ := own_type h1 (g := g) (by rw [hv]; rfl)
    exact ⟨g, u, rfl, h2 g (by rw [hv]; rfl), hc j u hu, hl, frozen_of hcur⟩
/-- A list is put in another's place. -/
theorem LssR.put {S : Nat → Prop} {w : World} {g cap : Nat} {LL : List (List Int)} {q : Nat} {u : Value} {L : List Int} (h : LssR S w (.slice (some ⟨g, 0, none⟩) LL.length cap) LL) (hq : q < LL.length) (hu : LsR S w u L) : LssR S (w.setCell ⟨g, q, none⟩ u) (.slice (some ⟨g, 0, none⟩) LL.length cap) (LL.set q L) := by
  obtain ⟨cs, h1, h2, h3⟩ := h
  obtain ⟨cur, hcur⟩ := own_type h1 (g := g) rfl
  have hl : cs.length = LL.length := by have := h1.1; omega
  have inner : ∀ {v : Value} {M : List Int}, LsR S w v M → LsR S (w.setCell ⟨g, q, none⟩ u) v M := fun {v M} hv => by
    refine ⟨own_keep hv.1 fun g' hg' => heap_setCell_other _ _ _ _ fun e => ?_, hv.2⟩
    obtain ⟨cur', hcur'⟩ := own_type hv.1 hg'
    rw [e, hcur] at hcur'
    injection hcur' with hcur'
    injection hcur' with _ e2 _
    cases e2
  refine ⟨cs.set q u, ?_, h2, fun i hi => ?_⟩
  · rw [List.length_set]
    exact (h1.stored q u).1
  · rw [List.length_set] at hi
    by_cases e : i = q
    · subst e
      exact ⟨u, by rw [List.getElem?_set_self (by omega)], by rw [List.getElem_set_self]; exact inner hu⟩
    · obtain ⟨u', hu', hl'⟩ := h3 i hi
      exact ⟨u', by rw [List.getElem?_set_ne (by omega)]; exact hu', by rw [List.getElem_set_ne (by omega)]; exact inner hl'⟩
/-- Marks stay, where a list is put into the store's own row. -/
theorem MksR.set {S : Nat → Prop} {w : World} {g q : Nat} {v dv u : Value} {MM : List (List (List Int))} {cur : Array Value} (h : MksR S w v dv MM) (hd : dv.ownBlock = some g) (hcur : w.heap[g]? = some (.cells cur 38 (0, 0))) : MksR S (w.setCell ⟨g, q, none⟩ u) v dv MM := by
  have far : ∀ {B : Nat} {e : TypeId} {size : Nat} {v : Value} {n : Nat} {xs : List Value}, w.ownsRow B e size v n xs → e ≠ 38 → (w.setCell ⟨g, q, none⟩ u).ownsRow B e size v n xs := fun {B e size v n xs} h1 he =>
    own_keep h1 fun g' hg' => heap_setCell_other _ _ _ _ fun e1 => by
      obtain ⟨cur', hcur'⟩ := own_type h1 hg'
      rw [e1, hcur] at hcur'
      injection hcur' with hcur'
      injection hcur' with _ e2 _
      exact he e2.symm
  obtain ⟨cs, h1, h2, h3⟩ := h
  refine ⟨cs, far h1 (by decide), h2, fun i hi => ?_⟩
  obtain ⟨x, hx, ⟨ds, k1, k2, k3⟩, ha⟩ := h3 i hi
  refine ⟨x, hx, ⟨ds, own_keep k1 fun g' hg' => heap_setCell_other _ _ _ _ fun e => ?_, k2, fun j hj => ?_⟩, ha⟩
  · subst e
    exact ha _ hd hg'
  · obtain ⟨y, hy, hl⟩ := k3 j hj
    exact ⟨y, hy, far hl.1 (by decide), hl.2⟩
theorem rs_put {B : Nat} {S : Nat → Prop} {w w' : World} {r : Nat} {LL : List (List Int)} {MM : List (List (List Int))} {g cap q : Nat} {mv u : Value} {L : List Int} (h : RsAt B S w r LL MM) (ho : w.heap[r]? = some (.cells #[.slice (some ⟨g, 0, none⟩) LL.length cap, mv] 85 (0, 0))) (hd : LssR S w (.slice (some ⟨g, 0, none⟩) LL.length cap) LL) (hm : MksR S w mv (.slice (some ⟨g, 0, none⟩) LL.length cap) MM) (hq : q < LL.length)
    (hb : Below w.heap.size w w') (hu : w'.ownsRow w.heap.size 3 1 u L.length (L.map (.int .i64))) (hl : L.length ≤ 64) :
    ∃ S', RsAt B S' (w'.setCell ⟨g, q, none⟩ u) r (LL.set q L) MM ∧ SStp B S w (w'.setCell ⟨g, q, none⟩ u) ∧ Grown S w (w'.setCell ⟨g, q, none⟩ u) S' := by
  have hk : ∀ k, S k → w'.heap[k]? = w.heap[k]? := fun k hS => hb.block k (h.lt k hS)
  obtain ⟨cur, hcur⟩ : ∃ cur, w.heap[g]? = some (.cells cur 38 (0, 0)) := by
    obtain ⟨cs, h1, _⟩ := hd
    exact own_type h1 (g := g) rfl
  have hSg : S g := by
    obtain ⟨cs, _, h2, _⟩ := hd
    exact h2 g rfl
  have hrg : r ≠ g := fun e => by
    rw [e, hcur] at ho
    injection ho with ho
    injection ho with _ e2 _
    cases e2
  have hcur' := (hk g hSg).trans hcur
  have hBw : B ≤ w.heap.size := Nat.le_of_lt (Nat.lt_of_le_of_lt (h.lo r h.sr) (h.lt r h.sr))
  have hsz : (w'.setCell ⟨g, q, none⟩ u).heap.size = w'.heap.size := by simp
  have hul : ∀ k, u.ownBlock = some k → w.heap.size ≤ k ∧ k < w'.heap.size := fun k hk => hu.lt k hk
  refine ⟨fun k => S k ∨ u.ownBlock = some k, ⟨⟨.slice (some ⟨g, 0, none⟩) LL.length cap, mv, ?_, ?_, ?_⟩, .inl h.sr, ?_, ?_, ⟨by rw [List.length_set]; exact h.few.n, ?_⟩, h.fews, h.ms⟩, ⟨?_, ?_⟩, ?_⟩
  · exact (heap_setCell_other _ _ _ _ hrg).trans ((hk r h.sr).trans ho)
  · exact ((hd.keep hk).more (T := fun k => S k ∨ u.ownBlock = some k) (fun k e => .inl e)).put hq ⟨own_lessR hu (Nat.zero_le _), fun g hg => .inr hg⟩
  · exact ((hm.keep hk).more (T := fun k => S k ∨ u.ownBlock = some k) (fun k e => .inl e)).set rfl hcur'
  · rintro k (e | e)
    · exact h.lo k e
    · exact Nat.le_trans hBw (hul k e).1
  · rintro k (e | e)
    · rw [hsz]; exact Nat.lt_of_lt_of_le (h.lt k e) hb.size
    · rw [hsz]; exact (hul k e).2
  · intro M hM
    rcases List.mem_or_eq_of_mem_set hM with hM | rfl
    · exact h.few.ls M hM
    · exact hl
  · exact (hb.mono hBw).setCell (h.lo g hSg) _
  · exact (Off.of_below hb).trans (Off.set _ hSg)
  · rintro k (e | e)
    · exact .inl e
    · exact .inr (by rw [hsz]; exact hul k e)
end Go.Proofs.YtdfbmfikhccajaaGreatDoor
