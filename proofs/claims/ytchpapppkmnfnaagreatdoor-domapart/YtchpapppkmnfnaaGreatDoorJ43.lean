/-
  Put together: BiSg, BiFr.
-/
import Derived.Test.YtchpapppkmnfnaaGreatDoorBiAt
import Derived.Test.YtchpapppkmnfnaaGreatDoorJ28
import Derived.Test.YtchpapppkmnfnaaGreatDoorJ21
namespace Go.Proofs.YtchpapppkmnfnaaGreatDoor
open Go.RowKit

structure Sg (w : World) (P : Nat) (turn deep : Int) (t : Tx) (L : List Rw) : Prop where
  box : BkAt w P false turn deep t
  its : Its w L
  typ : ∀ x ∈ L, x.2.1 = 42 ∨ x.2.1 = 3
theorem Sg.lt {w : World} {P : Nat} {turn deep : Int} {t : Tx} {L : List Rw} (h : Sg w P turn deep t L) : P < w.heap.size := (Array.getElem?_eq_some_iff.1 h.box).1
theorem row_type {w : World} {B : Nat} {e : TypeId} {size : Nat} {v : Value} {n : Nat} {xs : List Value} (h : w.ownsRow B e size v n xs) {g : Nat} (hg : v.ownBlock = some g) : ∃ cur, w.heap[g]? = some (.cells cur e (0, 0)) := by
  rcases h.2 with ⟨h1, _⟩ | ⟨g', cap, cur, hv, _, hc, _⟩
  · rw [h1] at hg; cases hg
  · rw [hv] at hg
    injection hg with hg
    exact ⟨cur, by rw [← hg]; exact hc⟩
theorem Sg.ne {w : World} {P : Nat} {turn deep : Int} {t : Tx} {L : List Rw} (h : Sg w P turn deep t L) {x : Rw} (hx : x ∈ L) : x.1.ownBlock ≠ some P := fun e => by
  obtain ⟨cur, hc⟩ := row_type (h.its.row x hx) e
  have hb := h.box
  unfold BkAt at hb
  rw [hb] at hc
  injection hc with hc
  injection hc with _ e2 _
  rcases h.typ x hx with e3 | e3 <;> rw [e3] at e2 <;> cases e2
theorem Sg.below {w w' : World} {P : Nat} {turn deep : Int} {t : Tx} {L : List Rw} (h : Sg w P turn deep t L) (hb : Below w.heap.size w w') : Sg w' P turn deep t L := ⟨(hb.block P h.lt).trans h.box, h.its.below hb, h.typ⟩
theorem Sg.put {w : World} {P : Nat} {turn deep turn' deep' : Int} {t t' : Tx} {L : List Rw} (h : Sg w P turn deep t L) (i : Nat) (v : Value) (e : (bookCs false turn deep t).setIfInBounds i v = bookCs false turn' deep' t') : Sg (w.setCell ⟨P, i, none⟩ v) P turn' deep' t' L :=
  ⟨h.box.set i v e, h.its.keep fun x hx g hg => heap_setCell_other _ _ _ _ fun e2 => h.ne hx (by rw [hg, e2]), h.typ⟩
/-- An append to a row. -/
theorem Sg.app {w w' : World} {P : Nat} {turn deep : Int} {t : Tx} {A C : List Rw} {v v' u : Value} {ty : TypeId} {xs : List Value} (h : Sg w P turn deep t (A ++ (v, ty, xs) :: C)) (ho : w'.ownsRow 0 ty 1 v' (xs.length + 1) (xs ++ [u])) (hg : (w.alloc (.cells #[u] ty)).grownBy w' v.ownBlock) (hn : v'.ownBlock = v.ownBlock ∨ v'.ownBlock = some (w.heap.size + 1)) : Sg w' P turn deep t (A ++ (v', ty, xs ++ [u]) :: C) := by
  refine ⟨?_, h.its.app ho hg hn, fun x hx => ?_⟩
  · have h1 : w'.heap[P]? = w.heap[P]? := by
      rw [hg.block P (by have := h.lt; simp; omega) (fun e => h.ne (x := (v, ty, xs)) (by simp) e.symm), heap_alloc_old w _ h.lt]
    exact h1.trans h.box
  · rcases List.mem_append.1 hx with a | a
    · exact h.typ x (List.mem_append_left _ a)
    · rcases List.mem_cons.1 a with a | a
      · rw [a]; exact h.typ (v, ty, xs) (by simp)
      · exact h.typ x (List.mem_append_right _ (List.mem_cons_of_mem _ a))
theorem Sg.add {w : World} {P : Nat} {turn deep : Int} {t : Tx} {L : List Rw} {x : Rw} (h : Sg w P turn deep t L) (hr : w.ownsRow 0 x.2.1 1 x.1 x.2.2.length x.2.2) (hb : ∀ g, x.1.ownBlock = some g → ∀ y ∈ L, y.1.ownBlock ≠ some g) (ht : x.2.1 = 42 ∨ x.2.1 = 3) : Sg w P turn deep t (x :: L) :=
  ⟨h.box, h.its.add hr hb, fun y hy => by
    rcases List.mem_cons.1 hy with a | a
    · rw [a]; exact ht
    · exact h.typ y a⟩
theorem Sg.perm {w : World} {P : Nat} {turn deep : Int} {t : Tx} {L M : List Rw} (h : Sg w P turn deep t L) (hp : L.Perm M) : Sg w P turn deep t M := ⟨h.box, h.its.perm hp, fun x hx => h.typ x (hp.mem_iff.2 hx)⟩
theorem Sg.sub {w : World} {P : Nat} {turn deep : Int} {t : Tx} {L M : List Rw} (h : Sg w P turn deep t L) (hs : M.Sublist L) : Sg w P turn deep t M := ⟨h.box, h.its.sub hs, fun x hx => h.typ x (hs.subset hx)⟩

set_option maxRecDepth 10000 in
set_option maxHeartbeats 1000000 in
theorem due_any (P : Nat) (turn deep : Int) (t : Tx) (n : Nat) (w : World) (h : BkAt w P false turn deep t) (hl : 0 ≤ turn ∧ turn ≤ 100000) (hn : n ≤ 1000000) : Calls Tryz.prog 42 #[.pointer (some ⟨P, 0, none⟩), .int .i64 (n : Int)] w fun e w' => (∃ d : Int, e = .returned (.int .i64 d) ∧ turn ≤ d ∧ d ≤ turn + 8) ∧ w' = w := by
  have c0 : w.cell? ⟨P, 0, none⟩ = some (.bool false) := h.cell 0 _ rfl
  have c2 : w.cell? ⟨P, 2, none⟩ = some (.int .i64 turn) := h.cell 2 _ rfl
  clear h
  obtain ⟨h1, h2⟩ := hl
  have hm : (n : Int).tmod 3 = ((n % 3 : Nat) : Int) := rfl
  have hd : (n : Int).tdiv 3 = ((n / 3 : Nat) : Int) := rfl
  have hd8 : ((n / 3 : Nat) : Int).tmod 8 = ((n / 3 % 8 : Nat) : Int) := rfl
  have hlt : n / 3 % 8 < 8 := Nat.mod_lt _ (by decide)
  obtain ⟨q, hq⟩ : ∃ q, n / 3 % 8 = q := ⟨_, rfl⟩
  obtain ⟨m, hmm⟩ : ∃ m, n % 3 = m := ⟨_, rfl⟩
  have hm3 : m < 3 := by omega
  rw [hmm] at hm
  rw [hq] at hd8 hlt
  have e1 : IntKind.i64.wrap (turn + 1) = turn + 1 := wrap_id (by omega) (by omega)
  have e2 : IntKind.i64.wrap (turn + 1 + (q : Int)) = turn + 1 + (q : Int) := wrap_id (by omega) (by omega)
  by_cases h0 : m = 0
  · subst h0
    go_enter Tryz.func42, Tryz.ntmps42
    go_wp2_with fail
    go_ret
    exact ⟨⟨_, rfl, by omega, by omega⟩, rfl⟩
  by_cases h1 : m = 1
  · subst h1
    go_enter Tryz.func42, Tryz.ntmps42
    go_wp2_with fail
    go_ret
    exact ⟨⟨_, rfl, by omega, by omega⟩, rfl⟩
  have h2' : m = 2 := by omega
  subst h2'
  go_enter Tryz.func42, Tryz.ntmps42
  go_wp2_with fail
  go_ret
  exact ⟨⟨_, rfl, by omega, by omega⟩, rfl⟩
end Go.Proofs.YtchpapppkmnfnaaGreatDoor

namespace Go.Proofs.YtchpapppkmnfnaaGreatDoor
open Go.RowKit

/-- The book's blocks. -/
def BS (P : Nat) (L : List Rw) (k : Nat) : Prop := k = P ∨ ∃ x ∈ L, x.1.ownBlock = some k
/-- From w on the blocks of S alone, and new ones, were changed; what the book has now is S's, or new. -/
structure Fr (B : Nat) (S : Nat → Prop) (w w' : World) (P : Nat) (L : List Rw) : Prop where
  st : SStp B S w w'
  gr : Grown S w w' (BS P L)
theorem Fr.refl (B : Nat) (w : World) (P : Nat) (L : List Rw) : Fr B (BS P L) w w P L := ⟨SStp.refl _ _ _, Grown.refl _ _ _⟩
section
variable {B P : Nat} {S : Nat → Prop} {w0 w w' : World} {turn deep turn' deep' : Int} {t t' : Tx} {L : List Rw}
theorem Fr.next {L' : List Rw} (h : Fr B S w0 w P L) (h1 : SStp B (BS P L) w w') (h2 : Grown (BS P L) w w' (BS P L')) : Fr B S w0 w' P L' :=
  ⟨⟨h.st.below.trans h1.below, ⟨Nat.le_trans h.st.off.size h1.off.size, fun k hk hn => (h1.off.block k (Nat.lt_of_lt_of_le hk h.st.off.size) fun e => by
      rcases h.gr k e with a | a
      · exact hn a
      · omega).trans (h.st.off.block k hk hn)⟩⟩, fun k hk => by
    rcases h2 k hk with a | a
    · rcases h.gr k a with b | b
      · exact .inl b
      · exact .inr ⟨b.1, Nat.lt_of_lt_of_le b.2 h1.off.size⟩
    · exact .inr ⟨Nat.le_trans h.st.off.size a.1, a.2⟩⟩
theorem Fr.below (h : Fr B S w0 w P L) (hb : Below w.heap.size w w') (hB : B ≤ w.heap.size) : Fr B S w0 w' P L := h.next (SStp.of_below hb hB) (Grown.refl _ _ _)
theorem Fr.put (h : Fr B S w0 w P L) (hP : B ≤ P) (i : Nat) (v : Value) : Fr B S w0 (w.setCell ⟨P, i, none⟩ v) P L :=
  h.next ⟨(Below.refl _ _).setCell hP _, Off.set _ (.inl rfl)⟩ (Grown.refl _ _ _)
theorem Fr.app {A C : List Rw} {v v' u : Value} {ty : TypeId} {xs : List Value} (h : Fr B S w0 w P (A ++ (v, ty, xs) :: C)) (hs : Sg w P turn deep t (A ++ (v, ty, xs) :: C)) (hB : ∀ k, BS P (A ++ (v, ty, xs) :: C) k → B ≤ k) (ho : w'.ownsRow 0 ty 1 v' (xs.length + 1) (xs ++ [u])) (hg : (w.alloc (.cells #[u] ty)).grownBy w' v.ownBlock) (hn : v'.ownBlock = v.ownBlock ∨ v'.ownBlock = some (w.heap.size + 1)) : Fr B S w0 w' P (A ++ (v', ty, xs ++ [u]) :: C) := by
  have hv : ∀ k, v.ownBlock = some k → BS P (A ++ (v, ty, xs) :: C) k := fun k hk => .inr ⟨(v, ty, xs), by simp, hk⟩
  have hBw : B ≤ w.heap.size := Nat.le_of_lt (Nat.lt_of_le_of_lt (hB P (.inl rfl)) hs.lt)
  refine h.next ⟨((Below.refl B w).alloc hBw _).grown hg (by simp; omega) (fun k hk => hB k (hv k hk)), (Off.of_below ((Below.refl _ _).alloc (Nat.le_refl _) _)).trans (Off.grown hg fun k hk => hv k hk)⟩ fun k hk => ?_
  rcases hk with e | ⟨x, hx, e⟩
  · exact .inl (.inl e)
  · rcases List.mem_append.1 hx with a | a
    · exact .inl (.inr ⟨x, List.mem_append_left _ a, e⟩)
    · rcases List.mem_cons.1 a with a | a
      · subst a
        rcases hn with b | b
        · exact .inl (hv k (by rw [← b]; exact e))
        · have h1 : v'.ownBlock = some k := e
          rw [b] at h1
          injection h1 with h1
          exact .inr ⟨by omega, (ho.lt k e).2⟩
      · exact .inl (.inr ⟨x, List.mem_append_right _ (List.mem_cons_of_mem _ a), e⟩)
theorem Fr.lo (h : Fr B S w0 w P L) (hS : ∀ k, S k → B ≤ k) (hB : B ≤ w0.heap.size) : ∀ k, BS P L k → B ≤ k := fun k hk => by
  rcases h.gr k hk with a | a
  · exact hS k a
  · omega
end
end Go.Proofs.YtchpapppkmnfnaaGreatDoor
