/-
  Put together: PbMerge, PbMerged, MdRegT, PbAdd.
-/
import Derived.Test.YtjffbndiecjkjaaGreatDoorPbFormed
import Derived.Laws.AppendOwnNone
import Derived.Test.YtjffbndiecjkjaaGreatDoorPbOfs
import Derived.BigQuiet
import Derived.OrdersHeld
import Derived.Deep.RegionHeld
namespace Go.Proofs.YtjffbndiecjkjaaGreatDoor
open Go.Shelf Go.RowKit Go.Lib Go.Sort
open Bn (limbs)

/-- Part of a row, in memory that nobody writes. -/
structure PartP (w : World) (u : Value) (L : List PcV) (K : List (Int × Int)) : Prop where
  form : ∃ a c, u = .slice a L.length c ∧ L.length ≤ c ∧ c ≤ maxLen
  src : (u = .slice none 0 0 ∧ L = []) ∨ ∃ b off c, u = .slice (some ⟨b, off, none⟩) L.length c ∧ b < w.heap.size ∧ ∀ j t, (pcCells L)[j]? = some t → w.cell? ⟨b, off + j, none⟩ = some t
  says : Says w L K
theorem PartP.below {w w' : World} {u : Value} {L : List PcV} {K : List (Int × Int)} (h : PartP w u L K) (hb : RowKit.Below w.heap.size w w') : PartP w' u L K := by
  refine ⟨h.form, ?_, h.says.mono (fun _ _ hB => hB.below hb)⟩
  rcases h.src with h1 | ⟨b, off, c, hu, hlt, hc⟩
  · exact .inl h1
  · exact .inr ⟨b, off, c, hu, Nat.lt_of_lt_of_le hlt hb.size, fun j t hj => (hb.cell (p := ⟨b, off + j, none⟩) hlt).trans (hc j t hj)⟩
theorem PiAt.part {w : World} {v : Value} {K : List (Int × Int)} (h : PiAt w v K) : ∃ L, PartP w v L K := by
  have hf := h.form
  rcases h with ⟨rfl, rfl⟩ | ⟨b, cap, L, hv, hlt, hl, hm, hH, hS⟩
  · exact ⟨[], hf, .inl ⟨rfl, rfl⟩, rfl, fun i h => by simp at h⟩
  · refine ⟨L, ⟨_, _, hv, hl, hm⟩, .inr ⟨b, 0, cap, hv, hlt, fun j t hj => ?_⟩, hS⟩
    have hjl : j < L.length * 3 := by
      have := (List.getElem?_eq_some_iff.1 hj).1
      rw [pcCells_length] at this; exact this
    rw [flat_pc L j hjl] at hj
    injection hj with hj
    rw [← hj]
    exact (hH j (by rw [size_flatK]; simpa using hjl)).1
theorem PartP.head {w : World} {a : Option Addr} {n c : Nat} {x : PcV} {L : List PcV} {p : Int × Int} {K : List (Int × Int)} (h : PartP w (.slice a n c) (x :: L) (p :: K)) :
    ∃ b off, a = some ⟨b, off, none⟩ ∧ b < w.heap.size ∧ w.cell? ⟨b, off, none⟩ = some (.int .i64 x.1) ∧ w.cell? ⟨b, off + 1, none⟩ = some (.pointer x.2.1) ∧ w.cell? ⟨b, off + 2, none⟩ = some (.int .i64 x.2.2) ∧ Say w x p := by
  rcases h.src with ⟨_, h1⟩ | ⟨b, off, c', hu, hlt, hc⟩
  · cases h1
  · injection hu with e1 _ _
    refine ⟨b, off, e1, hlt, hc 0 _ (by simp [pcCells, encP]), hc 1 _ (by simp [pcCells, encP]), hc 2 _ (by simp [pcCells, encP]), ?_⟩
    exact h.says.2 0 (by simp) (by simp)
theorem Says.tail {w : World} {x : PcV} {L : List PcV} {p : Int × Int} {K : List (Int × Int)} (h : Says w (x :: L) (p :: K)) : Says w L K :=
  ⟨by have := h.1; simpa using this, fun i h1 h2 => by have := h.2 (i + 1) (by simpa using h1) (by simpa using h2); simpa using this⟩
theorem PartP.tail {w : World} {b off n c : Nat} {a' : Option Addr} {x : PcV} {L : List PcV} {p : Int × Int} {K : List (Int × Int)} (h : PartP w (.slice (some ⟨b, off, none⟩) n c) (x :: L) (p :: K)) (hn : n = L.length + 1) (ha : a' = if c = 1 then some ⟨b, off, none⟩ else some ⟨b, off + 3, none⟩) :
    PartP w (.slice a' L.length (c - 1)) L K := by
  obtain ⟨a2, c2, hf, hl, hm⟩ := h.form
  injection hf with _ _ e3
  subst e3
  simp only [List.length_cons] at hl
  refine ⟨⟨_, _, rfl, by omega, by omega⟩, ?_, h.says.tail⟩
  rcases h.src with ⟨h0, _⟩ | ⟨b', off', c', hu, hlt, hc⟩
  · cases h0
  · injection hu with e1 _ _
    injection e1 with e1
    injection e1 with e1 e2 _
    subst e1
    subst e2
    by_cases h1 : c = 1
    · rw [if_pos h1] at ha
      subst ha
      refine .inr ⟨b, off, c - 1, rfl, hlt, fun j t hj => ?_⟩
      have hL : L = [] := List.eq_nil_of_length_eq_zero (by omega)
      subst hL
      simp [pcCells] at hj
    · rw [if_neg h1] at ha
      subst ha
      refine .inr ⟨b, off + 3, c - 1, rfl, hlt, fun j t hj => ?_⟩
      have := hc (j + 3) t (by
        have : pcCells (x :: L) = encP x ++ pcCells L := by simp [pcCells]
        rw [this, List.getElem?_append_right (by simp [encP])]
        simpa [encP] using hj)
      rw [show off + (j + 3) = off + 3 + j by omega] at this
      exact this
theorem Says.append {w : World} {L L2 : List PcV} {K K2 : List (Int × Int)} (h : Says w L K) (h2 : Says w L2 K2) : Says w (L ++ L2) (K ++ K2) := by
  have hl := h.1
  refine ⟨by simp [hl, h2.1], fun i h3 h4 => ?_⟩
  by_cases hi : i < L.length
  · rw [List.getElem_append_left hi, List.getElem_append_left (by omega)]
    exact h.2 i hi (by omega)
  · rw [List.getElem_append_right (by omega), List.getElem_append_right (by omega)]
    simp only [List.length_append] at h3 h4
    have := h2.2 (i - L.length) (by omega) (by omega)
    simpa [hl] using this

/-- Pieces laid behind the pieces of a row of one's own. -/
theorem append_pieces {ops : Array Oper} {rest : List Oper} {o : Oper} {a : Act} {Q : Exit → Act → World → Prop} (wr : World) (hgd : o.guard = none) (s x : Operand)
    (ho : o.op = .call { callee := .builtin .append, args := #[s, x], argTypes := #[30, 30] }) (base : Nat) (v u : Value) (L L2 : List PcV) (K K2 : List (Int × Int)) (hs : a.eval s = v) (hx : a.eval x = u) (hP : KeptAt wr base v L K) (hu : PartP wr u L2 K2)
    (hn : L.length + L2.length ≤ 2000000) (hbase : base ≤ wr.heap.size)
    (h : ∀ v' w', KeptAt w' base v' (L ++ L2) (K ++ K2) → RowKit.Below base wr w' → wpList Tryz.prog ops Q rest (a.put o.dst v') w') : wpList Tryz.prog ops Q (o :: rest) a wr := by
  obtain ⟨i0, hi, hz0, hz1, hz2⟩ := info_parts Tryz.info67
  rcases hu.src with ⟨h1, h2⟩ | ⟨b, off, c, h1, hlt, hc⟩
  · subst h2
    have hK2 : K2 = [] := List.eq_nil_of_length_eq_zero (by have := hu.says.1; simpa using this.symm)
    subst hK2
    refine wpList_append_own_none hgd s x 30 ho base 67 i0 3 pieceSlice hi v L.length (pcCells L) hs hP.1.1 (hx.trans h1) ?_
    exact h v wr (by simpa using hP) (Below.refl _ _)
  · refine wpList_append_f (F := Plain1) _ hgd s x 30 ho base 67 i0 (.agg #[.int .i64 0, .pointer none, .int .i64 0]) 3 24 pieceSlice hi hz0 hz1 hz2 rfl (by decide) (pcCells_plain [(0, none, 0)]) v L.length (pcCells L) hs hP.1 ⟨b, off, none⟩ L2.length c (pcCells L2) (hx.trans h1) (pcCells_length L2) ?_ ?_ (pcCells_plain L2) ?_ ?_ hbase ?_
    · intro j t hj
      rw [show (⟨b, off, none⟩ : Addr).add j = ⟨b, off + j, none⟩ from by unfold Addr.add; split <;> simp_all]
      exact hc j t hj
    · intro t ht
      simp only [pcCells, List.mem_flatMap] at ht
      obtain ⟨r, _, ht⟩ := ht
      simp only [encP, List.mem_cons, List.not_mem_nil, or_false] at ht
      rcases ht with rfl | rfl | rfl <;> rfl
    · unfold maxLen; omega
    · omega
    · intro v' w' ho' hg' _
      have big : ∀ t z, BigAt wr t z → BigAt w' t z := fun t z hB => by
        cases hv : v.ownBlock with
        | none =>
          rw [hv] at hg'
          exact hB.below ⟨hg'.os, hg'.tape, hg'.output, hg'.size, fun k hk => hg'.block k hk (by simp)⟩
        | some g =>
          rw [hv] at hg'
          exact hB.clean (hP.1.isClean g hv) hg'
      refine h v' w' ⟨?_, (hP.2.mono big).append (hu.says.mono big)⟩ ((Below.refl base wr).grown hg' hbase (fun g hg => (hP.1.1.lt g hg).1))
      rw [List.length_append, show pcCells (L ++ L2) = pcCells L ++ pcCells L2 by simp [pcCells]]
      exact ho'

/-- Pieces in the order of their variables. -/
def Pw (l : List (Int × Int)) : Prop := l.Pairwise fun p q => p.2.natAbs ≤ q.2.natAbs
theorem Pw.climbs {l : List (Int × Int)} (h : Pw l) : Climbs l := fun i j hi hj hij => List.pairwise_iff_getElem.1 h i j hi hj hij
theorem Pm.Rises.pw {l : List (Int × Int)} (h : Pm.Rises l) : Pw l := by
  induction l with
  | nil => exact List.Pairwise.nil
  | cons p l ih => exact List.pairwise_cons.2 ⟨fun q hq => Nat.le_of_lt (h.above q hq), ih h.tail⟩
/-- How far two rows are merged. -/
structure Merg (K K' Kk KA KB : List (Int × Int)) : Prop where
  a : Pw (Kk ++ KA)
  b : Pw (Kk ++ KB)
  perm : (Kk ++ (KA ++ KB)).Perm (K ++ K')
theorem Merg.start {K K' : List (Int × Int)} (h : Pw K) (h' : Pw K') : Merg K K' [] K K' := ⟨h, h', List.Perm.refl _⟩
theorem Merg.left {K K' Kk KA KB : List (Int × Int)} {x y : Int × Int} (h : Merg K K' Kk (x :: KA) (y :: KB)) (hxy : x.2.natAbs ≤ y.2.natAbs) : Merg K K' (Kk ++ [x]) KA (y :: KB) := by
  refine ⟨by have := h.a; simpa [Pw] using this, ?_, by have := h.perm; simpa using this⟩
  have h1 := List.pairwise_append.1 h.a
  have h2 := List.pairwise_append.1 h.b
  have h3 := List.pairwise_cons.1 h2.2.1
  refine List.pairwise_append.2 ⟨List.pairwise_append.2 ⟨h1.1, List.pairwise_singleton _ _, fun p hp q hq => h1.2.2 p hp q (by rw [List.mem_singleton.1 hq]; simp)⟩, h2.2.1, fun p hp q hq => ?_⟩
  rcases List.mem_append.1 hp with hp | hp
  · exact h2.2.2 p hp q hq
  · rw [List.mem_singleton.1 hp]
    rcases List.mem_cons.1 hq with rfl | hq
    · exact hxy
    · exact Nat.le_trans hxy (h3.1 q hq)
theorem Merg.right {K K' Kk KA KB : List (Int × Int)} {x y : Int × Int} (h : Merg K K' Kk (x :: KA) (y :: KB)) (hxy : y.2.natAbs ≤ x.2.natAbs) : Merg K K' (Kk ++ [y]) (x :: KA) KB := by
  have h0 : Merg K' K Kk (y :: KB) (x :: KA) := ⟨h.b, h.a, (List.Perm.append_left _ List.perm_append_comm).trans (h.perm.trans List.perm_append_comm)⟩
  have h1 := h0.left hxy
  exact ⟨h1.b, h1.a, (List.Perm.append_left _ List.perm_append_comm).trans (h1.perm.trans List.perm_append_comm)⟩
theorem Merg.done {K K' Kk KA KB : List (Int × Int)} (h : Merg K K' Kk KA KB) (he : KA = [] ∨ KB = []) : Pw (Kk ++ KA ++ KB) ∧ (Kk ++ KA ++ KB).Perm (K ++ K') := by
  refine ⟨?_, by have := h.perm; simpa using this⟩
  rcases he with rfl | rfl
  · have := h.b; simpa [Pw] using this
  · have := h.a; simpa [Pw] using this
end Go.Proofs.YtjffbndiecjkjaaGreatDoor

namespace Go.Proofs.YtjffbndiecjkjaaGreatDoor
open Go.Shelf Go.RowKit Go.Lib Go.Sort
open Bn (limbs)

theorem compare_le (x y : Int) : Lib.compareInt x y ≤ 0 ↔ x ≤ y := by
  unfold Lib.compareInt
  split
  · constructor <;> intro h <;> omega
  · split
    · constructor <;> intro h <;> omega
    · constructor <;> intro h <;> omega

theorem makeRow0 (N : Nat) (hN : N ≤ 1000000) : ∀ w, (Instr.makeSlice 30 (.int .i64 0) (.int .i64 (N : Int))).run Tryz.prog w = .ok (.slice (some ⟨w.heap.size, 0, none⟩) 0 N) (w.alloc (.cells (madeCells #[.int .i64 0, .pointer none, .int .i64 0] (N * 3)) 67)) := fun w => by
  obtain ⟨i0, hi, hz0, hz1, hz2⟩ := info_parts Tryz.info67
  have := run_make (P := Tryz.prog) w 30 67 i0 _ pieceSlice hi hz0 .i64 .i64 0 (N : Int) (by omega) (by omega) (by rw [hz2]; omega) (by omega)
  rw [hz1] at this
  simpa [Value.cells] using this
theorem wrap_two {a b m : Nat} (h : a + b = m) (ha : a ≤ 500000) (hb : b ≤ 500000) : IntKind.i64.wrap ((a : Int) + (b : Int)) = (m : Int) ∧ wrap64 ((a : Int) + (b : Int)) = (m : Int) := by
  refine ⟨by rw [IntKind.wrap_i64]; omega, by unfold wrap64; omega⟩

theorem PutAt.kept {w : World} {b M n : Nat} {L : List PcV} {K : List (Int × Int)} (h : PutAt w b M L K) (hn : L.length = n) (hM : M ≤ 1000000) : KeptAt w b (.slice (some ⟨b, 0, none⟩) n M) L K := by
  obtain ⟨⟨cur, h1, h2, h3, h4, h5⟩, hS⟩ := h
  subst hn
  rw [pcCells_length] at h4 h5
  refine ⟨⟨⟨pcCells_length L, .inr ⟨b, M, cur, rfl, Nat.le_refl _, h1, by omega, by unfold maxLen; omega, h2, h4⟩⟩, ?_⟩, hS⟩
  intro g cur' f hg hc
  simp [Value.ownBlock] at hg
  subst hg
  rw [h1] at hc
  injection hc with hc
  injection hc with e1 e2 e3
  subst e1
  exact h3

theorem put_of_own {w : World} {b M n : Nat} {L : List PcV} {K : List (Int × Int)} (ho : OwnF Plain1 w b 67 3 (.slice (some ⟨b, 0, none⟩) n M) n (pcCells L)) (hS : Says w L K) (hn : L.length = n) : PutAt w b M L K := by
  obtain ⟨⟨hl, ho⟩, hk⟩ := ho
  rcases ho with ⟨h0, _⟩ | ⟨g, cap, cur, hv, hbg, hg, h1, h2, h3, h4⟩
  · cases h0
  · injection hv with e1 e2 e3
    injection e1 with e1
    injection e1 with e1 _ _
    subst e1
    subst e3
    subst hn
    refine ⟨⟨cur, hg, h3, hk b cur (0, 0) rfl hg, ?_, ?_⟩, hS⟩
    · rw [pcCells_length]; exact h4
    · rw [pcCells_length]; exact Nat.mul_le_mul_right 3 h1
/-- Pieces laid behind the pieces of a row of one's own that has room. -/
theorem append_room {ops : Array Oper} {rest : List Oper} {o : Oper} {a : Act} {Q : Exit → Act → World → Prop} (wr : World) (hgd : o.guard = none) (s x : Operand)
    (ho : o.op = .call { callee := .builtin .append, args := #[s, x], argTypes := #[30, 30] }) (b M n m : Nat) (u : Value) (L L2 : List PcV) (K K2 : List (Int × Int)) (hs : a.eval s = .slice (some ⟨b, 0, none⟩) n M) (hx : a.eval x = u) (hP : PutAt wr b M L K) (hu : PartP wr u L2 K2)
    (hn : L.length = n) (hm : L2.length = m) (hroom : n + m ≤ M) (hM : M ≤ 1000000)
    (h : ∀ w', PutAt w' b M (L ++ L2) (K ++ K2) → wr.grownBy w' (some b) → wpList Tryz.prog ops Q rest (a.put o.dst (.slice (some ⟨b, 0, none⟩) (n + m) M)) w') : wpList Tryz.prog ops Q (o :: rest) a wr := by
  obtain ⟨i0, hi, hz0, hz1, hz2⟩ := info_parts Tryz.info67
  have hKe := hP.kept hn hM
  subst hn
  subst hm
  rcases hu.src with ⟨h1, h2⟩ | ⟨b2, off, c, h1, hlt, hc⟩
  · subst h2
    have hK2 : K2 = [] := List.eq_nil_of_length_eq_zero (by have := hu.says.1; simpa using this.symm)
    subst hK2
    refine wpList_append_own_none hgd s x 30 ho b 67 i0 3 pieceSlice hi _ L.length (pcCells L) hs hKe.1.1 (hx.trans h1) ?_
    exact h wr (by simpa using hP) ⟨rfl, rfl, rfl, Nat.le_refl _, fun _ _ _ => rfl⟩
  · obtain ⟨v', w', hr, ho2, hg, _⟩ := run_append_f (F := Plain1) (P := Tryz.prog) wr b 30 o.type 67 i0 (.agg #[.int .i64 0, .pointer none, .int .i64 0]) 3 24 pieceSlice hi hz0 hz1 hz2 rfl (by decide) (pcCells_plain [(0, none, 0)]) _ L.length (pcCells L) hKe.1 ⟨b2, off, none⟩ L2.length c (pcCells L2) (pcCells_length L2)
      (fun j t hj => by
        rw [show (⟨b2, off, none⟩ : Addr).add j = ⟨b2, off + j, none⟩ from by unfold Addr.add; split <;> simp_all]
        exact hc j t hj)
      (fun t ht => by
        simp only [pcCells, List.mem_flatMap] at ht
        obtain ⟨r, _, ht⟩ := ht
        simp only [encP, List.mem_cons, List.not_mem_nil, or_false] at ht
        rcases ht with rfl | rfl | rfl <;> rfl) (pcCells_plain L2) (by unfold maxLen; omega) (by omega) (Nat.le_of_lt hP.1.lt)
    obtain ⟨cur, g1, g2, g3, g4, g5⟩ := hP.1
    have hr2 := run_append_room (P := Tryz.prog) wr 30 o.type 67 i0 pieceSlice hi b L.length M cur g1 ⟨b2, off, none⟩ L2.length c (pcCells L2) (by rw [hz1, pcCells_length])
      (fun j t hj => by
        rw [show (⟨b2, off, none⟩ : Addr).add j = ⟨b2, off + j, none⟩ from by unfold Addr.add; split <;> simp_all]
        exact hc j t hj)
      (fun t ht => by
        simp only [pcCells, List.mem_flatMap] at ht
        obtain ⟨r, _, ht⟩ := ht
        simp only [encP, List.mem_cons, List.not_mem_nil, or_false] at ht
        rcases ht with rfl | rfl | rfl <;> rfl) hroom (by rw [hz1, g2, pcCells_length]; omega)
    rw [hr] at hr2
    injection hr2 with e1 e2
    subst e1
    have big : ∀ t z, BigAt wr t z → BigAt w' t z := fun t z hB => hB.clean hP.1.clean hg
    refine wpList_plain hgd fun _ hK => ?_
    unfold Oper.wp execOp
    simp only [ho, resolve, invoke, builtin, Sem.run_bind, Sem.run_pure, Result.andThen_ok, List.map_toArray, List.map_cons, List.map_nil, hs, hx, h1, hr]
    refine hK _ _ (h w' (put_of_own (n := L.length + L2.length) ?_ ((hP.2.mono big).append (hu.says.mono big)) (by simp)) hg)
    rw [show pcCells (L ++ L2) = pcCells L ++ pcCells L2 by simp [pcCells]]
    exact ho2

/-- How far the loop is. -/
def MgRel (w : World) (M : Nat) (K K' : List (Int × Int)) (av bv kv : Value) (wr : World) : Prop := ∃ (aa ab : Option Addr) (na nb ca cb n : Nat) (LA LB LK : List PcV) (KA KB Kk : List (Int × Int)), av = .slice aa na ca ∧ bv = .slice ab nb cb ∧ kv = .slice (some ⟨w.heap.size, 0, none⟩) n M ∧ n + na + nb ≤ M ∧ Hid (LA.length = na ∧ LB.length = nb ∧ LK.length = n) ∧ Hid (PartP w (.slice aa na ca) LA KA) ∧ Hid (PartP w (.slice ab nb cb) LB KB) ∧ Hid (PutAt wr w.heap.size M LK Kk) ∧ Hid (Merg K K' Kk KA KB) ∧ Hid (RowKit.Below w.heap.size w wr)

/-- What merged answers. -/
def MergOut (w : World) (K K' : List (Int × Int)) (e : Ending) (w' : World) : Prop :=
  ∃ b cap L ps, e = .returned (.slice (some ⟨b, 0, none⟩) L.length cap) ∧ b < w'.heap.size ∧ L.length ≤ cap ∧ HoldsK encP 3 w' b 0 L.toArray ∧ Says w' L ps ∧ Climbs ps ∧ ps.Perm (K ++ K') ∧ RowKit.Below w.heap.size w w'

set_option maxRecDepth 100000 in
set_option maxHeartbeats 4000000 in
theorem merged_any (u v : Value) (K K' : List (Int × Int)) (w : World) (hu : PiAt w u K) (hv : PiAt w v K') (hr : Pm.Rises K) (hr' : Pm.Rises K') (hlit : ∀ p ∈ K, IsLit p.2) (hlit' : ∀ p ∈ K', IsLit p.2) (hn : K.length ≤ 500000) (hn' : K'.length ≤ 500000) :
    Calls Tryz.prog 50 #[u, v] w (MergOut w K K') := by
  obtain ⟨LA, hPA⟩ := hu.part
  obtain ⟨LB, hPB⟩ := hv.part
  have hlA := hPA.says.1
  have hlB := hPB.says.1
  obtain ⟨aa, ca, rfl, hca, hcam⟩ := hPA.form
  obtain ⟨ab, cb, rfl, hcb, hcbm⟩ := hPB.form
  obtain ⟨NA, hNA⟩ : ∃ N : Nat, LA.length = N := ⟨_, rfl⟩
  obtain ⟨NB, hNB⟩ : ∃ N : Nat, LB.length = N := ⟨_, rfl⟩
  have HM : Hid (Merg K K' [] K K') := Merg.start hr.pw hr'.pw
  have Hlit : Hid (∀ p ∈ K ++ K', IsLit p.2) := fun p hp => by
    rcases List.mem_append.1 hp with hp | hp
    · exact hlit p hp
    · exact hlit' p hp
  have HPA : Hid (PartP w (.slice aa NA ca) LA K) := by rw [← hNA]; exact hPA
  have HPB : Hid (PartP w (.slice ab NB cb) LB K') := by rw [← hNB]; exact hPB
  have hA5 : NA ≤ 500000 := by omega
  have hB5 : NB ≤ 500000 := by omega
  have Hlen : Hid (LA.length = NA ∧ LB.length = NB) := ⟨hNA, hNB⟩
  rw [hNA, hNB]
  obtain ⟨M, hM⟩ : ∃ M, NA + NB = M := ⟨_, rfl⟩
  have HMs : Hid (NA + NB = M) := hM
  have hmake := makeRow0 M (by omega)
  obtain ⟨hsum, hsum2⟩ := wrap_two hM hA5 hB5
  clear hM hu hv hPA hPB hlit hlit' hr hr' hn hn' hca hcb hcam hcbm hlA hlB hNA hNB
  go_enter Tryz.func50, Tryz.ntmps50
  go_wp2_with fail
  obtain ⟨W, hW⟩ : ∃ W, w.alloc (.cells (madeCells #[.int .i64 0, .pointer none, .int .i64 0] (M * 3)) 67) = W := ⟨_, rfl⟩
  obtain ⟨hO, hbW⟩ := new_obj w _ hW
  rw [hW]
  have HK0 : Hid (PutAt W w.heap.size M [] []) := PutAt.start hO
  have HbW : Hid (RowKit.Below w.heap.size w W) := hbW
  clear hW hO hbW hmake hsum hsum2
  go_loopw [0, 1, 5] (fun av bv kv wr => MgRel w M K K' av bv kv wr) (fun av bv _ _ => lenV av + lenV bv)
  case atStart => exact ⟨_, _, _, _, _, _, 0, LA, LB, [], K, K', [], rfl, rfl, rfl, by have := HMs.out; omega, ⟨Hlen.out.1, Hlen.out.2, rfl⟩, HPA, HPB, HK0, HM, HbW⟩
  case round =>
    obtain ⟨aa, ab, na, nb, ca, cb, n, LA, LB, LK, KA, KB, Kk, rfl, rfl, rfl, hnM, hL, hPA, hPB, hK, hMg, hbw⟩ := hrel
    clear HK0 HM HPA HPB Hlen HbW
    by_cases hboth : 0 < na ∧ 0 < nb
    · obtain ⟨ha0, hb0⟩ := hboth
      have haI : (0 : Int) < (na : Int) := by omega
      have hbI : (0 : Int) < (nb : Int) := by omega
      have haJ : (1 : Int) ≤ (na : Int) := by omega
      have hbJ : (1 : Int) ≤ (nb : Int) := by omega
      obtain ⟨x, LA', rfl⟩ : ∃ x l, LA = x :: l := List.exists_cons_of_length_pos (by have := hL.out.1; omega)
      obtain ⟨y, LB', rfl⟩ : ∃ x l, LB = x :: l := List.exists_cons_of_length_pos (by have := hL.out.2.1; omega)
      obtain ⟨px, KA', rfl⟩ : ∃ x l, KA = x :: l := List.exists_cons_of_length_pos (by have := hPA.out.says.1; simp at this; omega)
      obtain ⟨py, KB', rfl⟩ : ∃ x l, KB = x :: l := List.exists_cons_of_length_pos (by have := hPB.out.says.1; simp at this; omega)
      obtain ⟨b1, o1, rfl, hl1, c0, c1, c2, hsx⟩ := hPA.out.head
      obtain ⟨b2, o2, rfl, hl2, d0, d1, d2, hsy⟩ := hPB.out.head
      obtain ⟨xn, xq, xl⟩ := x
      obtain ⟨yn, yq, yl⟩ := y
      simp only at c0 c1 c2 d0 d1 d2
      have hlx : IsLit px.2 := Hlit.out _ (hMg.out.perm.mem_iff.1 (by simp))
      have hly : IsLit py.2 := Hlit.out _ (hMg.out.perm.mem_iff.1 (by simp))
      have hvx : vv xl = ((px.2.natAbs : Nat) : Int) := by rw [show xl = px.2 from hsx.2, vv_lit hlx]
      have hvy : vv yl = ((py.2.natAbs : Nat) : Int) := by rw [show yl = py.2 from hsy.2, vv_lit hly]
      obtain ⟨r, hrr⟩ : ∃ r, Lib.compareInt ((px.2.natAbs : Nat) : Int) ((py.2.natAbs : Nat) : Int) = r := ⟨_, rfl⟩
      have hcmp : Hid (∀ w', Calls Tryz.prog 68 #[.agg #[.int .i64 xn, .pointer xq, .int .i64 xl], .agg #[.int .i64 yn, .pointer yq, .int .i64 yl]] w' fun res w'' => res = .returned (.int .i64 r) ∧ RowKit.Below w'.heap.size w' w'') := fun w' => by
        have h := byVariable_any (xn, xq, xl) (yn, yq, yl) w'
        simp only at h
        rw [hvx, hvy, hrr] at h
        refine h.mono ?_
        rintro r w'' ⟨rfl, q, os, rfl⟩
        exact ⟨rfl, below_grow w' q os⟩
      have hle := compare_le ((px.2.natAbs : Nat) : Int) ((py.2.natAbs : Nat) : Int)
      rw [hrr] at hle
      have Hle : Hid (r ≤ 0 ↔ ((px.2.natAbs : Nat) : Int) ≤ ((py.2.natAbs : Nat) : Int)) := hle
      have HSX : Hid (Say w (xn, xq, xl) px ∧ Say w (yn, yq, yl) py) := ⟨hsx, hsy⟩
      have c0' := (hbw.out.cell (p := ⟨b1, o1, none⟩) hl1).trans c0
      have c1' := (hbw.out.cell (p := ⟨b1, o1 + 1, none⟩) hl1).trans c1
      have c2' := (hbw.out.cell (p := ⟨b1, o1 + 2, none⟩) hl1).trans c2
      have d0' := (hbw.out.cell (p := ⟨b2, o2, none⟩) hl2).trans d0
      have d1' := (hbw.out.cell (p := ⟨b2, o2 + 1, none⟩) hl2).trans d1
      have d2' := (hbw.out.cell (p := ⟨b2, o2 + 2, none⟩) hl2).trans d2
      clear hvx hvy hlx hly hle hrr hsx hsy c0 c1 c2 d0 d1 d2
      rename World => wo
      by_cases hr0 : r ≤ 0
      · have HMg : Hid (Merg K K' (Kk ++ [px]) KA' (py :: KB')) := hMg.out.left (by have := Hle.out.1 hr0; omega)
        go_wp2_with fail
        go_region_with (go_at_call 68; refine calls_at (hcmp.out _) (by with_reducible rfl) (by with_reducible rfl) ?_; rintro e' w2 ⟨rfl, hb2⟩)
        all_goals
          have hbo : RowKit.Below wo.heap.size wo w2 := (Below.refl wo.heap.size wo).drew.trans hb2
          have f0 := (hbo.cell (p := ⟨b1, o1, none⟩) (Nat.lt_of_lt_of_le hl1 hbw.out.size)).trans c0'
          have f1 := (hbo.cell (p := ⟨b1, o1 + 1, none⟩) (Nat.lt_of_lt_of_le hl1 hbw.out.size)).trans c1'
          have f2 := (hbo.cell (p := ⟨b1, o1 + 2, none⟩) (Nat.lt_of_lt_of_le hl1 hbw.out.size)).trans c2'
          have Hb2 : Hid (RowKit.Below w.heap.size w w2.drew) := (hbw.out.trans (hbo.mono hbw.out.size)).drew
          obtain ⟨V, hV⟩ : ∃ V, w2.drew.alloc (.cells #[.int .i64 xn, .pointer xq, .int .i64 xl] 67) = V := ⟨_, rfl⟩
          obtain ⟨hO, hbV⟩ := new_obj w2.drew _ hV
          have HbV : Hid (RowKit.Below w.heap.size w V) := Hb2.out.trans (hbV.mono Hb2.out.size)
          have HPV : Hid (PutAt V w.heap.size M LK Kk) := ((hK.out.below hbo).below (Below.refl _ _).drew).below hbV
          have hO' : V.heap[w2.heap.size]? = some (.cells #[.int .i64 xn, .pointer xq, .int .i64 xl] 67) := hO
          obtain ⟨v0, v1, v2, _, _, _⟩ := box3_facts hO'
          have hnlt : n < M := by omega
          have hn1 : n + 1 ≤ M := hnlt
          obtain ⟨⟨g0, r0⟩, t0⟩ := HPV.out.1.cell (n * 3) (by omega)
          obtain ⟨⟨g1, r1⟩, t1⟩ := HPV.out.1.cell (n * 3 + 1) (by omega)
          obtain ⟨⟨g2, r2⟩, t2⟩ := HPV.out.1.cell (n * 3 + 2) (by omega)
          have HP3 : Hid (PutAt (set3 V w.heap.size (n * 3) (.int .i64 xn) (.pointer xq) (.int .i64 xl)) w.heap.size M (LK ++ [(xn, xq, xl)]) (Kk ++ [px])) := (HPV.out.put ⟨HSX.out.1.1.below HbV.out, HSX.out.1.2⟩ hL.out.2.2 hnlt).1
          have Hb3 : Hid (RowKit.Below w.heap.size w (set3 V w.heap.size (n * 3) (.int .i64 xn) (.pointer xq) (.int .i64 xl))) := ((HbV.out.setCell (p := ⟨w.heap.size, _, none⟩) (Nat.le_refl _) _).setCell (p := ⟨w.heap.size, _, none⟩) (Nat.le_refl _) _).setCell (p := ⟨w.heap.size, _, none⟩) (Nat.le_refl _) _
          have HT : Hid (∀ a' m, m = na - 1 → a' = (if ca = 1 then some ⟨b1, o1, none⟩ else some ⟨b1, o1 + 3, none⟩) → PartP w (.slice a' m (ca - 1)) LA' KA') := fun a' m hm ha => by have h1 := hL.out.1; simp only [List.length_cons] at h1; have h2 : m = LA'.length := (by omega); subst h2; exact hPA.out.tail (by omega) ha
          clear hbo hb2 c0' c1' c2' d0' d1' d2' hO hO' hbV
          by_cases hc1 : ca = 1
          · have HT2 : Hid (PartP w (.slice (some ⟨b1, o1, none⟩) (na - 1) 0) LA' KA') := by have h := HT.out _ _ rfl rfl; rw [if_pos hc1, hc1] at h; exact h
            clear HT
            go_wp2_with fail
            go_region
            all_goals
              try simp only [Act.put, List.getElem_toArray, List.getElem_cons_succ, List.getElem_cons_zero, List.setIfInBounds_toArray, List.set_cons_zero, List.set_cons_succ]
              go_wp2_with fail
              go_roundw
              case rel => exact ⟨_, _, _, _, _, _, n + 1, LA', (yn, yq, yl) :: LB', LK ++ [(xn, xq, xl)], KA', py :: KB', Kk ++ [px], rfl, rfl, rfl, by omega, ⟨by have := hL.out.1; simp only [List.length_cons] at this; omega, hL.out.2.1, by have := hL.out.2.2; simp only [List.length_append, List.length_cons, List.length_nil]; omega⟩, HT2, hPB, HP3, HMg, Hb3⟩
              case measure => simp only [lenV]; omega
          · have HT2 : Hid (PartP w (.slice (some ⟨b1, o1 + 3, none⟩) (na - 1) (ca - 1)) LA' KA') := by have h := HT.out _ _ rfl rfl; rw [if_neg hc1] at h; exact h
            clear HT
            go_wp2_with fail
            go_region
            all_goals
              try simp only [Act.put, List.getElem_toArray, List.getElem_cons_succ, List.getElem_cons_zero, List.setIfInBounds_toArray, List.set_cons_zero, List.set_cons_succ]
              go_wp2_with fail
              go_roundw
              case rel => exact ⟨_, _, _, _, _, _, n + 1, LA', (yn, yq, yl) :: LB', LK ++ [(xn, xq, xl)], KA', py :: KB', Kk ++ [px], rfl, rfl, rfl, by omega, ⟨by have := hL.out.1; simp only [List.length_cons] at this; omega, hL.out.2.1, by have := hL.out.2.2; simp only [List.length_append, List.length_cons, List.length_nil]; omega⟩, HT2, hPB, HP3, HMg, Hb3⟩
              case measure => simp only [lenV]; omega
      · have HMg : Hid (Merg K K' (Kk ++ [py]) (px :: KA') KB') := hMg.out.right (by have : ¬ ((px.2.natAbs : Nat) : Int) ≤ ((py.2.natAbs : Nat) : Int) := fun h => hr0 (Hle.out.2 h); omega)
        go_wp2_with fail
        go_region_with (go_at_call 68; refine calls_at (hcmp.out _) (by with_reducible rfl) (by with_reducible rfl) ?_; rintro e' w2 ⟨rfl, hb2⟩)
        all_goals
          have hbo : RowKit.Below wo.heap.size wo w2 := (Below.refl wo.heap.size wo).drew.trans hb2
          have f0 := (hbo.cell (p := ⟨b2, o2, none⟩) (Nat.lt_of_lt_of_le hl2 hbw.out.size)).trans d0'
          have f1 := (hbo.cell (p := ⟨b2, o2 + 1, none⟩) (Nat.lt_of_lt_of_le hl2 hbw.out.size)).trans d1'
          have f2 := (hbo.cell (p := ⟨b2, o2 + 2, none⟩) (Nat.lt_of_lt_of_le hl2 hbw.out.size)).trans d2'
          have Hb2 : Hid (RowKit.Below w.heap.size w w2.drew) := (hbw.out.trans (hbo.mono hbw.out.size)).drew
          obtain ⟨V, hV⟩ : ∃ V, w2.drew.alloc (.cells #[.int .i64 yn, .pointer yq, .int .i64 yl] 67) = V := ⟨_, rfl⟩
          obtain ⟨hO, hbV⟩ := new_obj w2.drew _ hV
          have HbV : Hid (RowKit.Below w.heap.size w V) := Hb2.out.trans (hbV.mono Hb2.out.size)
          have HPV : Hid (PutAt V w.heap.size M LK Kk) := ((hK.out.below hbo).below (Below.refl _ _).drew).below hbV
          have hO' : V.heap[w2.heap.size]? = some (.cells #[.int .i64 yn, .pointer yq, .int .i64 yl] 67) := hO
          obtain ⟨v0, v1, v2, _, _, _⟩ := box3_facts hO'
          have hnlt : n < M := by omega
          have hn1 : n + 1 ≤ M := hnlt
          obtain ⟨⟨g0, r0⟩, t0⟩ := HPV.out.1.cell (n * 3) (by omega)
          obtain ⟨⟨g1, r1⟩, t1⟩ := HPV.out.1.cell (n * 3 + 1) (by omega)
          obtain ⟨⟨g2, r2⟩, t2⟩ := HPV.out.1.cell (n * 3 + 2) (by omega)
          have HP3 : Hid (PutAt (set3 V w.heap.size (n * 3) (.int .i64 yn) (.pointer yq) (.int .i64 yl)) w.heap.size M (LK ++ [(yn, yq, yl)]) (Kk ++ [py])) := (HPV.out.put ⟨HSX.out.2.1.below HbV.out, HSX.out.2.2⟩ hL.out.2.2 hnlt).1
          have Hb3 : Hid (RowKit.Below w.heap.size w (set3 V w.heap.size (n * 3) (.int .i64 yn) (.pointer yq) (.int .i64 yl))) := ((HbV.out.setCell (p := ⟨w.heap.size, _, none⟩) (Nat.le_refl _) _).setCell (p := ⟨w.heap.size, _, none⟩) (Nat.le_refl _) _).setCell (p := ⟨w.heap.size, _, none⟩) (Nat.le_refl _) _
          have HT : Hid (∀ a' m, m = nb - 1 → a' = (if cb = 1 then some ⟨b2, o2, none⟩ else some ⟨b2, o2 + 3, none⟩) → PartP w (.slice a' m (cb - 1)) LB' KB') := fun a' m hm ha => by have h1 := hL.out.2.1; simp only [List.length_cons] at h1; have h2 : m = LB'.length := (by omega); subst h2; exact hPB.out.tail (by omega) ha
          clear hbo hb2 c0' c1' c2' d0' d1' d2' hO hO' hbV
          by_cases hc1 : cb = 1
          · have HT2 : Hid (PartP w (.slice (some ⟨b2, o2, none⟩) (nb - 1) 0) LB' KB') := by have h := HT.out _ _ rfl rfl; rw [if_pos hc1, hc1] at h; exact h
            clear HT
            go_wp2_with fail
            go_region
            all_goals
              try simp only [Act.put, List.getElem_toArray, List.getElem_cons_succ, List.getElem_cons_zero, List.setIfInBounds_toArray, List.set_cons_zero, List.set_cons_succ]
              go_wp2_with fail
              go_roundw
              case rel => exact ⟨_, _, _, _, _, _, n + 1, (xn, xq, xl) :: LA', LB', LK ++ [(yn, yq, yl)], px :: KA', KB', Kk ++ [py], rfl, rfl, rfl, by omega, ⟨hL.out.1, by have := hL.out.2.1; simp only [List.length_cons] at this; omega, by have := hL.out.2.2; simp only [List.length_append, List.length_cons, List.length_nil]; omega⟩, hPA, HT2, HP3, HMg, Hb3⟩
              case measure => simp only [lenV]; omega
          · have HT2 : Hid (PartP w (.slice (some ⟨b2, o2 + 3, none⟩) (nb - 1) (cb - 1)) LB' KB') := by have h := HT.out _ _ rfl rfl; rw [if_neg hc1] at h; exact h
            clear HT
            go_wp2_with fail
            go_region
            all_goals
              try simp only [Act.put, List.getElem_toArray, List.getElem_cons_succ, List.getElem_cons_zero, List.setIfInBounds_toArray, List.set_cons_zero, List.set_cons_succ]
              go_wp2_with fail
              go_roundw
              case rel => exact ⟨_, _, _, _, _, _, n + 1, (xn, xq, xl) :: LA', LB', LK ++ [(yn, yq, yl)], px :: KA', KB', Kk ++ [py], rfl, rfl, rfl, by omega, ⟨hL.out.1, by have := hL.out.2.1; simp only [List.length_cons] at this; omega, by have := hL.out.2.2; simp only [List.length_append, List.length_cons, List.length_nil]; omega⟩, hPA, HT2, HP3, HMg, Hb3⟩
              case measure => simp only [lenV]; omega
    · have he : KA = [] ∨ KB = [] := by
        have h1 := hL.out.1
        have h2 := hL.out.2.1
        have h3 := hPA.out.says.1
        have h4 := hPB.out.says.1
        rcases Nat.eq_zero_or_pos na with h | h
        · exact .inl (List.eq_nil_of_length_eq_zero (by omega))
        · exact .inr (List.eq_nil_of_length_eq_zero (by omega))
      have HD : Hid (Pw (Kk ++ KA ++ KB) ∧ (Kk ++ KA ++ KB).Perm (K ++ K')) := hMg.out.done he
      have hM6 : M ≤ 1000000 := by have := HMs.out; omega
      have hr1 : n + na ≤ M := by omega
      have hr2 : n + na + nb ≤ M := hnM
      have HPA : Hid (PartP wr (.slice aa na ca) LA KA) := hPA.out.below hbw.out
      have Hlt : Hid (w.heap.size ≤ wr.heap.size) := hbw.out.size
      have fin : ∀ w2, PutAt w2 w.heap.size M (LK ++ LA ++ LB) (Kk ++ KA ++ KB) → RowKit.Below w.heap.size w w2 → MergOut w K K' (.returned (.slice (some ⟨w.heap.size, 0, none⟩) (n + na + nb) M)) w2 := fun w2 hP hb => by
        have hl : (LK ++ LA ++ LB).length = n + na + nb := by rw [List.length_append, List.length_append, hL.out.1, hL.out.2.1, hL.out.2.2]
        refine ⟨w.heap.size, M, LK ++ LA ++ LB, Kk ++ KA ++ KB, by rw [hl], hP.1.lt, by omega, hP.holds, hP.2, HD.out.1.climbs, HD.out.2, hb⟩
      have Fin : Hid (∀ w2, PutAt w2 w.heap.size M (LK ++ LA ++ LB) (Kk ++ KA ++ KB) → RowKit.Below w.heap.size w w2 → MergOut w K K' (.returned (.slice (some ⟨w.heap.size, 0, none⟩) (n + na + nb) M)) w2) := fin
      clear fin he hMg
      rcases Nat.eq_zero_or_pos na with h0 | h0
      · subst h0
        go_wp2_with (first | (at_builtin; refine append_room wr rfl (.tmp 44) (.tmp 45) rfl w.heap.size M n 0 _ LK LA Kk KA (by rfl) (by rfl) hK.out HPA.out hL.out.2.2 hL.out.1 hr1 hM6 ?_; intro w1 hP1 hg1; have HP1 : Hid (PutAt w1 w.heap.size M (LK ++ LA) (Kk ++ KA)) := hP1; have Hb1 : Hid (RowKit.Below w.heap.size w w1) := below_of_grown hbw.out hg1 hbw.out.size (Nat.le_refl _); clear hP1 hg1) | (at_builtin; refine append_room w1 rfl (.tmp 46) (.tmp 47) rfl w.heap.size M (n + 0) nb _ (LK ++ LA) LB (Kk ++ KA) KB (by rfl) (by rfl) HP1.out (hPB.out.below Hb1.out) (by rw [List.length_append, hL.out.1, hL.out.2.2]) hL.out.2.1 hr2 hM6 ?_; intro w2 hP2 hg2; have HP2 : Hid (PutAt w2 w.heap.size M (LK ++ LA ++ LB) (Kk ++ KA ++ KB)) := hP2; have Hb2 : Hid (RowKit.Below w.heap.size w w2) := below_of_grown Hb1.out hg2 Hb1.out.size (Nat.le_refl _); clear hP2 hg2))
        go_ret
        exact Fin.out w2 HP2.out Hb2.out
      · have hnb : nb = 0 := by
          rcases Nat.eq_zero_or_pos nb with h | h
          · exact h
          · exact absurd ⟨h0, h⟩ hboth
        have haI : (0 : Int) < (na : Int) := by omega
        subst hnb
        go_wp2_with (first | (at_builtin; refine append_room wr rfl (.tmp 44) (.tmp 45) rfl w.heap.size M n na _ LK LA Kk KA (by rfl) (by rfl) hK.out HPA.out hL.out.2.2 hL.out.1 hr1 hM6 ?_; intro w1 hP1 hg1; have HP1 : Hid (PutAt w1 w.heap.size M (LK ++ LA) (Kk ++ KA)) := hP1; have Hb1 : Hid (RowKit.Below w.heap.size w w1) := below_of_grown hbw.out hg1 hbw.out.size (Nat.le_refl _); clear hP1 hg1) | (at_builtin; refine append_room w1 rfl (.tmp 46) (.tmp 47) rfl w.heap.size M (n + na) 0 _ (LK ++ LA) LB (Kk ++ KA) KB (by rfl) (by rfl) HP1.out (hPB.out.below Hb1.out) (by rw [List.length_append, hL.out.1, hL.out.2.2]) hL.out.2.1 hr2 hM6 ?_; intro w2 hP2 hg2; have HP2 : Hid (PutAt w2 w.heap.size M (LK ++ LA ++ LB) (Kk ++ KA ++ KB)) := hP2; have Hb2 : Hid (RowKit.Below w.heap.size w w2) := below_of_grown Hb1.out hg2 Hb1.out.size (Nat.le_refl _); clear hP2 hg2))
        go_ret
        exact Fin.out w2 HP2.out Hb2.out
end Go.Proofs.YtjffbndiecjkjaaGreatDoor

namespace Go.Proofs.YtjffbndiecjkjaaGreatDoor
open Go

section
variable {P : Program} {ops : Array Oper} {Q : Exit → Act → World → Prop} {md : Region.Mode} {S C : World → Prop} {st : List Nat}

/-- None of st has come up. -/
def Unl (st : List Nat) (listed : Array Bool) : Prop := ∀ s ∈ st, listed.getD s true = false

/-- S holds, and C, as long as none of st has come up. -/
def HT (S C : World → Prop) (st : List Nat) (listed : Array Bool) (w : World) : Prop := S w ∧ (Unl st listed → C w)

/-- Whatever order is picked from here on; S and, as long as none of st has come up, C hold behind every operation. -/
def wpAnyT (P : Program) (md : Region.Mode) (ops : Array Oper) (Q : Exit → Act → World → Prop) (S C : World → Prop) (st : List Nat) : Nat → Array Bool → Act → World → Prop
  | 0, listed, a, w => Region.ready md ops listed = [] ∧ Q .normal a w
  | fuel + 1, listed, a, w =>
    (Region.ready md ops listed = [] → Q .normal a w) ∧
    ∀ i ∈ Region.ready md ops listed, wpOp P ops Q i (fun a' w' => HT S C st (listed.setIfInBounds i true) w' ∧ wpAnyT P md ops Q S C st fuel (listed.setIfInBounds i true) a' w') a w

theorem wpAny_of_T : ∀ (fuel : Nat) (listed : Array Bool) (a : Act) (w : World), wpAnyT P md ops Q S C st fuel listed a w → wpAny P md ops Q fuel listed a w
  | 0, _, _, _, h => h
  | fuel + 1, _, _, _, h => ⟨h.1, fun i hi => wpOp_mono (fun a' w' h' => wpAny_of_T fuel _ a' w' h'.2) (h.2 i hi)⟩

theorem Unl.set {listed : Array Bool} {j : Nat} (h : Unl st listed) (hj : j ∉ st) : Unl st (listed.setIfInBounds j true) := fun s hs => by
  have hne : j ≠ s := fun e => by subst e; exact hj hs
  rw [getD_set_ne true hne]; exact h s hs

theorem unl_back {listed : Array Bool} {j : Nat} (hj : j ∉ st) (h : Unl st (listed.setIfInBounds j true)) : Unl st listed := fun s hs => by
  have hne : j ≠ s := fun e => by subst e; exact hj hs
  have := h s hs
  rw [getD_set_ne true hne] at this; exact this

theorem wpAnyT_first {i : Nat} {oi : Oper} {v : Value} (hi : ops[i]? = some oi) (hsel : ∀ (j : Nat) (o : Oper) cs b, ops[j]? = some o → o.op ≠ .select cs b)
    (hQ : ∀ c a w, Q (.panic c) (a.put oi.dst v) w → Q (.panic c) a w) (hist : i ∉ st) (hwait : ∀ s ∈ st, ∀ os, ops[s]? = some os → ∃ e ∈ os.after, Region.binds md e = true ∧ e.on = i) :
    ∀ (fuel : Nat) (listed : Array Bool) (a : Act) (w : World),
      (∀ j oj, ops[j]? = some oj → j ≠ i → listed.getD j true = false → (∀ e ∈ oj.after, Region.binds md e = true → e.on ≠ i) → oi.apart ops oj = true) →
      i ∈ Region.ready md ops listed → YieldsIf P ops (fun w => S w ∧ C w) oi v a → Unl st listed → S w ∧ C w →
      wpAnyT P md ops Q S C st fuel (listed.setIfInBounds i true) (a.put oi.dst v) w → wpAnyT P md ops Q S C st (fuel + 1) listed a w := by
  intro fuel
  induction fuel with
  | zero =>
    intro listed a w _ hr hy hU hS H
    refine ⟨fun h => (by rw [h] at hr; cases hr), fun j hj => ?_⟩
    by_cases hji : j = i
    · subst hji; exact hy.wpOp hi hS ⟨⟨hS.1, fun _ => hS.2⟩, H⟩
    · have := ready_mono hj hji
      rw [H.1] at this
      cases this
  | succ fuel ih =>
    intro listed a w hfree hr hy hU hS H
    refine ⟨fun h => (by rw [h] at hr; cases hr), fun j hj => ?_⟩
    by_cases hji : j = i
    · subst hji; exact hy.wpOp hi hS ⟨⟨hS.1, fun _ => hS.2⟩, H⟩
    · have h1 := H.2 j (ready_mono hj hji)
      obtain ⟨hjun, oj, hoj, hall⟩ := mem_ready.1 hj
      have hnot : ∀ e ∈ oj.after, Region.binds md e = true → e.on ≠ i := fun e he hb heq => by
        have h1 := hall e he hb
        have h0 := (mem_ready.1 hr).1
        rw [heq] at h1
        rcases Nat.lt_or_ge i listed.size with h' | h'
        · simp [h'] at h0 h1; rw [h0] at h1; cases h1
        · simp [Array.getElem?_eq_none h'] at h1
      have hjst : j ∉ st := fun hs => by
        obtain ⟨e, he, hb, heq⟩ := hwait j hs oj hoj
        exact hnot e he hb heq
      have hU1 : Unl st (listed.setIfInBounds j true) := hU.set hjst
      have hU2 : Unl st ((listed.setIfInBounds i true).setIfInBounds j true) := (hU.set hist).set hjst
      have h2 := wpOp_putIf hoj (hfree j oj hoj hji hjun hnot) (fun cs b => hsel i oi cs b hi) (fun cs b => hsel j oj cs b hoj) hQ hy h1
      have hfree' : ∀ k ok, ops[k]? = some ok → k ≠ i → (listed.setIfInBounds j true).getD k true = false →
          (∀ e ∈ ok.after, Region.binds md e = true → e.on ≠ i) → oi.apart ops ok = true := fun k ok hk hki hun hno => by
        refine hfree k ok hk hki ?_ hno
        by_cases hjk : j = k
        · subst hjk; exact hjun
        · rw [getD_set_ne true hjk] at hun; exact hun
      refine wpOp_mono (fun a' w' h3 => ⟨⟨h3.2.1.1, fun _ => h3.2.1.2 hU2⟩, ih (listed.setIfInBounds j true) a' w' hfree' (ready_mono hr (Ne.symm hji)) h3.1 hU1 ⟨h3.2.1.1, h3.2.1.2 hU2⟩ ?_⟩) h2
      rw [Array.setIfInBounds_comm _ _ hji]
      exact h3.2.2

theorem wpAnyT_firstB {i : Nat} {oi : Oper} {v : Value} (hi : ops[i]? = some oi) (hsel : ∀ (j : Nat) (o : Oper) cs b, ops[j]? = some o → o.op ≠ .select cs b)
    (hQ : ∀ c a w, Q (.panic c) (a.put oi.dst v) w → Q (.panic c) a w) (hist : i ∉ st) :
    ∀ (fuel : Nat) (listed : Array Bool) (a : Act) (w : World),
      (∀ j oj, ops[j]? = some oj → j ≠ i → listed.getD j true = false → (∀ e ∈ oj.after, Region.binds md e = true → e.on ≠ i) → oi.apart ops oj = true) →
      i ∈ Region.ready md ops listed → YieldsIf P ops S oi v a → HT S C st listed w →
      wpAnyT P md ops Q S C st fuel (listed.setIfInBounds i true) (a.put oi.dst v) w → wpAnyT P md ops Q S C st (fuel + 1) listed a w := by
  intro fuel
  induction fuel with
  | zero =>
    intro listed a w _ hr hy hS H
    refine ⟨fun h => (by rw [h] at hr; cases hr), fun j hj => ?_⟩
    by_cases hji : j = i
    · subst hji; exact hy.wpOp hi hS.1 ⟨⟨hS.1, fun hU => hS.2 (unl_back hist hU)⟩, H⟩
    · have := ready_mono hj hji
      rw [H.1] at this
      cases this
  | succ fuel ih =>
    intro listed a w hfree hr hy hS H
    refine ⟨fun h => (by rw [h] at hr; cases hr), fun j hj => ?_⟩
    by_cases hji : j = i
    · subst hji; exact hy.wpOp hi hS.1 ⟨⟨hS.1, fun hU => hS.2 (unl_back hist hU)⟩, H⟩
    · have h1 := H.2 j (ready_mono hj hji)
      obtain ⟨hjun, oj, hoj, hall⟩ := mem_ready.1 hj
      have hnot : ∀ e ∈ oj.after, Region.binds md e = true → e.on ≠ i := fun e he hb heq => by
        have h1 := hall e he hb
        have h0 := (mem_ready.1 hr).1
        rw [heq] at h1
        rcases Nat.lt_or_ge i listed.size with h' | h'
        · simp [h'] at h0 h1; rw [h0] at h1; cases h1
        · simp [Array.getElem?_eq_none h'] at h1
      have h2 := wpOp_putIf hoj (hfree j oj hoj hji hjun hnot) (fun cs b => hsel i oi cs b hi) (fun cs b => hsel j oj cs b hoj) hQ hy h1
      have hfree' : ∀ k ok, ops[k]? = some ok → k ≠ i → (listed.setIfInBounds j true).getD k true = false →
          (∀ e ∈ ok.after, Region.binds md e = true → e.on ≠ i) → oi.apart ops ok = true := fun k ok hk hki hun hno => by
        refine hfree k ok hk hki ?_ hno
        by_cases hjk : j = k
        · subst hjk; exact hjun
        · rw [getD_set_ne true hjk] at hun; exact hun
      refine wpOp_mono (fun a' w' h3 => ⟨⟨h3.2.1.1, fun hU => h3.2.1.2 (by rw [Array.setIfInBounds_comm _ _ (Ne.symm hji)]; exact hU.set hist)⟩, ih (listed.setIfInBounds j true) a' w' hfree' (ready_mono hr (Ne.symm hji)) h3.1 ⟨h3.2.1.1, fun hU => h3.2.1.2 (by rw [Array.setIfInBounds_comm _ _ (Ne.symm hji)]; exact hU.set hist)⟩ ?_⟩) h2
      rw [Array.setIfInBounds_comm _ _ hji]
      exact h3.2.2

/-- Each of st waits for number i, and is not i. -/
def waitB (md : Region.Mode) (ops : Array Oper) (st : List Nat) (i : Nat) : Bool :=
  st.all fun s => s != i && match ops[s]? with
    | some o => o.after.any fun e => Region.binds md e && e.on == i
    | none => false
def unlB (st : List Nat) (listed : Array Bool) : Bool := st.all fun s => !listed.getD s true
theorem unl_of {listed : Array Bool} (h : unlB st listed = true) : Unl st listed := fun s hs => by
  have := List.all_eq_true.1 h s hs
  simpa using this

/-- Take number i first: all of st wait for it. -/
theorem wpAnyT_take {i : Nat} {oi : Oper} {v : Value} {fuel : Nat} {listed : Array Bool} {a : Act} {w : World} (hi : ops[i]? = some oi)
    (hs : Region.noSelect ops = true) (hf : Region.free md ops listed i = true) (hr : (Region.ready md ops listed).contains i = true) (hw : waitB md ops st i = true) (hu : unlB st listed = true)
    (hQ : ∀ c a w, Q (.panic c) (a.put oi.dst v) w → Q (.panic c) a w) (hy : YieldsIf P ops (fun w => S w ∧ C w) oi v a) (hS : S w ∧ C w)
    (h : wpAnyT P md ops Q S C st fuel (listed.setIfInBounds i true) (a.put oi.dst v) w) : wpAnyT P md ops Q S C st (fuel + 1) listed a w := by
  have hw' := List.all_eq_true.1 hw
  refine wpAnyT_first hi (Region.noSelect_spec hs) hQ (fun hm => by have := hw' i hm; simp at this) (fun s hs os hos => ?_) fuel listed a w (Region.free_spec hi hf) (by simpa using hr) hy (unl_of hu) hS h
  have h1 := hw' s hs
  rw [hos] at h1
  simp only [Bool.and_eq_true] at h1
  obtain ⟨e, he, hb⟩ := Array.any_eq_true'.1 h1.2
  simp only [Bool.and_eq_true, beq_iff_eq] at hb
  exact ⟨e, he, hb.1, hb.2⟩

/-- Take number i first: it yields whatever st does. -/
theorem wpAnyT_takeB {i : Nat} {oi : Oper} {v : Value} {fuel : Nat} {listed : Array Bool} {a : Act} {w : World} (hi : ops[i]? = some oi)
    (hs : Region.noSelect ops = true) (hf : Region.free md ops listed i = true) (hr : (Region.ready md ops listed).contains i = true) (hn : st.contains i = false)
    (hQ : ∀ c a w, Q (.panic c) (a.put oi.dst v) w → Q (.panic c) a w) (hy : YieldsIf P ops S oi v a) (hS : S w ∧ C w)
    (h : wpAnyT P md ops Q S C st fuel (listed.setIfInBounds i true) (a.put oi.dst v) w) : wpAnyT P md ops Q S C st (fuel + 1) listed a w :=
  wpAnyT_firstB hi (Region.noSelect_spec hs) hQ (fun hm => by rw [List.contains_iff_mem.2 hm] at hn; cases hn) fuel listed a w (Region.free_spec hi hf) (by simpa using hr) hy ⟨hS.1, fun _ => hS.2⟩ h

/-- One alone may come up. -/
theorem wpAnyT_one {i : Nat} {o : Oper} {fuel : Nat} {listed : Array Bool} {a : Act} {w : World} (hr : Region.ready md ops listed = [i]) (ho : ops[i]? = some o)
    (h : ∀ K' : Act → World → Prop, Shut (∀ a w, HT S C st (listed.setIfInBounds i true) w → wpAnyT P md ops Q S C st fuel (listed.setIfInBounds i true) a w → K' a w) → if Region.wanted o (yielded ops a.tmps) = true then Oper.wp P o a w K' Q else K' (a.put o.dst undef) w) : wpAnyT P md ops Q S C st (fuel + 1) listed a w := by
  refine ⟨fun h0 => (by rw [h0] at hr; cases hr), fun j hj => ?_⟩
  rw [hr, List.mem_singleton] at hj
  subst hj
  exact wpOp_step ho fun K' hK => h K' fun a w h1 h2 => hK a w ⟨h1, h2⟩

/-- One alone may come up, and it is of the second part. -/
theorem wpAnyT_late {i : Nat} {o : Oper} {fuel : Nat} {listed : Array Bool} {a : Act} {w : World} (hr : Region.ready md ops listed = [i]) (ho : ops[i]? = some o) (hn : unlB st (listed.setIfInBounds i true) = false)
    (h : ∀ K' : Act → World → Prop, Shut (∀ a w, S w → wpAnyT P md ops Q S C st fuel (listed.setIfInBounds i true) a w → K' a w) → if Region.wanted o (yielded ops a.tmps) = true then Oper.wp P o a w K' Q else K' (a.put o.dst undef) w) : wpAnyT P md ops Q S C st (fuel + 1) listed a w :=
  wpAnyT_one hr ho fun K' hK => h K' fun a w h1 h2 => hK.out a w ⟨h1, fun hU => by
    have : unlB st (listed.setIfInBounds i true) = true := List.all_eq_true.2 fun s hs => by have := hU s hs; simp only [Bool.not_eq_true', this]
    rw [hn] at this; cases this⟩ h2

theorem wpAnyT_done {listed : Array Bool} {a : Act} {w : World} (hr : Region.ready md ops listed = []) (h : Q .normal a w) :
    ∀ fuel, wpAnyT P md ops Q S C st fuel listed a w
  | 0 => ⟨hr, h⟩
  | _ + 1 => ⟨fun _ => h, by rw [hr]; simp⟩

theorem wp_region_T {id : Nat} {a : Act} {w : World} (S C : World → Prop) (st : List Nat) (hm : P.follows .mixedOrders = true) (hS : S w.drew ∧ C w.drew)
    (h : S w.drew ∧ C w.drew → wpAnyT P .any ops Q S C st ops.size (Array.replicate ops.size false) a w.drew) : (Code.region id ops true).wp P Q a w :=
  wp_region_any hm (wpAny_of_T _ _ _ _ (h hS))
end
end Go.Proofs.YtjffbndiecjkjaaGreatDoor

namespace Go.Proofs.YtjffbndiecjkjaaGreatDoor
open Go.Shelf Go.RowKit Go.Lib Go.Sort
open Bn (limbs)

/-- Pieces of two rows, merged, in memory. -/
def Mo (K K' : List (Int × Int)) (b cap : Nat) (L : List PcV) (ps : List (Int × Int)) (w : World) : Prop := b < w.heap.size ∧ L.length ≤ cap ∧ HoldsK encP 3 w b 0 L.toArray ∧ Says w L ps ∧ Climbs ps ∧ ps.Perm (K ++ K')
theorem Mo.below {K K' : List (Int × Int)} {b cap : Nat} {L : List PcV} {ps : List (Int × Int)} {w w' : World} (h : Mo K K' b cap L ps w) (hb : RowKit.Below w.heap.size w w') : Mo K K' b cap L ps w' :=
  ⟨Nat.lt_of_lt_of_le h.1 hb.size, h.2.1, HoldsK.keep h.2.2.1 hb h.1, h.2.2.2.1.mono (fun _ _ hB => hB.below hb), h.2.2.2.2⟩
theorem Mo.formed {K K' : List (Int × Int)} {b cap : Nat} {L : List PcV} {ps : List (Int × Int)} {w : World} {r : Value} {d : Int} (h : Mo K K' b cap L ps w) (hD : BigAt w r d) (hlit : ∀ p ∈ K ++ K', IsLit p.2) (hn : K.length + K'.length ≤ 1000000) (hab : (limbs (Pm.absS (K ++ K'))).length ≤ 900000) (hdl : (limbs d.natAbs).length ≤ 900000) :
    Calls Tryz.prog 38 #[.slice (some ⟨b, 0, none⟩) L.length cap, r] w (FormOut w (K ++ K') d) := by
  obtain ⟨n, q, rfl⟩ := hD.shape
  obtain ⟨h1, h2, h3, h4, h5, h6⟩ := h
  have hl := h4.1
  have hl2 := h6.length_eq
  rw [List.length_append] at hl2
  refine (formed_any b cap L ps n q d w h3 h1 h4 h5 (fun p hp => hlit p (h6.mem_iff.1 hp)) (by omega) h2 hD (by rw [Pm.absS_perm h6]; exact hab) hdl).mono ?_
  rintro e w' ⟨v, K2, D, he, hf, hpb, hlt, hlen, hb⟩
  exact ⟨v, K2, D, he, hf.perm h6, hpb, hlt, by rw [← h6.length_eq]; exact hlen, hb⟩

/-- The two rows' boxes. -/
def SAd (w : World) (a : Option Addr) (N c : Nat) (n : Int) (q : Option Addr) (a' : Option Addr) (N' c' : Nat) (n' : Int) (q' : Option Addr) (w' : World) : Prop := w'.cell? ⟨w.heap.size, 0, none⟩ = some (.slice a N c) ∧ w'.cell? ⟨w.heap.size, 1, none⟩ = some (.int .i64 n) ∧ w'.cell? ⟨w.heap.size, 2, none⟩ = some (.pointer q) ∧ w'.cell? ⟨w.heap.size + 1, 0, none⟩ = some (.slice a' N' c') ∧ w'.cell? ⟨w.heap.size + 1, 1, none⟩ = some (.int .i64 n') ∧ w'.cell? ⟨w.heap.size + 1, 2, none⟩ = some (.pointer q')

set_option maxRecDepth 100000 in
set_option maxHeartbeats 4000000 in
theorem add_any (u v : Value) (K K' : List (Int × Int)) (D D' : Int) (w : World) (hu : PbAt w u K D) (hv : PbAt w v K' D') (hr : Pm.Rises K) (hr' : Pm.Rises K') (hlit : ∀ p ∈ K, IsLit p.2) (hlit' : ∀ p ∈ K', IsLit p.2) (hn : K.length ≤ 500000) (hn' : K'.length ≤ 500000)
    (hab : (limbs (Pm.absS (K ++ K'))).length ≤ 900000) (hDl : (limbs D.natAbs).length ≤ 900000) (hDl' : (limbs D'.natAbs).length ≤ 900000) (hSl : (limbs (D + D').natAbs).length ≤ 900000) :
    Calls Tryz.prog 21 #[u, v] w (FormOut w (K ++ K') (D + D')) := by
  obtain ⟨a, c, n, q, rfl, hpi, hB⟩ := hu
  obtain ⟨a', c', n', q', rfl, hpi', hB'⟩ := hv
  obtain ⟨N, hN⟩ : ∃ N : Nat, K.length = N := ⟨_, rfl⟩
  obtain ⟨N', hN'⟩ : ∃ N : Nat, K'.length = N := ⟨_, rfl⟩
  rw [hN] at hpi ⊢
  rw [hN'] at hpi' ⊢
  obtain ⟨W, hW⟩ : ∃ W, ((w.alloc (.cells #[.slice a N c, .int .i64 n, .pointer q] 35)).alloc (.cells #[.slice a' N' c', .int .i64 n', .pointer q'] 35)).alloc (.cells #[.slice none 0 0, .int .i64 0, .pointer none] 35) = W := ⟨_, rfl⟩
  obtain ⟨hO1, hO2, hO3, hbW, _⟩ := three_objs w _ _ _ hW
  have HbW : Hid (RowKit.Below w.heap.size w W) := hbW
  have HM : Hid (∀ w', RowKit.Below W.heap.size W w' → Calls Tryz.prog 50 #[.slice a N c, .slice a' N' c'] w' (MergOut w' K K')) := fun w' hb => merged_any _ _ K K' w' ((hpi.below hbW).below hb) ((hpi'.below hbW).below hb) hr hr' hlit hlit' hn hn'
  have HA : Hid (∀ w', RowKit.Below W.heap.size W w' → Calls Tryz.prog 29 #[.agg #[.int .i64 n, .pointer q], .agg #[.int .i64 n', .pointer q']] w' fun e w'' => ∃ r, e = .returned r ∧ BigAt w'' r (D + D') ∧ RowKit.Below w'.heap.size w' w'') := fun w' hb => add_big D D' _ _ w' ((hB.below hbW).below hb) ((hB'.below hbW).below hb) (Nat.le_trans hDl (by decide)) (Nat.le_trans hDl' (by decide))
  have HFo : Hid (∀ w' b cap L ps r, Mo K K' b cap L ps w' → BigAt w' r (D + D') → Calls Tryz.prog 38 #[.slice (some ⟨b, 0, none⟩) L.length cap, r] w' (FormOut w' (K ++ K') (D + D'))) := fun w' b cap L ps r hm hb => hm.formed hb (fun p hp => by
    rcases List.mem_append.1 hp with hp | hp
    · exact hlit p hp
    · exact hlit' p hp) (by omega) hab hSl
  have HAll : Hid (∀ w', RowKit.Below W.heap.size W w' → w'.heap[w.heap.size]? = some (.cells #[.slice a N c, .int .i64 n, .pointer q] 35) ∧ w'.heap[w.heap.size + 1]? = some (.cells #[.slice a' N' c', .int .i64 n', .pointer q'] 35) ∧ Box0 w' (w.heap.size + 1 + 1)) := fun w' hb =>
    ⟨(hb.block _ (Array.getElem?_eq_some_iff.1 hO1).1).trans hO1, (hb.block _ (Array.getElem?_eq_some_iff.1 hO2).1).trans hO2, hO3 |> fun h => (hb.block _ (Array.getElem?_eq_some_iff.1 h).1).trans h⟩
  have HW : Hid (RowKit.Below W.heap.size W W.drew) := (Below.refl _ _).drew
  obtain ⟨k0, k1, k2, _, _, _⟩ := box3_facts hO1
  obtain ⟨m0, m1, m2, _, _, _⟩ := box3_facts hO2
  clear hO1 hO2 hO3 hbW hpi hpi' hB hB' hr hr' hlit hlit' hn hn' hab hDl hDl' hSl hN hN'
  go_enter Tryz.func21, Tryz.ntmps21
  go_wp2_with fail
  have HAl : Hid (∀ w', RowKit.Below W.heap.size W w' → SAd w a N c n q a' N' c' n' q' w') := fun w' hb => by
    obtain ⟨y0, y1, y2, _, _, _⟩ := box3_facts (HAll.out w' hb).1
    obtain ⟨z0, z1, z2, _, _, _⟩ := box3_facts (HAll.out w' hb).2.1
    exact ⟨y0, y1, y2, z0, z1, z2⟩
  unfold SAd at HAl
  refine wp_region_T (fun w' => w'.cell? ⟨w.heap.size, 0, none⟩ = some (.slice a N c) ∧ w'.cell? ⟨w.heap.size, 1, none⟩ = some (.int .i64 n) ∧ w'.cell? ⟨w.heap.size, 2, none⟩ = some (.pointer q) ∧ w'.cell? ⟨w.heap.size + 1, 0, none⟩ = some (.slice a' N' c') ∧ w'.cell? ⟨w.heap.size + 1, 1, none⟩ = some (.int .i64 n') ∧ w'.cell? ⟨w.heap.size + 1, 2, none⟩ = some (.pointer q')) (fun _ => True) [11] (by kernel_rfl) ⟨HAl.out _ HW.out, trivial⟩ (fun hHeld => ?_)
  refine wpAnyT_takeB (i := 0) (oi := ⟨some 5, .fieldAddr 35 (.tmp 2) 0, _, _, _, _⟩) (v := ?vR1x0) rfl (by kernel_rfl) (by kernel_rfl) (by kernel_rfl) (by kernel_rfl) (fun _ _ _ h => h) (Or.inl ⟨by rfl, ?hyR1x0⟩) (by assumption) ?restR1x0
  case hyR1x0 => (intro w hSw; (try dsimp only at hSw); go_simp; try (with_reducible rfl))
  try simp only [Act.put, List.setIfInBounds_toArray, List.set_cons_zero, List.set_cons_succ]
  refine wpAnyT_takeB (i := 1) (oi := ⟨some 6, .load 30 (.tmp 5), _, _, _, _⟩) (v := ?vR1x1) rfl (by kernel_rfl) (by kernel_rfl) (by kernel_rfl) (by kernel_rfl) (fun _ _ _ h => h) (Or.inl ⟨by rfl, ?hyR1x1⟩) (by assumption) ?restR1x1
  case hyR1x1 => (intro w hSw; (try dsimp only at hSw); go_simp; try (with_reducible rfl))
  try simp only [Act.put, List.setIfInBounds_toArray, List.set_cons_zero, List.set_cons_succ]
  refine wpAnyT_takeB (i := 2) (oi := ⟨some 7, .fieldAddr 35 (.tmp 3) 0, _, _, _, _⟩) (v := ?vR1x2) rfl (by kernel_rfl) (by kernel_rfl) (by kernel_rfl) (by kernel_rfl) (fun _ _ _ h => h) (Or.inl ⟨by rfl, ?hyR1x2⟩) (by assumption) ?restR1x2
  case hyR1x2 => (intro w hSw; (try dsimp only at hSw); go_simp; try (with_reducible rfl))
  try simp only [Act.put, List.setIfInBounds_toArray, List.set_cons_zero, List.set_cons_succ]
  refine wpAnyT_takeB (i := 3) (oi := ⟨some 8, .load 30 (.tmp 7), _, _, _, _⟩) (v := ?vR1x3) rfl (by kernel_rfl) (by kernel_rfl) (by kernel_rfl) (by kernel_rfl) (fun _ _ _ h => h) (Or.inl ⟨by rfl, ?hyR1x3⟩) (by assumption) ?restR1x3
  case hyR1x3 => (intro w hSw; (try dsimp only at hSw); go_simp; try (with_reducible rfl))
  try simp only [Act.put, List.setIfInBounds_toArray, List.set_cons_zero, List.set_cons_succ]
  refine wpAnyT_takeB (i := 5) (oi := ⟨some 10, .fieldAddr 35 (.tmp 2) 1, _, _, _, _⟩) (v := ?vR1x5) rfl (by kernel_rfl) (by kernel_rfl) (by kernel_rfl) (by kernel_rfl) (fun _ _ _ h => h) (Or.inl ⟨by rfl, ?hyR1x5⟩) (by assumption) ?restR1x5
  case hyR1x5 => (intro w hSw; (try dsimp only at hSw); go_simp; try (with_reducible rfl))
  try simp only [Act.put, List.setIfInBounds_toArray, List.set_cons_zero, List.set_cons_succ]
  refine wpAnyT_takeB (i := 6) (oi := ⟨some 11, .load 33 (.tmp 10), _, _, _, _⟩) (v := ?vR1x6) rfl (by kernel_rfl) (by kernel_rfl) (by kernel_rfl) (by kernel_rfl) (fun _ _ _ h => h) (Or.inl ⟨by rfl, ?hyR1x6⟩) (by assumption) ?restR1x6
  case hyR1x6 => (intro w hSw; (try dsimp only at hSw); go_simp; try (with_reducible rfl))
  try simp only [Act.put, List.setIfInBounds_toArray, List.set_cons_zero, List.set_cons_succ]
  refine wpAnyT_takeB (i := 7) (oi := ⟨some 12, .fieldAddr 35 (.tmp 3) 1, _, _, _, _⟩) (v := ?vR1x7) rfl (by kernel_rfl) (by kernel_rfl) (by kernel_rfl) (by kernel_rfl) (fun _ _ _ h => h) (Or.inl ⟨by rfl, ?hyR1x7⟩) (by assumption) ?restR1x7
  case hyR1x7 => (intro w hSw; (try dsimp only at hSw); go_simp; try (with_reducible rfl))
  try simp only [Act.put, List.setIfInBounds_toArray, List.set_cons_zero, List.set_cons_succ]
  refine wpAnyT_takeB (i := 8) (oi := ⟨some 13, .load 33 (.tmp 12), _, _, _, _⟩) (v := ?vR1x8) rfl (by kernel_rfl) (by kernel_rfl) (by kernel_rfl) (by kernel_rfl) (fun _ _ _ h => h) (Or.inl ⟨by rfl, ?hyR1x8⟩) (by assumption) ?restR1x8
  case hyR1x8 => (intro w hSw; (try dsimp only at hSw); go_simp; try (with_reducible rfl))
  try simp only [Act.put, List.setIfInBounds_toArray, List.set_cons_zero, List.set_cons_succ]
  refine wpAnyT_one (i := 4) (o := ⟨some 9, .call { callee := .value (.func 50), args := #[(.tmp 6), (.tmp 8)], argTypes := #[30, 30] }, _, _, _, _⟩) (by kernel_rfl) rfl (fun Kq hK => ?_)
  go_simp
  refine calls_at (HM.out W.drew HW.out) (by with_reducible rfl) (by with_reducible rfl) ?_
  rintro e w1 ⟨b, cap, L, ps, rfl, hblt, hcap, hH, hS, hC, hp, hb1⟩
  have HMo : Hid (Mo K K' b cap L ps w1) := ⟨hblt, hcap, hH, hS, hC, hp⟩
  have HbM : Hid (RowKit.Below W.drew.heap.size W.drew w1) := hb1
  have HW : Hid (RowKit.Below W.heap.size W w1) := HW.out.trans (hb1.mono HW.out.size)
  clear hblt hcap hH hS hC hp hb1
  go_wp2_with fail
  refine hK.out _ _ ⟨HAl.out _ HW.out, fun _ => trivial⟩ ?_
  clear hK Kq
  try simp only [Act.put, List.setIfInBounds_toArray, List.set_cons_zero, List.set_cons_succ]
  refine wpAnyT_one (i := 9) (o := ⟨some 14, .call { callee := .value (.func 29), args := #[(.tmp 11), (.tmp 13)], argTypes := #[33, 33] }, _, _, _, _⟩) (by kernel_rfl) rfl (fun Kq hK => ?_)
  go_simp
  refine calls_at (HA.out w1 HW.out) (by with_reducible rfl) (by with_reducible rfl) ?_
  rintro e w2 ⟨rd, rfl, hrd, hb2⟩
  have HAo : Hid (BigAt w2 rd (D + D')) := hrd
  have HbA : Hid (RowKit.Below w1.heap.size w1 w2) := hb2
  have HW : Hid (RowKit.Below W.heap.size W w2) := HW.out.trans (hb2.mono HW.out.size)
  clear hrd hb2
  go_wp2_with fail
  refine hK.out _ _ ⟨HAl.out _ HW.out, fun _ => trivial⟩ ?_
  clear hK Kq
  try simp only [Act.put, List.setIfInBounds_toArray, List.set_cons_zero, List.set_cons_succ]
  refine wpAnyT_one (i := 10) (o := ⟨some 15, .call { callee := .value (.func 38), args := #[(.tmp 9), (.tmp 14)], argTypes := #[30, 33] }, _, _, _, _⟩) (by kernel_rfl) rfl (fun Kq hK => ?_)
  go_simp
  refine calls_at (HFo.out w2 b cap L ps rd (HMo.out.below HbA.out) HAo.out) (by with_reducible rfl) (by with_reducible rfl) ?_
  rintro e w4 ⟨v4, K2, D2, rfl, hform, hpb, hlt, hlen, hb4⟩
  have HW : Hid (RowKit.Below W.heap.size W w4) := HW.out.trans (hb4.mono HW.out.size)
  obtain ⟨a4, c4, n4, q4, rfl, hPi, hBg⟩ := hpb
  have hX4 := (HAll.out _ HW.out).2.2
  obtain ⟨x0, x1, x2, f0, f1, f2⟩ := hX4.cells
  obtain ⟨X, hX⟩ : ∃ X, ((w4.setCell ⟨w.heap.size + 1 + 1, 0, none⟩ (.slice a4 K2.length c4)).setCell ⟨w.heap.size + 1 + 1, 1, none⟩ (.int .i64 n4)).setCell ⟨w.heap.size + 1 + 1, 2, none⟩ (.pointer q4) = X := ⟨_, rfl⟩
  have hbw4 : RowKit.Below w.heap.size w w4 := HbW.out.trans (HW.out.mono HbW.out.size)
  have hgX : w4.grownBy X (some (w.heap.size + 1 + 1)) := by rw [← hX]; exact grown_set3 w4 (w.heap.size + 1 + 1) 0 _ _ _
  have HSX : Hid (SAd w a N c n q a' N' c' n' q' X) := by
    have h1 := (HAll.out _ HW.out).1
    have h2 := (HAll.out _ HW.out).2.1
    have g1 := (hgX.block _ (Array.getElem?_eq_some_iff.1 h1).1 (by simp; omega)).trans h1
    have g2 := (hgX.block _ (Array.getElem?_eq_some_iff.1 h2).1 (by simp)).trans h2
    obtain ⟨y0, y1, y2, _, _, _⟩ := box3_facts g1
    obtain ⟨z0, z1, z2, _, _, _⟩ := box3_facts g2
    exact ⟨y0, y1, y2, z0, z1, z2⟩
  have HRet := row_ret hX4 hPi hBg hX
  have HR : Hid (X.cell? ⟨w.heap.size + 1 + 1, 0, none⟩ = some (.slice a4 K2.length c4) ∧ X.cell? ⟨w.heap.size + 1 + 1, 1, none⟩ = some (.int .i64 n4) ∧ X.cell? ⟨w.heap.size + 1 + 1, 2, none⟩ = some (.pointer q4) ∧ PbAt X (.agg #[.slice a4 K2.length c4, .int .i64 n4, .pointer q4]) K2 D2 ∧ RowKit.Below w.heap.size w X) := ⟨HRet.1, HRet.2.1, HRet.2.2.1, HRet.2.2.2.1, HRet.2.2.2.2 _ _ (by omega) hbw4⟩
  have HX : Hid (((w4.setCell ⟨w.heap.size + 1 + 1, 0, none⟩ (.slice a4 K2.length c4)).setCell ⟨w.heap.size + 1 + 1, 1, none⟩ (.int .i64 n4)).setCell ⟨w.heap.size + 1 + 1, 2, none⟩ (.pointer q4) = X) := hX
  have Hf : Hid (Pm.IsForm (K ++ K') (D + D') K2 D2 ∧ (∀ p ∈ K2, IsLit p.2) ∧ K2.length ≤ (K ++ K').length) := ⟨hform, hlt, hlen⟩
  clear hb4 hPi hBg hX4 HRet hgX hbw4 hX hform hlt hlen
  go_wp2_with fail
  refine hK.out _ _ ⟨HAl.out _ HW.out, fun _ => trivial⟩ ?_
  clear hK Kq
  try simp only [Act.put, List.setIfInBounds_toArray, List.set_cons_zero, List.set_cons_succ]
  refine wpAnyT_late (i := 11) (o := ⟨none, .store 35 (.tmp 4) (.tmp 15), _, _, _, _⟩) (by kernel_rfl) rfl (by kernel_rfl) (fun Kq hK => ?_)
  go_simp
  rw [HX.out]
  refine hK.out _ _ HSX.out ?_
  clear hK Kq x0 x1 x2 f0 f1 f2
  try simp only [Act.put, List.setIfInBounds_toArray, List.set_cons_zero, List.set_cons_succ]
  refine wpAnyT_done (by kernel_rfl) ?_ _
  go_wp2_with fail
  obtain ⟨y0, y1, y2, hPb, hbX⟩ := HR.out
  exact bodyPost_ret (by simp [results, Tryz.results21, go_sem, y0, y1, y2]; try rfl) rfl ⟨_, K2, D2, rfl, Hf.out.1, hPb, Hf.out.2.1, Hf.out.2.2, hbX⟩
end Go.Proofs.YtjffbndiecjkjaaGreatDoor
