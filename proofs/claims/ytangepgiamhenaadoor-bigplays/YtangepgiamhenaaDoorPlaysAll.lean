/-
  Put together: Own, PlaysBase, PlaysAt, PlaysInfo.
-/
import Derived.Test.YtangepgiamhenaaDoorSettled
import Derived.Test.YtangepgiamhenaaDoorRefOf
namespace Go.Proofs.YtangepgiamhenaaDoor
open Go.RowKit
open Bn (limbs)

/-- A cell that is no limb of the program's. -/
def NoLimb (u : Value) : Prop := ∀ n, u ≠ .int .u32 n

/-- A row of the call's own, none of whose cells, those behind its length too, is a limb. -/
def OwnK (w : World) (base : Nat) (e : TypeId) (size : Nat) (v : Value) (n : Nat) (xs : List Value) : Prop :=
  w.ownsRow base e size v n xs ∧ ∀ g cur f, v.ownBlock = some g → w.heap[g]? = some (.cells cur e f) → ∀ u ∈ cur.toList, NoLimb u

theorem OwnK.kept {w w' : World} {base : Nat} {e : TypeId} {size : Nat} {v : Value} {n : Nat} {xs : List Value} (h : OwnK w base e size v n xs) (hb : Below w.heap.size w w') : OwnK w' base e size v n xs := by
  obtain ⟨⟨hl, ho⟩, hk⟩ := h
  rcases ho with hn | ⟨g, cap, cur, hv, hbg, hg, h1, h2, h3, h4⟩
  · exact ⟨⟨hl, .inl hn⟩, fun g cur f hg => by rw [hn.1] at hg; simp [Value.ownBlock] at hg⟩
  · have hlt : g < w.heap.size := (Array.getElem?_eq_some_iff.1 hg).1
    have hg' : w'.heap[g]? = some (.cells cur e (0, 0)) := (hb.block g hlt).trans hg
    refine ⟨⟨hl, .inr ⟨g, cap, cur, hv, hbg, hg', h1, h2, h3, h4⟩⟩, fun g' cur' f hgv hc => ?_⟩
    rw [hv] at hgv
    simp [Value.ownBlock] at hgv
    subst hgv
    rw [hg'] at hc
    injection hc with hc
    injection hc with hc1 hc2 hc3
    subst hc1
    exact hk g cur (0, 0) (by rw [hv]; rfl) hg

theorem zeroCells_k {z : Array Value} {n : Nat} (hz : ∀ u ∈ z.toList, NoLimb u) : ∀ u ∈ (Builtin.zeroCells z n).toList, NoLimb u := by
  intro u hu
  simp [Builtin.zeroCells] at hu
  obtain ⟨i, hi, rfl⟩ := hu
  have hs : 0 < z.size := by
    rcases Nat.eq_zero_or_pos z.size with h | h
    · rw [h] at hi; omega
    · exact h
  have hm := Nat.mod_lt i hs
  rw [getElem!_pos z (i % z.size) hm]
  exact hz _ (by simp)

theorem run_append_k {P : Program} (w : World) (base : Nat) (t ty e : TypeId) (i : TypeInfo) (z : Value) (size bytes : Nat) (ht : P.underlying t = some (.slice e)) (hi : P.info? e = some i) (hz : i.zero = some z)
    (hsize : i.size = size) (hby : i.bytes = bytes) (hzs : z.cells.size = size) (hsz : 0 < size) (hzk : ∀ u ∈ z.cells.toList, NoLimb u)
    (v : Value) (n : Nat) (xs : List Value) (hown : OwnK w base e size v n xs)
    (a : Addr) (m c : Nat) (news : List Value) (hl : news.length = m * size) (hnews : ∀ j u, news[j]? = some u → w.cell? (a.add j) = some u) (h1 : ∀ u ∈ news, u.oneCell' = true) (hnk : ∀ u ∈ news, NoLimb u)
    (h63 : n + m ≤ maxLen) (hbytes : (n + m) * bytes ≤ 140737488355328) (hbase : base ≤ w.heap.size) :
    ∃ v' w', (Builtin.append_ #[t, t] ty #[v, .slice (some a) m c]).run P w = .ok v' w' ∧ OwnK w' base e size v' (n + m) (xs ++ news) ∧ w.grownBy w' v.ownBlock ∧ (v'.ownBlock = v.ownBlock ∨ ∀ k, k < w.heap.size → w'.heap[k]? = w.heap[k]?) := by
  obtain ⟨v', w', hr, ho, hg, hnil⟩ := run_append_own (P := P) w base t ty e i z size bytes ht hi hz hsize hby hzs hsz v n xs hown.1 a m c news hl hnews h1 h63 hbytes hbase
  suffices hs : (∀ g cur f, v'.ownBlock = some g → w'.heap[g]? = some (.cells cur e f) → ∀ u ∈ cur.toList, NoLimb u) ∧ (v'.ownBlock = v.ownBlock ∨ ∀ k, k < w.heap.size → w'.heap[k]? = w.heap[k]?) from ⟨v', w', hr, ⟨ho, hs.1⟩, hg, hs.2⟩
  subst hsize
  subst hby
  have hsmall : n + m ≤ 9223372036854775807 := by simp only [maxLen] at h63; omega
  obtain ⟨⟨hxl, hcase⟩, hkk⟩ := hown
  have newBlock : ∀ (cs : Array Value), v'.ownBlock = some w.heap.size → w' = w.drew.alloc (.cells cs e) → (∀ u ∈ cs.toList, NoLimb u) →
      ∀ g cur f, v'.ownBlock = some g → w'.heap[g]? = some (.cells cur e f) → ∀ u ∈ cur.toList, NoLimb u := by
    intro cs hv hw hcs g cur f hgb hc
    rw [hv] at hgb
    injection hgb with hgb
    subst hgb
    rw [hw] at hc
    have := heap_alloc_new w.drew (.cells cs e)
    rw [show w.heap.size = w.drew.heap.size from rfl, this] at hc
    injection hc with hc
    injection hc with hc1 hc2 hc3
    subst hc1
    exact hcs
  rcases hcase with ⟨rfl, rfl⟩ | ⟨g, cap, cur, rfl, hbg, hgg, hnc, hcm, hcs, htake⟩
  · by_cases hm : m = 0
    · have := hnil.2 ⟨rfl, hm⟩
      refine ⟨?_, .inl (by rw [this])⟩
      intro g cur f hgb
      rw [this] at hgb
      simp [Value.ownBlock] at hgb
    · have hr2 := run_append_nil (P := P) w t ty e i z ht hi hz a m c news hl hnews (by omega) (by omega) (by have hb := hbytes; simp only [Nat.zero_add] at hb; omega)
      rw [hr] at hr2
      injection hr2 with e1 e2
      refine ⟨newBlock _ (by rw [e1]; rfl) e2 ?_, .inr fun k hk => by rw [e2]; exact heap_alloc_old w.drew _ k hk⟩
      intro u hu
      rw [Array.toList_append, List.mem_append] at hu
      rcases hu with hu | hu
      · exact hnk u (by simpa using hu)
      · exact zeroCells_k hzk u hu
  · by_cases hroom : n + m ≤ cap
    · have hfit : n * i.size + news.length ≤ cur.size := by rw [hl, hcs, ← Nat.add_mul]; exact Nat.mul_le_mul_right _ hroom
      have hr2 := run_append_room (P := P) w t ty e i ht hi g n cap cur hgg a m c news hl hnews h1 hroom hfit
      rw [hr] at hr2
      injection hr2 with e1 e2
      refine ⟨?_, .inl (by rw [e1]; rfl)⟩
      intro g' cur' f hgb hc
      rw [e1] at hgb
      simp [Value.ownBlock] at hgb
      subst hgb
      rw [e2, setRow_heap w g cur _ e _ hgg] at hc
      injection hc with hc
      injection hc with hc1 hc2 hc3
      subst hc1
      intro u hu
      have hold := hkk g cur (0, 0) rfl hgg
      simp only [List.mem_append] at hu
      rcases hu with (hu | hu) | hu
      · exact hold u (List.mem_of_mem_take hu)
      · exact hnk u hu
      · exact hold u (List.mem_of_mem_drop hu)
    · have holds : ∀ j u, xs[j]? = some u → w.cell? ((⟨g, 0, none⟩ : Addr).add j) = some u := World.ownsRow.cells (base := base) (e := e) (size := i.size) (n := n) (v := .slice (some ⟨g, 0, none⟩) n cap) ⟨hxl, .inr ⟨g, cap, cur, rfl, hbg, hgg, hnc, hcm, hcs, htake⟩⟩ rfl
      have hr2 := run_append_grow (P := P) w t ty e i z ht hi hz ⟨g, 0, none⟩ n cap xs hxl holds a m c news hl hnews (by omega) (by omega) (growslice_fits (by omega) hbytes)
      rw [hr] at hr2
      injection hr2 with e1 e2
      refine ⟨newBlock _ (by rw [e1]; rfl) e2 ?_, .inr fun k hk => by rw [e2]; exact heap_alloc_old w.drew _ k hk⟩
      have hold := hkk g cur (0, 0) rfl hgg
      intro u hu
      rw [Array.toList_append, List.mem_append, Array.toList_append, List.mem_append] at hu
      rcases hu with (hu | hu) | hu
      · exact hold u (List.mem_of_mem_take (by rw [htake]; simpa using hu))
      · exact hnk u (by simpa using hu)
      · exact zeroCells_k hzk u hu

theorem wpList_append_k {P : Program} {ops : Array Oper} {rest : List Oper} {o : Oper} {a : Act} {Q : Exit → Act → World → Prop} (w : World) (hgd : o.guard = none) (s x : Operand) (t : TypeId)
    (ho : o.op = .call { callee := .builtin .append, args := #[s, x], argTypes := #[t, t] })
    (base : Nat) (e : TypeId) (i : TypeInfo) (z : Value) (size bytes : Nat) (ht : P.underlying t = some (.slice e)) (hi : P.info? e = some i) (hz : i.zero = some z)
    (hsize : i.size = size) (hby : i.bytes = bytes) (hzs : z.cells.size = size) (hsz : 0 < size) (hzk : ∀ u ∈ z.cells.toList, NoLimb u)
    (v : Value) (n : Nat) (xs : List Value) (hs : a.eval s = v) (hown : OwnK w base e size v n xs)
    (ad : Addr) (m c : Nat) (news : List Value) (hx : a.eval x = .slice (some ad) m c) (hl : news.length = m * size) (hnews : ∀ j u, news[j]? = some u → w.cell? (ad.add j) = some u) (h1 : ∀ u ∈ news, u.oneCell' = true) (hnk : ∀ u ∈ news, NoLimb u)
    (h63 : n + m ≤ maxLen) (hbytes : (n + m) * bytes ≤ 140737488355328) (hbase : base ≤ w.heap.size)
    (h : ∀ v' w', OwnK w' base e size v' (n + m) (xs ++ news) → w.grownBy w' v.ownBlock → (v'.ownBlock = v.ownBlock ∨ ∀ k, k < w.heap.size → w'.heap[k]? = w.heap[k]?) → wpList P ops Q rest (a.put o.dst v') w') : wpList P ops Q (o :: rest) a w := by
  refine wpList_plain hgd fun _ hK => ?_
  obtain ⟨v', w', hr, h2, h3, h4⟩ := run_append_k (P := P) w base t o.type e i z size bytes ht hi hz hsize hby hzs hsz hzk v n xs hown ad m c news hl hnews h1 hnk h63 hbytes hbase
  unfold Oper.wp execOp
  simp only [ho, resolve, invoke, builtin, Sem.run_bind, Sem.run_pure, Result.andThen_ok, List.map_toArray, List.map_cons, List.map_nil, hs, hx, hr]
  exact hK _ _ (h v' w' h2 h3 h4)

theorem U32At.off {w w' : World} {v : Value} {l : List Nat} (h : U32At w v l) {row : Option Nat} (hg : w.grownBy w' row) (hk : ∀ g cur e f, row = some g → w.heap[g]? = some (.cells cur e f) → ∀ u ∈ cur.toList, NoLimb u) (hc0 : ∀ g, row = some g → ∃ cur e f, w.heap[g]? = some (.cells cur e f)) : U32At w' v l := by
  rcases h with h | ⟨b, off, cap, hv, hlt, hl, hm, hc⟩
  · exact .inl h
  · by_cases h0 : l = []
    · subst h0
      exact .inr ⟨b, off, cap, hv, Nat.lt_of_lt_of_le hlt hg.size, hl, hm, fun j hj => by simp at hj⟩
    · have hpos : 0 < l.length := List.length_pos_iff.2 h0
      refine .inr ⟨b, off, cap, hv, Nat.lt_of_lt_of_le hlt hg.size, hl, hm, fun j hj => ?_⟩
      refine (World.cell?_of_block (a := ⟨b, off + j, none⟩) (hg.block b hlt ?_)).trans (hc j hj)
      intro hrow
      obtain ⟨cur, e, f, hcur⟩ := hc0 b hrow.symm
      have h1 := hc j hj
      have h2 := hk b cur e f hrow.symm hcur
      have h3 : cur[off + j]? = some (.int .u32 ((l[j] : Nat) : Int)) := by
        simpa [World.cell?, hcur] using h1
      exact h2 _ (by simpa using Array.mem_of_getElem? h3) _ rfl

/-- A number of the program's, behind a write to a row without limbs whose first cell is no Boolean. -/
theorem BigAt.off {w w' : World} {v : Value} {z : Int} (h : BigAt w v z) {row : Option Nat} (hg : w.grownBy w' row) (hk : ∀ g cur e f, row = some g → w.heap[g]? = some (.cells cur e f) → ∀ u ∈ cur.toList, NoLimb u) (hc0 : ∀ g, row = some g → ∃ cur e f, w.heap[g]? = some (.cells cur e f) ∧ ∀ d, cur[0]? ≠ some (.bool d)) : BigAt w' v z := by
  rcases h with h | ⟨h, p, s, hv, hp, h0, h1, hU⟩
  · exact .inl h
  · have hne : some p ≠ row := by
      intro hrow
      obtain ⟨cur, e, f, hcur, hb⟩ := hc0 p hrow.symm
      exact hb (decide (z < 0)) (by simpa [World.cell?, hcur] using h0)
    have hb := hg.block p hp hne
    exact .inr ⟨h, p, s, hv, Nat.lt_of_lt_of_le hp hg.size, (World.cell?_of_block (a := ⟨p, 0, none⟩) hb).trans h0, (World.cell?_of_block (a := ⟨p, 1, none⟩) hb).trans h1, hU.off hg hk (fun g hg => by obtain ⟨cur, e, f, h, _⟩ := hc0 g hg; exact ⟨cur, e, f, h⟩)⟩

/-- A number of the document's, behind a write to a row whose first cell stays and whose second one is no int. -/
theorem RefAt.off {w w' : World} {v : Value} {z : Int} (h : RefAt w v z) {row : Option Nat} (hg : w.grownBy w' row) (hc0 : ∀ g, row = some g → w'.cell? ⟨g, 0, none⟩ = w.cell? ⟨g, 0, none⟩ ∧ ∀ k n, w.cell? ⟨g, 1, none⟩ ≠ some (.int k n)) : RefAt w' v z := by
  obtain ⟨s, hv, hI⟩ := h
  refine ⟨s, hv, ?_⟩
  rcases hI with h | ⟨b, cap, hv, hlt, hl, hm, hc⟩
  · exact .inl h
  · refine .inr ⟨b, cap, hv, Nat.lt_of_lt_of_le hlt hg.size, hl, hm, fun j hj => ?_⟩
    by_cases hrow : some b = row
    · obtain ⟨h0, h1⟩ := hc0 b hrow.symm
      have hle : (limbs z.natAbs).length ≤ 1 := by
        rcases Nat.lt_or_ge 1 (limbs z.natAbs).length with h | h
        · exact absurd (hc 1 h) (h1 _ _)
        · exact h
      have hj0 : j = 0 := by omega
      subst hj0
      exact h0.trans (hc 0 hj)
    · exact (World.cell?_of_block (a := ⟨b, j, none⟩) (hg.block b hlt hrow)).trans (hc j hj)
end Go.Proofs.YtangepgiamhenaaDoor

namespace Go.Proofs.YtangepgiamhenaaDoor
open Go.RowKit
open Bn (limbs)

/-- A pair of numbers, its cells written out. -/
structure Pr where
  n : Int
  q : Option Addr
  d : Bool
  p : Option Addr
  l : Nat
  c : Nat
  z : Int
def Pr.cells (r : Pr) : List Value := [.int .i64 r.n, .pointer r.q, .bool r.d, .slice r.p r.l r.c]
def prCells (L : List Pr) : List Value := L.flatMap Pr.cells
def Pr.At (w : World) (m : Nat) (r : Pr) : Prop := BigAt w (.agg #[.int .i64 r.n, .pointer r.q]) r.z ∧ RefAt w (.agg #[.bool r.d, .slice r.p r.l r.c]) r.z ∧ (limbs r.z.natAbs).length ≤ m

theorem Pr.At.below {w w' : World} {m : Nat} {r : Pr} (h : r.At w m) (hb : Below w.heap.size w w') : r.At w' m := ⟨h.1.below hb, h.2.1.below hb, h.2.2⟩
theorem Pr.At.mono {w : World} {m m' : Nat} {r : Pr} (h : r.At w m) (hm : m ≤ m') : r.At w m' := ⟨h.1, h.2.1, Nat.le_trans h.2.2 hm⟩

theorem prCells_length (L : List Pr) : (prCells L).length = L.length * 4 := by
  induction L with
  | nil => rfl
  | cons r L ih => simp only [prCells, List.flatMap_cons, List.length_append, List.length_cons] at *; rw [ih]; simp [Pr.cells]; omega
theorem prCells_append (L M : List Pr) : prCells (L ++ M) = prCells L ++ prCells M := by simp [prCells]
theorem prCells_get (L : List Pr) (k : Nat) (hk : k < L.length) (j : Nat) (hj : j < 4) : (prCells L)[k * 4 + j]? = (L[k].cells)[j]? := by
  induction L generalizing k with
  | nil => simp at hk
  | cons r L ih =>
    have hc : r.cells.length = 4 := rfl
    cases k with
    | zero =>
      simp only [prCells, List.flatMap_cons, Nat.zero_mul, Nat.zero_add, List.getElem_cons_zero]
      exact List.getElem?_append_left (by omega)
    | succ k =>
      have := ih k (by simpa using hk)
      simp only [prCells, List.flatMap_cons, List.getElem_cons_succ] at *
      rw [List.getElem?_append_right (by omega), hc, ← this]
      congr 1; omega
theorem prCells_k (L : List Pr) : ∀ u ∈ prCells L, NoLimb u := by
  intro u hu
  simp only [prCells, List.mem_flatMap] at hu
  obtain ⟨r, _, hu⟩ := hu
  simp only [Pr.cells, List.mem_cons, List.not_mem_nil, or_false] at hu
  rcases hu with rfl | rfl | rfl | rfl <;> (intro n h; cases h)

/-- The pairs that are kept, in a row of the call's own. -/
def PairsAt (w : World) (base : Nat) (v : Value) (L : List Pr) (m : Nat) : Prop :=
  0 < L.length ∧ OwnK w base 46 4 v L.length (prCells L) ∧ ∀ r ∈ L, r.At w m

theorem PairsAt.kept {w w' : World} {base : Nat} {v : Value} {L : List Pr} {m : Nat} (h : PairsAt w base v L m) (hb : Below w.heap.size w w') : PairsAt w' base v L m :=
  ⟨h.1, h.2.1.kept hb, fun r hr => (h.2.2 r hr).below hb⟩
theorem PairsAt.mono {w : World} {base : Nat} {v : Value} {L : List Pr} {m m' : Nat} (h : PairsAt w base v L m) (hm : m ≤ m') : PairsAt w base v L m' :=
  ⟨h.1, h.2.1, fun r hr => (h.2.2 r hr).mono hm⟩

theorem addr_none (b o j : Nat) : (⟨b, o, none⟩ : Addr).add j = ⟨b, o + j, none⟩ := by unfold Addr.add; split <;> simp_all

theorem PairsAt.form {w : World} {base : Nat} {v : Value} {L : List Pr} {m : Nat} (h : PairsAt w base v L m) :
    ∃ b cap, v = .slice (some ⟨b, 0, none⟩) L.length cap ∧ base ≤ b ∧ b < w.heap.size ∧ L.length ≤ cap ∧ cap ≤ maxLen ∧
      ∀ k (hk : k < L.length), w.cell? ⟨b, k * 4, none⟩ = some (.int .i64 L[k].n) ∧ w.cell? ⟨b, k * 4 + 1, none⟩ = some (.pointer L[k].q) ∧ w.cell? ⟨b, k * 4 + 2, none⟩ = some (.bool L[k].d) ∧ w.cell? ⟨b, k * 4 + 3, none⟩ = some (.slice L[k].p L[k].l L[k].c) := by
  obtain ⟨h0, hO, _⟩ := h
  have hcells := fun g hg => hO.1.cells (g := g) hg
  rcases hO.1.2 with ⟨_, hn⟩ | ⟨g, cap, cur, rfl, hbg, hg, h1, h2, h3, h4⟩
  · omega
  · refine ⟨g, cap, rfl, hbg, (Array.getElem?_eq_some_iff.1 hg).1, h1, h2, fun k hk => ?_⟩
    have hc := hcells g rfl
    have one : ∀ j u, j < 4 → (L[k].cells)[j]? = some u → w.cell? ⟨g, k * 4 + j, none⟩ = some u := by
      intro j u hj hu
      have := hc (k * 4 + j) u (by rw [prCells_get L k hk j hj]; exact hu)
      rw [addr_none, Nat.zero_add] at this; exact this
    exact ⟨one 0 _ (by decide) rfl, one 1 _ (by decide) rfl, one 2 _ (by decide) rfl, one 3 _ (by decide) rfl⟩

theorem PairsAt.grow {w w' : World} {base : Nat} {v v' : Value} {L : List Pr} {m : Nat} {r : Pr} (h : PairsAt w base v L m) (hr : r.At w m) (ho : OwnK w' base 46 4 v' (L.length + 1) (prCells L ++ r.cells)) (hg : w.grownBy w' v.ownBlock) (hp : v'.ownBlock = v.ownBlock ∨ ∀ k, k < w.heap.size → w'.heap[k]? = w.heap[k]?) : PairsAt w' base v' (L ++ [r]) m := by
  have hL := h.1
  obtain ⟨b, cap, hv, hbb, hbw, hle, hcm, hc⟩ := h.form
  have c0 := (hc 0 h.1).1
  have c1 := (hc 0 h.1).2.1
  simp only [Nat.zero_mul, Nat.zero_add] at c0 c1
  have hrow : ∀ g, v.ownBlock = some g → g = b := fun g hg => by rw [hv] at hg; simpa [Value.ownBlock] using hg.symm
  obtain ⟨cur, e, f, hcur⟩ : ∃ cur e f, w.heap[b]? = some (.cells cur e f) := by
    rcases h.2.1.1.2 with ⟨hn, _⟩ | ⟨g, cap', cur, hv', _, hgg, _⟩
    · rw [hn] at hv; cases hv
    · rw [hv] at hv'
      injection hv' with e1 _ _
      injection e1 with e1
      injection e1 with e1 _ _
      subst e1
      exact ⟨cur, _, _, hgg⟩
  have hkk : ∀ g cur e f, v.ownBlock = some g → w.heap[g]? = some (.cells cur e f) → ∀ u ∈ cur.toList, NoLimb u := by
    intro g cur' e' f' hgb hc'
    rcases h.2.1.1.2 with ⟨hn, _⟩ | ⟨g', cap', cur'', hv', _, hgg, _⟩
    · rw [hn] at hv; cases hv
    · have : g = g' := by rw [hv'] at hgb; simpa [Value.ownBlock] using hgb.symm
      subst this
      rw [hgg] at hc'
      injection hc' with hc'
      injection hc' with h1 h2 h3
      subst h1
      exact h.2.1.2 g cur'' (0, 0) hgb hgg
  have cc0 : cur[0]? = some (.int .i64 L[0].n) := by simpa [World.cell?, hcur] using c0
  have big : ∀ {u z}, BigAt w u z → BigAt w' u z := fun hB => hB.off hg hkk (fun g hgb => by
    rw [hrow g hgb]
    exact ⟨cur, e, f, hcur, fun d hd => by rw [cc0] at hd; injection hd with hd; cases hd⟩)
  have keep0 : w'.cell? ⟨b, 0, none⟩ = w.cell? ⟨b, 0, none⟩ := by
    rcases hp with hsame | hold
    · rw [hv] at hsame
      have := ho.1.cells (g := b) hsame 0 (.int .i64 L[0].n) (by
        have h2 := prCells_get L 0 h.1 0 (by decide)
        simp only [Nat.zero_mul, Nat.zero_add] at h2
        rw [List.getElem?_append_left (by rw [prCells_length]; have := h.1; omega), h2]; rfl)
      rw [addr_none, Nat.zero_add] at this
      rw [this, c0]
    · exact World.cell?_of_block (a := ⟨b, 0, none⟩) (hold b hbw)
  have ref : ∀ {u z}, RefAt w u z → RefAt w' u z := fun hR => hR.off hg (fun g hgb => by
    rw [hrow g hgb]
    exact ⟨keep0, fun k n hn => by rw [c1] at hn; injection hn with hn; cases hn⟩)
  have at' : ∀ {s : Pr}, s.At w m → s.At w' m := fun hs => ⟨big hs.1, ref hs.2.1, hs.2.2⟩
  refine ⟨by simp, ?_, fun s hs => ?_⟩
  · rw [prCells_append, List.length_append]
    simpa [prCells] using ho
  · rcases List.mem_append.1 hs with hs | hs
    · exact at' (h.2.2 s hs)
    · rw [List.mem_singleton.1 hs]; exact at' hr
end Go.Proofs.YtangepgiamhenaaDoor

namespace Go.Proofs.YtangepgiamhenaaDoor
open Go.RowKit
open Bn (limbs)

theorem at_nums (i n : Int) (hn : 0 < n) (hs : n ≤ 1000) : ∃ a b : Int, i.tmod n = a ∧ (a + n).tmod n = b ∧ -1000 < a ∧ a < 1000 ∧ 0 ≤ b ∧ b < n := by
  refine ⟨_, _, rfl, rfl, ?_⟩
  have h1 : i.tmod n < n := Int.tmod_lt_of_pos i hn
  have h2 : -n < i.tmod n := by
    rcases Int.le_total 0 i with h | h
    · have := Int.tmod_nonneg n h; omega
    · have := Int.neg_tmod (-i) n
      rw [Int.neg_neg] at this
      have h3 := Int.tmod_lt_of_pos (-i) hn
      omega
  have h3 : 0 ≤ (i.tmod n + n).tmod n := Int.tmod_nonneg n (by omega)
  have h4 := Int.tmod_lt_of_pos (i.tmod n + n) hn
  omega

set_option maxRecDepth 100000 in
set_option maxHeartbeats 600000 in
theorem at_any (i n : Int) (hn : 0 < n) (hs : n ≤ 1000) (w : World) :
    Calls Tryd.prog 21 #[.int .i64 i, .int .i64 n] w fun e w' => ∃ k : Nat, e = .returned (.int .i64 (k : Int)) ∧ (k : Int) < n ∧ Below w.heap.size w w' := by
  obtain ⟨a, b, h1, h2, h3, h4, h5, h6⟩ := at_nums i n hn hs
  have hn0 : ¬ n = 0 := by omega
  have ea : wrap64 a = a := by unfold wrap64; omega
  have ean : wrap64 (a + n) = a + n := by unfold wrap64; omega
  have eb : wrap64 b = b := by unfold wrap64; omega
  go_enter Tryd.func21, Tryd.ntmps21
  go_wp2
  go_ret
  exact ⟨b.toNat, by rw [show ((b.toNat : Nat) : Int) = b by omega]; rfl, by omega, Below.refl _ _⟩
set_option maxRecDepth 100000 in
set_option maxHeartbeats 600000 in
theorem at_fix (i : Int) (n : Nat) (hn : 0 < (n : Int)) (hs : (n : Int) ≤ 1000) : ∃ k : Nat,
    (∀ w, Calls Tryd.prog 21 #[.int .i64 i, .int .i64 (n : Int)] w fun e w' => e = .returned (.int .i64 (k : Int)) ∧ w' = w) ∧ k < n := by
  generalize hm : (n : Int) = m at *
  obtain ⟨a, b, h1, h2, h3, h4, h5, h6⟩ := at_nums i m hn hs
  have hn0 : ¬ m = 0 := by omega
  have ea : wrap64 a = a := by unfold wrap64; omega
  have ean : wrap64 (a + m) = a + m := by unfold wrap64; omega
  have eb : wrap64 b = b := by unfold wrap64; omega
  have eB : ((b.toNat : Nat) : Int) = b := by omega
  refine ⟨b.toNat, fun w => ?_, by omega⟩
  rw [eB]
  clear hm eB
  go_enter Tryd.func21, Tryd.ntmps21
  go_wp2
  go_ret
  exact ⟨rfl, rfl⟩
end Go.Proofs.YtangepgiamhenaaDoor

namespace Go.Proofs.YtangepgiamhenaaDoor
open Go.RowKit
theorem Tryd.info46 : (Tryd.prog.info? 46).map (fun i => (i.zero, i.size, i.bytes)) = some (some (.agg #[.int .i64 0, .pointer none, .bool false, .slice none 0 0]), 4, 48) := by kernel_rfl
theorem pairSlice : Tryd.prog.underlying 50 = some (.slice 46) := by kernel_rfl

theorem append_pair {ops : Array Oper} {rest : List Oper} {o : Oper} {a : Act} {Q : Exit → Act → World → Prop} (wr : World) (hgd : o.guard = none) (s x : Operand)
    (ho : o.op = .call { callee := .builtin .append, args := #[s, x], argTypes := #[50, 50] }) (base : Nat) (v : Value) (L : List Pr) (m : Nat) (hs : a.eval s = v) (hP : PairsAt wr base v L m) (r : Pr) (hr : r.At wr m)
    (bk : Nat) (hbk : wr.heap.size = bk) (hx : a.eval x = .slice (some ⟨bk, 0, none⟩) 1 1) (hn : L.length ≤ 1000) (hbase : base ≤ wr.heap.size)
    (h : ∀ v' w', PairsAt w' base v' (L ++ [r]) m → Below base wr w' → wpList Tryd.prog ops Q rest (a.put o.dst v') w') : wpList Tryd.prog ops Q (o :: rest) a (wr.alloc (.cells #[.int .i64 r.n, .pointer r.q, .bool r.d, .slice r.p r.l r.c] 46)) := by
  subst hbk
  obtain ⟨i0, hi, hz0, hz1, hz2⟩ := info_parts Tryd.info46
  have hb0 : Below wr.heap.size wr (wr.alloc (.cells #[.int .i64 r.n, .pointer r.q, .bool r.d, .slice r.p r.l r.c] 46)) := (Below.refl _ _).alloc (Nat.le_refl _) _
  have hnew := World.alloc_heap_new wr (.cells #[.int .i64 r.n, .pointer r.q, .bool r.d, .slice r.p r.l r.c] 46)
  generalize wr.alloc (.cells #[.int .i64 r.n, .pointer r.q, .bool r.d, .slice r.p r.l r.c] 46) = W at *
  have hP' := hP.kept hb0
  refine wpList_append_k _ hgd s x 50 ho base 46 i0 (.agg #[.int .i64 0, .pointer none, .bool false, .slice none 0 0]) 4 48 pairSlice hi hz0 hz1 hz2 rfl (by decide) (prCells_k [⟨0, none, false, none, 0, 0, 0⟩]) v L.length (prCells L) hs hP'.2.1 ⟨wr.heap.size, 0, none⟩ 1 1 r.cells hx rfl ?_ ?_ ?_ ?_ ?_ ?_ ?_
  · intro j u hj
    rw [addr_none, Nat.zero_add]
    match j, hj with
    | 0, hj => simp [Pr.cells] at hj; subst hj; simp [World.cell?, hnew]
    | 1, hj => simp [Pr.cells] at hj; subst hj; simp [World.cell?, hnew]
    | 2, hj => simp [Pr.cells] at hj; subst hj; simp [World.cell?, hnew]
    | 3, hj => simp [Pr.cells] at hj; subst hj; simp [World.cell?, hnew]
    | k + 4, hj => simp [Pr.cells] at hj
  · intro u hu
    simp only [Pr.cells, List.mem_cons, List.not_mem_nil, or_false] at hu
    rcases hu with rfl | rfl | rfl | rfl <;> rfl
  · have := prCells_k [r]
    simpa [prCells] using this
  · unfold maxLen; omega
  · omega
  · exact Nat.le_trans hbase hb0.size
  · intro v' w' ho' hg' hp'
    refine h v' w' (hP'.grow (hr.below hb0) ho' hg' hp') ?_
    refine (hb0.mono hbase).grown hg' (Nat.le_trans hbase hb0.size) (fun g hg => ?_)
    exact (hP'.2.1.1.lt g hg).1

theorem append_pair' {ops : Array Oper} {rest : List Oper} {o : Oper} {a : Act} {Q : Exit → Act → World → Prop} (wr : World) (n : Int) (q : Option Addr) (d : Bool) (p : Option Addr) (l c : Nat) (z : Int) (hgd : o.guard = none) (s x : Operand)
    (ho : o.op = .call { callee := .builtin .append, args := #[s, x], argTypes := #[50, 50] }) (base : Nat) (v : Value) (L : List Pr) (m : Nat) (hs : a.eval s = v) (hP : PairsAt wr base v L m) (hr : Pr.At wr m ⟨n, q, d, p, l, c, z⟩)
    (bk : Nat) (hbk : wr.heap.size = bk) (hx : a.eval x = .slice (some ⟨bk, 0, none⟩) 1 1) (hn : L.length ≤ 1000) (hbase : base ≤ wr.heap.size)
    (h : ∀ v' w', PairsAt w' base v' (L ++ [⟨n, q, d, p, l, c, z⟩]) m → Below base wr w' → wpList Tryd.prog ops Q rest (a.put o.dst v') w') : wpList Tryd.prog ops Q (o :: rest) a (wr.alloc (.cells #[.int .i64 n, .pointer q, .bool d, .slice p l c] 46)) :=
  append_pair wr hgd s x ho base v L m hs hP ⟨n, q, d, p, l, c, z⟩ hr bk hbk hx hn hbase h
end Go.Proofs.YtangepgiamhenaaDoor
