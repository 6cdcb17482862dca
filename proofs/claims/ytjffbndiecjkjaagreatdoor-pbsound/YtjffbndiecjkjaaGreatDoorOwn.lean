/-
  Rows of the call's own of which every cell is known to be no limb; numbers lie off them.
-/
import Derived.Test.YtjffbndiecjkjaaGreatDoorSettled
import Derived.Test.YtjffbndiecjkjaaGreatDoorRefAll
namespace Go.Proofs.YtjffbndiecjkjaaGreatDoor
open Go.RowKit
open Bn (limbs)

/-- A cell that is no limb of the program's. -/
def NoLimb (u : Value) : Prop := ∀ n, u ≠ .int .u32 n

/-- A row of the call's own, none of whose cells, those behind its length too, is a limb. -/
def OwnK (w : World) (base : Nat) (e : TypeId) (size : Nat) (v : Value) (n : Nat) (xs : List Value) : Prop :=
  w.ownsRow base e size v n xs ∧ ∀ g cur f, v.ownBlock = some g → w.heap[g]? = some (.cells cur e f) → ∀ u ∈ cur.toList, NoLimb u

theorem OwnK.kept {w w' : World} {base : Nat} {e : TypeId} {size : Nat} {v : Value} {n : Nat} {xs : List Value} (h : OwnK w base e size v n xs) (hb : Below w.heap.size w w') : OwnK w' base e size v n xs := by
  obtain ⟨⟨hl, ho⟩, hk⟩ := h
  rcases ho with hn | ⟨g, cap, cur, hv, hbg, hg, h1, h2, h3, h4⟩
  · exact ⟨⟨hl, .inl hn⟩, fun g cur f hg => by rw [hn.1] at hg; simp [Value.ownBlock] at hg⟩
  · have hlt : g < w.heap.size := (Array.getElem?_eq_some_iff.1 hg).1
    have hg' : w'.heap[g]? = some (.cells cur e (0, 0)) := (hb.block g hlt).trans hg
    refine ⟨⟨hl, .inr ⟨g, cap, cur, hv, hbg, hg', h1, h2, h3, h4⟩⟩, fun g' cur' f hgv hc => ?_⟩
    rw [hv] at hgv
    simp [Value.ownBlock] at hgv
    subst hgv
    rw [hg'] at hc
    injection hc with hc
    injection hc with hc1 hc2 hc3
    subst hc1
    exact hk g cur (0, 0) (by rw [hv]; rfl) hg

theorem zeroCells_k {z : Array Value} {n : Nat} (hz : ∀ u ∈ z.toList, NoLimb u) : ∀ u ∈ (Builtin.zeroCells z n).toList, NoLimb u := by
  intro u hu
  simp [Builtin.zeroCells] at hu
  obtain ⟨i, hi, rfl⟩ := hu
  have hs : 0 < z.size := by
    rcases Nat.eq_zero_or_pos z.size with h | h
    · rw [h] at hi; omega
    · exact h
  have hm := Nat.mod_lt i hs
  rw [getElem!_pos z (i % z.size) hm]
  exact hz _ (by simp)

theorem run_append_k {P : Program} (w : World) (base : Nat) (t ty e : TypeId) (i : TypeInfo) (z : Value) (size bytes : Nat) (ht : P.underlying t = some (.slice e)) (hi : P.info? e = some i) (hz : i.zero = some z)
    (hsize : i.size = size) (hby : i.bytes = bytes) (hzs : z.cells.size = size) (hsz : 0 < size) (hzk : ∀ u ∈ z.cells.toList, NoLimb u)
    (v : Value) (n : Nat) (xs : List Value) (hown : OwnK w base e size v n xs)
    (a : Addr) (m c : Nat) (news : List Value) (hl : news.length = m * size) (hnews : ∀ j u, news[j]? = some u → w.cell? (a.add j) = some u) (h1 : ∀ u ∈ news, u.oneCell' = true) (hnk : ∀ u ∈ news, NoLimb u)
    (h63 : n + m ≤ maxLen) (hbytes : (n + m) * bytes ≤ 140737488355328) (hbase : base ≤ w.heap.size) :
    ∃ v' w', (Builtin.append_ #[t, t] ty #[v, .slice (some a) m c]).run P w = .ok v' w' ∧ OwnK w' base e size v' (n + m) (xs ++ news) ∧ w.grownBy w' v.ownBlock ∧ (v'.ownBlock = v.ownBlock ∨ ∀ k, k < w.heap.size → w'.heap[k]? = w.heap[k]?) := by
  obtain ⟨v', w', hr, ho, hg, hnil⟩ := run_append_own (P := P) w base t ty e i z size bytes ht hi hz hsize hby hzs hsz v n xs hown.1 a m c news hl hnews h1 h63 hbytes hbase
  suffices hs : (∀ g cur f, v'.ownBlock = some g → w'.heap[g]? = some (.cells cur e f) → ∀ u ∈ cur.toList, NoLimb u) ∧ (v'.ownBlock = v.ownBlock ∨ ∀ k, k < w.heap.size → w'.heap[k]? = w.heap[k]?) from ⟨v', w', hr, ⟨ho, hs.1⟩, hg, hs.2⟩
  subst hsize
  subst hby
  have hsmall : n + m ≤ 9223372036854775807 := by simp only [maxLen] at h63; omega
  obtain ⟨⟨hxl, hcase⟩, hkk⟩ := hown
  have newBlock : ∀ (cs : Array Value), v'.ownBlock = some w.heap.size → w' = w.drew.alloc (.cells cs e) → (∀ u ∈ cs.toList, NoLimb u) →
      ∀ g cur f, v'.ownBlock = some g → w'.heap[g]? = some (.cells cur e f) → ∀ u ∈ cur.toList, NoLimb u := by
    intro cs hv hw hcs g cur f hgb hc
    rw [hv] at hgb
    injection hgb with hgb
    subst hgb
    rw [hw] at hc
    have := heap_alloc_new w.drew (.cells cs e)
    rw [show w.heap.size = w.drew.heap.size from rfl, this] at hc
    injection hc with hc
    injection hc with hc1 hc2 hc3
    subst hc1
    exact hcs
  rcases hcase with ⟨rfl, rfl⟩ | ⟨g, cap, cur, rfl, hbg, hgg, hnc, hcm, hcs, htake⟩
  · by_cases hm : m = 0
    · have := hnil.2 ⟨rfl, hm⟩
      refine ⟨?_, .inl (by rw [this])⟩
      intro g cur f hgb
      rw [this] at hgb
      simp [Value.ownBlock] at hgb
    · have hr2 := run_append_nil (P := P) w t ty e i z ht hi hz a m c news hl hnews (by omega) (by omega) (by have hb := hbytes; simp only [Nat.zero_add] at hb; omega)
      rw [hr] at hr2
      injection hr2 with e1 e2
      refine ⟨newBlock _ (by rw [e1]; rfl) e2 ?_, .inr fun k hk => by rw [e2]; exact heap_alloc_old w.drew _ k hk⟩
      intro u hu
      rw [Array.toList_append, List.mem_append] at hu
      rcases hu with hu | hu
      · exact hnk u (by simpa using hu)
      · exact zeroCells_k hzk u hu
  · by_cases hroom : n + m ≤ cap
    · have hfit : n * i.size + news.length ≤ cur.size := by rw [hl, hcs, ← Nat.add_mul]; exact Nat.mul_le_mul_right _ hroom
      have hr2 := run_append_room (P := P) w t ty e i ht hi g n cap cur hgg a m c news hl hnews h1 hroom hfit
      rw [hr] at hr2
      injection hr2 with e1 e2
      refine ⟨?_, .inl (by rw [e1]; rfl)⟩
      intro g' cur' f hgb hc
      rw [e1] at hgb
      simp [Value.ownBlock] at hgb
      subst hgb
      rw [e2, setRow_heap w g cur _ e _ hgg] at hc
      injection hc with hc
      injection hc with hc1 hc2 hc3
      subst hc1
      intro u hu
      have hold := hkk g cur (0, 0) rfl hgg
      simp only [List.mem_append] at hu
      rcases hu with (hu | hu) | hu
      · exact hold u (List.mem_of_mem_take hu)
      · exact hnk u hu
      · exact hold u (List.mem_of_mem_drop hu)
    · have holds : ∀ j u, xs[j]? = some u → w.cell? ((⟨g, 0, none⟩ : Addr).add j) = some u := World.ownsRow.cells (base := base) (e := e) (size := i.size) (n := n) (v := .slice (some ⟨g, 0, none⟩) n cap) ⟨hxl, .inr ⟨g, cap, cur, rfl, hbg, hgg, hnc, hcm, hcs, htake⟩⟩ rfl
      have hr2 := run_append_grow (P := P) w t ty e i z ht hi hz ⟨g, 0, none⟩ n cap xs hxl holds a m c news hl hnews (by omega) (by omega) (growslice_fits (by omega) hbytes)
      rw [hr] at hr2
      injection hr2 with e1 e2
      refine ⟨newBlock _ (by rw [e1]; rfl) e2 ?_, .inr fun k hk => by rw [e2]; exact heap_alloc_old w.drew _ k hk⟩
      have hold := hkk g cur (0, 0) rfl hgg
      intro u hu
      rw [Array.toList_append, List.mem_append, Array.toList_append, List.mem_append] at hu
      rcases hu with (hu | hu) | hu
      · exact hold u (List.mem_of_mem_take (by rw [htake]; simpa using hu))
      · exact hnk u (by simpa using hu)
      · exact zeroCells_k hzk u hu

theorem wpList_append_k {P : Program} {ops : Array Oper} {rest : List Oper} {o : Oper} {a : Act} {Q : Exit → Act → World → Prop} (w : World) (hgd : o.guard = none) (s x : Operand) (t : TypeId)
    (ho : o.op = .call { callee := .builtin .append, args := #[s, x], argTypes := #[t, t] })
    (base : Nat) (e : TypeId) (i : TypeInfo) (z : Value) (size bytes : Nat) (ht : P.underlying t = some (.slice e)) (hi : P.info? e = some i) (hz : i.zero = some z)
    (hsize : i.size = size) (hby : i.bytes = bytes) (hzs : z.cells.size = size) (hsz : 0 < size) (hzk : ∀ u ∈ z.cells.toList, NoLimb u)
    (v : Value) (n : Nat) (xs : List Value) (hs : a.eval s = v) (hown : OwnK w base e size v n xs)
    (ad : Addr) (m c : Nat) (news : List Value) (hx : a.eval x = .slice (some ad) m c) (hl : news.length = m * size) (hnews : ∀ j u, news[j]? = some u → w.cell? (ad.add j) = some u) (h1 : ∀ u ∈ news, u.oneCell' = true) (hnk : ∀ u ∈ news, NoLimb u)
    (h63 : n + m ≤ maxLen) (hbytes : (n + m) * bytes ≤ 140737488355328) (hbase : base ≤ w.heap.size)
    (h : ∀ v' w', OwnK w' base e size v' (n + m) (xs ++ news) → w.grownBy w' v.ownBlock → (v'.ownBlock = v.ownBlock ∨ ∀ k, k < w.heap.size → w'.heap[k]? = w.heap[k]?) → wpList P ops Q rest (a.put o.dst v') w') : wpList P ops Q (o :: rest) a w := by
  refine wpList_plain hgd fun _ hK => ?_
  obtain ⟨v', w', hr, h2, h3, h4⟩ := run_append_k (P := P) w base t o.type e i z size bytes ht hi hz hsize hby hzs hsz hzk v n xs hown ad m c news hl hnews h1 hnk h63 hbytes hbase
  unfold Oper.wp execOp
  simp only [ho, resolve, invoke, builtin, Sem.run_bind, Sem.run_pure, Result.andThen_ok, List.map_toArray, List.map_cons, List.map_nil, hs, hx, hr]
  exact hK _ _ (h v' w' h2 h3 h4)

theorem U32At.off {w w' : World} {v : Value} {l : List Nat} (h : U32At w v l) {row : Option Nat} (hg : w.grownBy w' row) (hk : ∀ g cur e f, row = some g → w.heap[g]? = some (.cells cur e f) → ∀ u ∈ cur.toList, NoLimb u) (hc0 : ∀ g, row = some g → ∃ cur e f, w.heap[g]? = some (.cells cur e f)) : U32At w' v l := by
  rcases h with h | ⟨b, off, cap, hv, hlt, hl, hm, hc⟩
  · exact .inl h
  · by_cases h0 : l = []
    · subst h0
      exact .inr ⟨b, off, cap, hv, Nat.lt_of_lt_of_le hlt hg.size, hl, hm, fun j hj => by simp at hj⟩
    · have hpos : 0 < l.length := List.length_pos_iff.2 h0
      refine .inr ⟨b, off, cap, hv, Nat.lt_of_lt_of_le hlt hg.size, hl, hm, fun j hj => ?_⟩
      refine (World.cell?_of_block (a := ⟨b, off + j, none⟩) (hg.block b hlt ?_)).trans (hc j hj)
      intro hrow
      obtain ⟨cur, e, f, hcur⟩ := hc0 b hrow.symm
      have h1 := hc j hj
      have h2 := hk b cur e f hrow.symm hcur
      have h3 : cur[off + j]? = some (.int .u32 ((l[j] : Nat) : Int)) := by
        simpa [World.cell?, hcur] using h1
      exact h2 _ (by simpa using Array.mem_of_getElem? h3) _ rfl

/-- A number of the program's, behind a write to a row without limbs whose first cell is no Boolean. -/
theorem BigAt.off {w w' : World} {v : Value} {z : Int} (h : BigAt w v z) {row : Option Nat} (hg : w.grownBy w' row) (hk : ∀ g cur e f, row = some g → w.heap[g]? = some (.cells cur e f) → ∀ u ∈ cur.toList, NoLimb u) (hc0 : ∀ g, row = some g → ∃ cur e f, w.heap[g]? = some (.cells cur e f) ∧ ∀ d, cur[0]? ≠ some (.bool d)) : BigAt w' v z := by
  rcases h with h | ⟨h, p, s, hv, hp, h0, h1, hU⟩
  · exact .inl h
  · have hne : some p ≠ row := by
      intro hrow
      obtain ⟨cur, e, f, hcur, hb⟩ := hc0 p hrow.symm
      exact hb (decide (z < 0)) (by simpa [World.cell?, hcur] using h0)
    have hb := hg.block p hp hne
    exact .inr ⟨h, p, s, hv, Nat.lt_of_lt_of_le hp hg.size, (World.cell?_of_block (a := ⟨p, 0, none⟩) hb).trans h0, (World.cell?_of_block (a := ⟨p, 1, none⟩) hb).trans h1, hU.off hg hk (fun g hg => by obtain ⟨cur, e, f, h, _⟩ := hc0 g hg; exact ⟨cur, e, f, h⟩)⟩

/-- A number of the document's, behind a write to a row whose first cell stays and whose second one is no int. -/
theorem RefAt.off {w w' : World} {v : Value} {z : Int} (h : RefAt w v z) {row : Option Nat} (hg : w.grownBy w' row) (hc0 : ∀ g, row = some g → w'.cell? ⟨g, 0, none⟩ = w.cell? ⟨g, 0, none⟩ ∧ ∀ k n, w.cell? ⟨g, 1, none⟩ ≠ some (.int k n)) : RefAt w' v z := by
  obtain ⟨s, hv, hI⟩ := h
  refine ⟨s, hv, ?_⟩
  rcases hI with h | ⟨b, cap, hv, hlt, hl, hm, hc⟩
  · exact .inl h
  · refine .inr ⟨b, cap, hv, Nat.lt_of_lt_of_le hlt hg.size, hl, hm, fun j hj => ?_⟩
    by_cases hrow : some b = row
    · obtain ⟨h0, h1⟩ := hc0 b hrow.symm
      have hle : (limbs z.natAbs).length ≤ 1 := by
        rcases Nat.lt_or_ge 1 (limbs z.natAbs).length with h | h
        · exact absurd (hc 1 h) (h1 _ _)
        · exact h
      have hj0 : j = 0 := by omega
      subst hj0
      exact h0.trans (hc 0 hj)
    · exact (World.cell?_of_block (a := ⟨b, j, none⟩) (hg.block b hlt hrow)).trans (hc j hj)
end Go.Proofs.YtjffbndiecjkjaaGreatDoor
