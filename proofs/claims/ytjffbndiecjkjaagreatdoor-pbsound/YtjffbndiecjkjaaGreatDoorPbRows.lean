/-
  Put together: PbZero, PbBound, OwnF, PbKept, PbRow.
-/
import Derived.Test.YtjffbndiecjkjaaGreatDoorPbTogether
namespace Go.Proofs.YtjffbndiecjkjaaGreatDoor
open Go.RowKit
open Bn (limbs)

set_option maxRecDepth 100000 in
set_option maxHeartbeats 1000000 in
theorem notBelowZero_big (z : Int) (v : Value) (w : World) (h : BigAt w v z) :
    Calls Tryz.prog 55 #[v] w fun e w' => ∃ r, e = .returned r ∧ BigAt w' r (max 0 z) ∧ Below w.heap.size w w' := by
  have HB : Hid (BigAt w v z) := h
  obtain ⟨n, q, rfl⟩ := h.shape
  clear h
  by_cases hz : z < 0
  · have hm : max 0 z = 0 := by omega
    have hs : z.sign < 0 := by rw [Int.sign_eq_neg_one_of_neg hz]; decide
    rw [hm]
    go_enter Tryz.func55, Tryz.ntmps55
    go_wp2_with fail
    generalize hW : (w.alloc (.cells #[.int .i64 n, .pointer q] 33)).alloc (.cells #[.int .i64 0, .pointer none] 33) = W
    obtain ⟨hA, hR, hBW, hsz⟩ := two_boxes w n q hW
    clear hW
    refine (sign_big z _ _ (HB.out.below hBW)).mono ?_
    rintro e w1 ⟨rfl, hb1⟩
    generalize z.sign = sz at *
    have hR3 := (hb1.block (w.heap.size + 1) (by omega)).trans hR
    obtain ⟨r0, r1, r2, r3⟩ := box_facts hR3
    obtain ⟨m0, m1⟩ := box_set hR3 (.int .i64 0) (.pointer none)
    go_wp2
    exact bodyPost_ret (v := .agg #[.int .i64 0, .pointer none]) (by simp [results, Tryz.results55, go_sem, m0, m1]) rfl ⟨_, rfl, .inl ⟨by unfold Fits; omega, rfl⟩, ((hBW.trans (hb1.mono hBW.size)).setCell (p := ⟨w.heap.size + 1, 0, none⟩) (Nat.le_succ _) _).setCell (p := ⟨w.heap.size + 1, 1, none⟩) (Nat.le_succ _) _⟩
  · have hm : max 0 z = z := by omega
    have hs : ¬ z.sign < 0 := by
      rcases Int.lt_or_eq_of_le (Int.not_lt.1 hz) with h | h
      · rw [Int.sign_eq_one_of_pos h]; decide
      · rw [← h]; decide
    rw [hm]
    go_enter Tryz.func55, Tryz.ntmps55
    go_wp2_with fail
    generalize hW : (w.alloc (.cells #[.int .i64 n, .pointer q] 33)).alloc (.cells #[.int .i64 0, .pointer none] 33) = W
    obtain ⟨hA, hR, hBW, hsz⟩ := two_boxes w n q hW
    clear hW
    refine (sign_big z _ _ (HB.out.below hBW)).mono ?_
    rintro e w1 ⟨rfl, hb1⟩
    generalize z.sign = sz at *
    have hA3 := (hb1.block w.heap.size (by omega)).trans hA
    have hR3 := (hb1.block (w.heap.size + 1) (by omega)).trans hR
    obtain ⟨a0, a1, a2, a3⟩ := box_facts hA3
    obtain ⟨r0, r1, r2, r3⟩ := box_facts hR3
    obtain ⟨m0, m1⟩ := box_set hR3 (.int .i64 n) (.pointer q)
    have hB3 := (HB.out.below hBW).below hb1
    go_wp2
    exact bodyPost_ret (v := .agg #[.int .i64 n, .pointer q]) (by simp [results, Tryz.results55, go_sem, m0, m1]) rfl ⟨_, rfl, hB3.setBox hR3 _ _, ((hBW.trans (hb1.mono hBW.size)).setCell (p := ⟨w.heap.size + 1, 0, none⟩) (Nat.le_succ _) _).setCell (p := ⟨w.heap.size + 1, 1, none⟩) (Nat.le_succ _) _⟩
end Go.Proofs.YtjffbndiecjkjaaGreatDoor

namespace Go.Proofs.YtjffbndiecjkjaaGreatDoor
open Go.Shelf Go.RowKit Go.Lib Go.Sort
open Bn (limbs)
namespace Pm
def absS : List (Int × Int) → Nat
  | [] => 0
  | p :: l => p.1.natAbs + absS l
theorem absS_append (a b : List (Int × Int)) : absS (a ++ b) = absS a + absS b := by
  induction a with
  | nil => simp [absS]
  | cons p a ih => simp only [List.cons_append, absS, ih]; omega
theorem absS_take (l : List (Int × Int)) (k : Nat) : absS (l.take k) ≤ absS l := by
  have h := congrArg absS (List.take_append_drop k l)
  rw [absS_append] at h; omega
theorem absS_drop (l : List (Int × Int)) (k : Nat) : absS (l.drop k) ≤ absS l := by
  have h := congrArg absS (List.take_append_drop k l)
  rw [absS_append] at h; omega
theorem absS_mem {l : List (Int × Int)} {p : Int × Int} (h : p ∈ l) : p.1.natAbs ≤ absS l := by
  induction l with
  | nil => cases h
  | cons q l ih =>
    rcases List.mem_cons.1 h with rfl | h
    · simp only [absS]; omega
    · have := ih h; simp only [absS]; omega
theorem pos_abs (l : List (Int × Int)) : (pos l).natAbs ≤ absS l := by
  induction l with
  | nil => simp [pos, absS]
  | cons p l ih => simp only [pos, absS]; split <;> omega
theorem neg_abs (l : List (Int × Int)) : (neg l).natAbs ≤ absS l := by
  induction l with
  | nil => simp [neg, absS]
  | cons p l ih => simp only [neg, negP, absS]; split <;> omega
theorem always_abs (l : List (Int × Int)) : (always l).natAbs ≤ absS l := by
  have h1 := pos_abs l
  have h2 := neg_abs l
  unfold always; split <;> omega
end Pm

theorem limbs_len_monoP {a b : Nat} (h : a ≤ b) : (limbs a).length ≤ (limbs b).length := by
  rw [Bn.limbs_length_le]
  exact Nat.lt_of_le_of_lt h ((Bn.limbs_length_le b _).1 (Nat.le_refl _))
theorem limbs_abs {x : Int} {n m : Nat} (h : x.natAbs ≤ n) (hn : (limbs n).length ≤ m) : (limbs x.natAbs).length ≤ m := Nat.le_trans (limbs_len_monoP h) hn

/-- Part of a row of pieces. -/
theorem holds_part {w : World} {b : Nat} {L : List PcV} (h : HoldsK encP 3 w b 0 L.toArray) (j e : Nat) (hje : j + e ≤ L.length) : HoldsK encP 3 w b (j * 3) ((L.drop j).take e).toArray := by
  intro t ht
  rw [size_flatK] at ht
  have hs : ((L.drop j).take e).toArray.size = e := by simp; omega
  rw [hs] at ht
  have hfull := h (j * 3 + t) (by rw [size_flatK]; simp; omega)
  rw [get_flatK _ _ _ _ (by rw [hs]; exact ht)]
  rw [get_flatK _ _ _ _ (by simp; omega)] at hfull
  have e1 : (j * 3 + t) / 3 = j + t / 3 := by omega
  have e2 : (j * 3 + t) % 3 = t % 3 := by omega
  rw [e1, e2] at hfull
  have ht3 : t / 3 < e := by omega
  have g1 : L.toArray[j + t / 3]! = L[j + t / 3]'(by omega) := by rw [getElem!_pos _ _ (by simp; omega)]; simp
  have g2 : ((L.drop j).take e).toArray[t / 3]! = L[j + t / 3]'(by omega) := by rw [getElem!_pos _ _ (by rw [hs]; exact ht3)]; simp
  rw [g1] at hfull
  rw [g2]
  simpa using hfull
theorem says_part {w : World} {L : List PcV} {ps : List (Int × Int)} (h : Says w L ps) (j e : Nat) : Says w ((L.drop j).take e) ((ps.drop j).take e) := by
  refine ⟨by have := h.1; simp; omega, fun i h1 h2 => ?_⟩
  have := h.1
  simp at h1 h2
  have := h.2 (j + i) (by omega) (by omega)
  simpa using this
theorem HoldsK.keep {w w' : World} {b off : Nat} {d : Array PcV} (h : HoldsK encP 3 w b off d) (hb : RowKit.Below w.heap.size w w') (hlt : b < w.heap.size) : HoldsK encP 3 w' b off d := fun j hj =>
  ⟨(hb.cell (p := ⟨b, off + j, none⟩) hlt).trans (h j hj).1, (hb.frozen (p := ⟨b, off + j, none⟩) hlt).trans (h j hj).2⟩
end Go.Proofs.YtjffbndiecjkjaaGreatDoor

namespace Go.Proofs.YtjffbndiecjkjaaGreatDoor
open Go.RowKit
open Bn (limbs)

/-- A row of the call's own, all of whose cells, those behind its length too, are of one sort. -/
def OwnF (F : Value → Prop) (w : World) (base : Nat) (e : TypeId) (size : Nat) (v : Value) (n : Nat) (xs : List Value) : Prop :=
  w.ownsRow base e size v n xs ∧ ∀ g cur f, v.ownBlock = some g → w.heap[g]? = some (.cells cur e f) → ∀ u ∈ cur.toList, F u

theorem OwnF.kept {F : Value → Prop} {w w' : World} {base : Nat} {e : TypeId} {size : Nat} {v : Value} {n : Nat} {xs : List Value} (h : OwnF F w base e size v n xs) (hb : Below w.heap.size w w') : OwnF F w' base e size v n xs := by
  obtain ⟨⟨hl, ho⟩, hk⟩ := h
  rcases ho with hn | ⟨g, cap, cur, hv, hbg, hg, h1, h2, h3, h4⟩
  · exact ⟨⟨hl, .inl hn⟩, fun g cur f hg => by rw [hn.1] at hg; simp [Value.ownBlock] at hg⟩
  · have hlt : g < w.heap.size := (Array.getElem?_eq_some_iff.1 hg).1
    have hg' : w'.heap[g]? = some (.cells cur e (0, 0)) := (hb.block g hlt).trans hg
    refine ⟨⟨hl, .inr ⟨g, cap, cur, hv, hbg, hg', h1, h2, h3, h4⟩⟩, fun g' cur' f hgv hc => ?_⟩
    rw [hv] at hgv
    simp [Value.ownBlock] at hgv
    subst hgv
    rw [hg'] at hc
    injection hc with hc
    injection hc with hc1 hc2 hc3
    subst hc1
    exact hk g cur (0, 0) (by rw [hv]; rfl) hg

theorem zeroCells_f {F : Value → Prop} {z : Array Value} {n : Nat} (hz : ∀ u ∈ z.toList, F u) : ∀ u ∈ (Builtin.zeroCells z n).toList, F u := by
  intro u hu
  simp [Builtin.zeroCells] at hu
  obtain ⟨i, hi, rfl⟩ := hu
  have hs : 0 < z.size := by
    rcases Nat.eq_zero_or_pos z.size with h | h
    · rw [h] at hi; omega
    · exact h
  have hm := Nat.mod_lt i hs
  rw [getElem!_pos z (i % z.size) hm]
  exact hz _ (by simp)

theorem run_append_f {F : Value → Prop} {P : Program} (w : World) (base : Nat) (t ty e : TypeId) (i : TypeInfo) (z : Value) (size bytes : Nat) (ht : P.underlying t = some (.slice e)) (hi : P.info? e = some i) (hz : i.zero = some z)
    (hsize : i.size = size) (hby : i.bytes = bytes) (hzs : z.cells.size = size) (hsz : 0 < size) (hzk : ∀ u ∈ z.cells.toList, F u)
    (v : Value) (n : Nat) (xs : List Value) (hown : OwnF F w base e size v n xs)
    (a : Addr) (m c : Nat) (news : List Value) (hl : news.length = m * size) (hnews : ∀ j u, news[j]? = some u → w.cell? (a.add j) = some u) (h1 : ∀ u ∈ news, u.oneCell' = true) (hnk : ∀ u ∈ news, F u)
    (h63 : n + m ≤ maxLen) (hbytes : (n + m) * bytes ≤ 140737488355328) (hbase : base ≤ w.heap.size) :
    ∃ v' w', (Builtin.append_ #[t, t] ty #[v, .slice (some a) m c]).run P w = .ok v' w' ∧ OwnF F w' base e size v' (n + m) (xs ++ news) ∧ w.grownBy w' v.ownBlock ∧ (v'.ownBlock = v.ownBlock ∨ ∀ k, k < w.heap.size → w'.heap[k]? = w.heap[k]?) := by
  obtain ⟨v', w', hr, ho, hg, hnil⟩ := run_append_own (P := P) w base t ty e i z size bytes ht hi hz hsize hby hzs hsz v n xs hown.1 a m c news hl hnews h1 h63 hbytes hbase
  suffices hs : (∀ g cur f, v'.ownBlock = some g → w'.heap[g]? = some (.cells cur e f) → ∀ u ∈ cur.toList, F u) ∧ (v'.ownBlock = v.ownBlock ∨ ∀ k, k < w.heap.size → w'.heap[k]? = w.heap[k]?) from ⟨v', w', hr, ⟨ho, hs.1⟩, hg, hs.2⟩
  subst hsize
  subst hby
  have hsmall : n + m ≤ 9223372036854775807 := by simp only [maxLen] at h63; omega
  obtain ⟨⟨hxl, hcase⟩, hkk⟩ := hown
  have newBlock : ∀ (cs : Array Value), v'.ownBlock = some w.heap.size → w' = w.drew.alloc (.cells cs e) → (∀ u ∈ cs.toList, F u) →
      ∀ g cur f, v'.ownBlock = some g → w'.heap[g]? = some (.cells cur e f) → ∀ u ∈ cur.toList, F u := by
    intro cs hv hw hcs g cur f hgb hc
    rw [hv] at hgb
    injection hgb with hgb
    subst hgb
    rw [hw] at hc
    have := heap_alloc_new w.drew (.cells cs e)
    rw [show w.heap.size = w.drew.heap.size from rfl, this] at hc
    injection hc with hc
    injection hc with hc1 hc2 hc3
    subst hc1
    exact hcs
  rcases hcase with ⟨rfl, rfl⟩ | ⟨g, cap, cur, rfl, hbg, hgg, hnc, hcm, hcs, htake⟩
  · by_cases hm : m = 0
    · have := hnil.2 ⟨rfl, hm⟩
      refine ⟨?_, .inl (by rw [this])⟩
      intro g cur f hgb
      rw [this] at hgb
      simp [Value.ownBlock] at hgb
    · have hr2 := run_append_nil (P := P) w t ty e i z ht hi hz a m c news hl hnews (by omega) (by omega) (by have hb := hbytes; simp only [Nat.zero_add] at hb; omega)
      rw [hr] at hr2
      injection hr2 with e1 e2
      refine ⟨newBlock _ (by rw [e1]; rfl) e2 ?_, .inr fun k hk => by rw [e2]; exact Below.heap_alloc w.drew _ k hk⟩
      intro u hu
      rw [Array.toList_append, List.mem_append] at hu
      rcases hu with hu | hu
      · exact hnk u (by simpa using hu)
      · exact zeroCells_f hzk u hu
  · by_cases hroom : n + m ≤ cap
    · have hfit : n * i.size + news.length ≤ cur.size := by rw [hl, hcs, ← Nat.add_mul]; exact Nat.mul_le_mul_right _ hroom
      have hr2 := run_append_room (P := P) w t ty e i ht hi g n cap cur hgg a m c news hl hnews h1 hroom hfit
      rw [hr] at hr2
      injection hr2 with e1 e2
      refine ⟨?_, .inl (by rw [e1]; rfl)⟩
      intro g' cur' f hgb hc
      rw [e1] at hgb
      simp [Value.ownBlock] at hgb
      subst hgb
      rw [e2, setRow_heap w g cur _ e _ hgg] at hc
      injection hc with hc
      injection hc with hc1 hc2 hc3
      subst hc1
      intro u hu
      have hold := hkk g cur (0, 0) rfl hgg
      simp only [List.mem_append] at hu
      rcases hu with (hu | hu) | hu
      · exact hold u (List.mem_of_mem_take hu)
      · exact hnk u hu
      · exact hold u (List.mem_of_mem_drop hu)
    · have holds : ∀ j u, xs[j]? = some u → w.cell? ((⟨g, 0, none⟩ : Addr).add j) = some u := World.ownsRow.cells (base := base) (e := e) (size := i.size) (n := n) (v := .slice (some ⟨g, 0, none⟩) n cap) ⟨hxl, .inr ⟨g, cap, cur, rfl, hbg, hgg, hnc, hcm, hcs, htake⟩⟩ rfl
      have hr2 := run_append_grow (P := P) w t ty e i z ht hi hz ⟨g, 0, none⟩ n cap xs hxl holds a m c news hl hnews (by omega) (by omega) (growslice_fits (by omega) hbytes)
      rw [hr] at hr2
      injection hr2 with e1 e2
      refine ⟨newBlock _ (by rw [e1]; rfl) e2 ?_, .inr fun k hk => by rw [e2]; exact Below.heap_alloc w.drew _ k hk⟩
      have hold := hkk g cur (0, 0) rfl hgg
      intro u hu
      rw [Array.toList_append, List.mem_append, Array.toList_append, List.mem_append] at hu
      rcases hu with (hu | hu) | hu
      · exact hold u (List.mem_of_mem_take (by rw [htake]; simpa using hu))
      · exact hnk u (by simpa using hu)
      · exact zeroCells_f hzk u hu

theorem wpList_append_f {F : Value → Prop} {P : Program} {ops : Array Oper} {rest : List Oper} {o : Oper} {a : Act} {Q : Exit → Act → World → Prop} (w : World) (hgd : o.guard = none) (s x : Operand) (t : TypeId)
    (ho : o.op = .call { callee := .builtin .append, args := #[s, x], argTypes := #[t, t] })
    (base : Nat) (e : TypeId) (i : TypeInfo) (z : Value) (size bytes : Nat) (ht : P.underlying t = some (.slice e)) (hi : P.info? e = some i) (hz : i.zero = some z)
    (hsize : i.size = size) (hby : i.bytes = bytes) (hzs : z.cells.size = size) (hsz : 0 < size) (hzk : ∀ u ∈ z.cells.toList, F u)
    (v : Value) (n : Nat) (xs : List Value) (hs : a.eval s = v) (hown : OwnF F w base e size v n xs)
    (ad : Addr) (m c : Nat) (news : List Value) (hx : a.eval x = .slice (some ad) m c) (hl : news.length = m * size) (hnews : ∀ j u, news[j]? = some u → w.cell? (ad.add j) = some u) (h1 : ∀ u ∈ news, u.oneCell' = true) (hnk : ∀ u ∈ news, F u)
    (h63 : n + m ≤ maxLen) (hbytes : (n + m) * bytes ≤ 140737488355328) (hbase : base ≤ w.heap.size)
    (h : ∀ v' w', OwnF F w' base e size v' (n + m) (xs ++ news) → w.grownBy w' v.ownBlock → (v'.ownBlock = v.ownBlock ∨ ∀ k, k < w.heap.size → w'.heap[k]? = w.heap[k]?) → wpList P ops Q rest (a.put o.dst v') w') : wpList P ops Q (o :: rest) a w := by
  refine wpList_plain hgd fun _ hK => ?_
  obtain ⟨v', w', hr, h2, h3, h4⟩ := run_append_f (P := P) w base t o.type e i z size bytes ht hi hz hsize hby hzs hsz hzk v n xs hown ad m c news hl hnews h1 hnk h63 hbytes hbase
  unfold Oper.wp execOp
  simp only [ho, resolve, invoke, builtin, Sem.run_bind, Sem.run_pure, Result.andThen_ok, List.map_toArray, List.map_cons, List.map_nil, hs, hx, hr]
  exact hK _ _ (h v' w' h2 h3 h4)

end Go.Proofs.YtjffbndiecjkjaaGreatDoor

namespace Go.Proofs.YtjffbndiecjkjaaGreatDoor
open Go.RowKit
open Bn (limbs)

def pcCells (L : List PcV) : List Value := L.flatMap encP
theorem pcCells_length (L : List PcV) : (pcCells L).length = L.length * 3 := by
  induction L with
  | nil => rfl
  | cons r L ih => simp only [pcCells, List.flatMap_cons, List.length_append, List.length_cons] at *; rw [ih]; simp [encP]; omega
theorem pcCells_get (L : List PcV) (k : Nat) (hk : k < L.length) (j : Nat) (hj : j < 3) : (pcCells L)[k * 3 + j]? = (encP L[k])[j]? := by
  induction L generalizing k with
  | nil => simp at hk
  | cons r L ih =>
    have hc : (encP r).length = 3 := rfl
    cases k with
    | zero =>
      simp only [pcCells, List.flatMap_cons, Nat.zero_mul, Nat.zero_add, List.getElem_cons_zero]
      exact List.getElem?_append_left (by omega)
    | succ k =>
      have := ih k (by simpa using hk)
      simp only [pcCells, List.flatMap_cons, List.getElem_cons_succ] at *
      rw [List.getElem?_append_right (by omega), hc, ← this]
      congr 1; omega
theorem pcCells_plain (L : List PcV) : ∀ u ∈ pcCells L, Plain1 u := by
  intro u hu
  simp only [pcCells, List.mem_flatMap] at hu
  obtain ⟨r, _, hu⟩ := hu
  simp only [encP, List.mem_cons, List.not_mem_nil, or_false] at hu
  rcases hu with rfl | rfl | rfl
  · exact plain_int _
  · exact plain_ptr _
  · exact plain_int _

/-- The pieces that are kept, in a row of the call's own. -/
def KeptAt (w : World) (base : Nat) (v : Value) (L : List PcV) (K : List (Int × Int)) : Prop := OwnF Plain1 w base 67 3 v L.length (pcCells L) ∧ Says w L K
theorem KeptAt.below {w w' : World} {base : Nat} {v : Value} {L : List PcV} {K : List (Int × Int)} (h : KeptAt w base v L K) (hb : Below w.heap.size w w') : KeptAt w' base v L K :=
  ⟨h.1.kept hb, h.2.mono (fun _ _ hB => hB.below hb)⟩
theorem OwnF.isClean {w : World} {base : Nat} {e : TypeId} {size : Nat} {v : Value} {n : Nat} {xs : List Value} (h : OwnF Plain1 w base e size v n xs) : ∀ g, v.ownBlock = some g → Clean w g := by
  intro g hg
  obtain ⟨⟨_, ho⟩, hk⟩ := h
  rcases ho with ⟨hn, _⟩ | ⟨g', cap, cur, hv, _, hgg, _⟩
  · rw [hn] at hg; simp [Value.ownBlock] at hg
  · have : g' = g := by rw [hv] at hg; simpa [Value.ownBlock] using hg
    subst this
    exact ⟨cur, e, (0, 0), hgg, hk g' cur (0, 0) hg hgg⟩
theorem KeptAt.grow {w w' : World} {base : Nat} {v v' : Value} {L : List PcV} {K : List (Int × Int)} {x : PcV} {p : Int × Int} (h : KeptAt w base v L K) (hx : Say w x p) (ho : OwnF Plain1 w' base 67 3 v' (L.length + 1) (pcCells L ++ encP x)) (hg : w.grownBy w' v.ownBlock) :
    KeptAt w' base v' (L ++ [x]) (K ++ [p]) ∧ ∀ u z, BigAt w u z → BigAt w' u z := by
  have big : ∀ u z, BigAt w u z → BigAt w' u z := fun u z hB => by
    cases hv : v.ownBlock with
    | none =>
      rw [hv] at hg
      have hb : Below w.heap.size w w' := ⟨hg.os, hg.tape, hg.output, hg.size, fun k hk => hg.block k hk (by simp)⟩
      exact hB.below hb
    | some g =>
      rw [hv] at hg
      exact hB.clean (h.1.isClean g hv) hg
  refine ⟨⟨?_, ?_, fun i h1 h2 => ?_⟩, big⟩
  · have : pcCells (L ++ [x]) = pcCells L ++ encP x := by simp [pcCells]
    rw [this, List.length_append]; exact ho
  · have := h.2.1; simp; omega
  · have hl := h.2.1
    by_cases hi : i < L.length
    · rw [List.getElem_append_left hi, List.getElem_append_left (by omega)]
      exact ⟨big _ _ (h.2.2 i hi (by omega)).1, (h.2.2 i hi (by omega)).2⟩
    · have hiL : i = L.length := by simp at h1; omega
      subst hiL
      rw [List.getElem_append_right (Nat.le_refl _), List.getElem_append_right (by omega)]
      simp [hl]
      exact ⟨big _ _ hx.1, hx.2⟩

theorem Tryz.info67 : (Tryz.prog.info? 67).map (fun i => (i.zero, i.size, i.bytes)) = some (some (.agg #[.int .i64 0, .pointer none, .int .i64 0]), 3, 24) := by kernel_rfl
theorem pieceSlice : Tryz.prog.underlying 30 = some (.slice 67) := by kernel_rfl

theorem append_piece {ops : Array Oper} {rest : List Oper} {o : Oper} {a : Act} {Q : Exit → Act → World → Prop} (wr : World) (n : Int) (q : Option Addr) (l : Int) (p : Int × Int) (hgd : o.guard = none) (s x : Operand)
    (ho : o.op = .call { callee := .builtin .append, args := #[s, x], argTypes := #[30, 30] }) (base : Nat) (v : Value) (L : List PcV) (K : List (Int × Int)) (hs : a.eval s = v) (hP : KeptAt wr base v L K) (hr : Say wr (n, q, l) p)
    (bk : Nat) (hbk : wr.heap.size = bk) (hx : a.eval x = .slice (some ⟨bk, 0, none⟩) 1 1) (hn : L.length ≤ 1000000) (hbase : base ≤ wr.heap.size)
    (h : ∀ v' w', KeptAt w' base v' (L ++ [(n, q, l)]) (K ++ [p]) → Below base wr w' → (wr.alloc (.cells #[.int .i64 n, .pointer q, .int .i64 l] 67)).grownBy w' v.ownBlock → (∀ u z, BigAt wr u z → BigAt w' u z) → wpList Tryz.prog ops Q rest (a.put o.dst v') w') : wpList Tryz.prog ops Q (o :: rest) a (wr.alloc (.cells #[.int .i64 n, .pointer q, .int .i64 l] 67)) := by
  subst hbk
  obtain ⟨i0, hi, hz0, hz1, hz2⟩ := info_parts Tryz.info67
  have hb0 : Below wr.heap.size wr (wr.alloc (.cells #[.int .i64 n, .pointer q, .int .i64 l] 67)) := (Below.refl _ _).alloc (Nat.le_refl _) _
  have hnew := World.alloc_heap_new wr (.cells #[.int .i64 n, .pointer q, .int .i64 l] 67)
  generalize wr.alloc (.cells #[.int .i64 n, .pointer q, .int .i64 l] 67) = W at *
  have hP' := hP.below hb0
  refine wpList_append_f (F := Plain1) _ hgd s x 30 ho base 67 i0 (.agg #[.int .i64 0, .pointer none, .int .i64 0]) 3 24 pieceSlice hi hz0 hz1 hz2 rfl (by decide) (pcCells_plain [(0, none, 0)]) v L.length (pcCells L) hs hP'.1 ⟨wr.heap.size, 0, none⟩ 1 1 (encP (n, q, l)) hx rfl ?_ ?_ ?_ ?_ ?_ ?_ ?_
  · intro j u hj
    rw [show (⟨wr.heap.size, 0, none⟩ : Addr).add j = ⟨wr.heap.size, j, none⟩ from by unfold Addr.add; split <;> simp_all]
    match j, hj with
    | 0, hj => simp [encP] at hj; subst hj; simp [World.cell?, hnew]
    | 1, hj => simp [encP] at hj; subst hj; simp [World.cell?, hnew]
    | 2, hj => simp [encP] at hj; subst hj; simp [World.cell?, hnew]
    | k + 3, hj => simp [encP] at hj
  · intro u hu
    simp only [encP, List.mem_cons, List.not_mem_nil, or_false] at hu
    rcases hu with rfl | rfl | rfl <;> rfl
  · have := pcCells_plain [(n, q, l)]
    simpa [pcCells] using this
  · unfold maxLen; omega
  · omega
  · exact Nat.le_trans hbase hb0.size
  · intro v' w' ho' hg' _
    obtain ⟨hk, hbig⟩ := hP'.grow (x := (n, q, l)) (p := p) ⟨hr.1.below hb0, hr.2⟩ ho' hg'
    refine h v' w' hk ?_ hg' (fun u z hB => hbig u z (hB.below hb0))
    exact (hb0.mono hbase).grown hg' (Nat.le_trans hbase hb0.size) (fun g hg => (hP'.1.1.lt g hg).1)
end Go.Proofs.YtjffbndiecjkjaaGreatDoor

namespace Go.Proofs.YtjffbndiecjkjaaGreatDoor
open Go.Shelf Go.RowKit Go.Lib Go.Sort
open Bn (limbs)

/-- Pieces in memory. -/
def PiAt (w : World) (v : Value) (K : List (Int × Int)) : Prop :=
  (v = .slice none 0 0 ∧ K = []) ∨ ∃ b cap L, v = .slice (some ⟨b, 0, none⟩) L.length cap ∧ b < w.heap.size ∧ L.length ≤ cap ∧ cap ≤ maxLen ∧ HoldsK encP 3 w b 0 L.toArray ∧ Says w L K
theorem PiAt.below {w w' : World} {v : Value} {K : List (Int × Int)} (h : PiAt w v K) (hb : RowKit.Below w.heap.size w w') : PiAt w' v K := by
  rcases h with h | ⟨b, cap, L, hv, hlt, hc, hm, hH, hS⟩
  · exact .inl h
  · exact .inr ⟨b, cap, L, hv, Nat.lt_of_lt_of_le hlt hb.size, hc, hm, HoldsK.keep hH hb hlt, hS.mono (fun _ _ hB => hB.below hb)⟩
theorem PiAt.form {w : World} {v : Value} {K : List (Int × Int)} (h : PiAt w v K) : ∃ a c, v = .slice a K.length c ∧ K.length ≤ c ∧ c ≤ maxLen := by
  rcases h with ⟨rfl, rfl⟩ | ⟨b, cap, L, hv, hlt, hc, hm, hH, hS⟩
  · exact ⟨none, 0, rfl, Nat.le_refl _, Nat.zero_le _⟩
  · rw [hS.1] at hv hc; exact ⟨_, _, hv, hc, hm⟩
theorem PiAt.cell {w : World} {a : Option Addr} {n c : Nat} {K : List (Int × Int)} (h : PiAt w (.slice a n c) K) (k : Nat) (hk : k < K.length) : ∃ b m q, a = some ⟨b, 0, none⟩ ∧ b < w.heap.size ∧
    w.cell? ⟨b, k * 3, none⟩ = some (.int .i64 m) ∧ w.cell? ⟨b, k * 3 + 1, none⟩ = some (.pointer q) ∧ w.cell? ⟨b, k * 3 + 2, none⟩ = some (.int .i64 K[k].2) ∧ BigAt w (.agg #[.int .i64 m, .pointer q]) K[k].1 := by
  rcases h with ⟨_, rfl⟩ | ⟨b, cap, L, hv, hlt, hc, hm, hH, hS⟩
  · simp at hk
  · injection hv with e1 _ _
    have hkL : k < L.length := by rw [hS.1]; exact hk
    obtain ⟨h0, h1, h2⟩ := pc_cells hH hkL
    have hs := hS.2 k hkL hk
    rw [hs.2] at h2
    simp only [Nat.zero_add] at h0 h1 h2
    exact ⟨b, _, _, e1, hlt, h0, h1, h2, hs.1⟩
theorem flat_pc (L : List PcV) (t : Nat) (ht : t < L.length * 3) : (pcCells L)[t]? = some ((flatK encP 3 L.toArray)[t]!) := by
  rw [get_flatK _ _ _ _ (by simpa using ht)]
  have h := pcCells_get L (t / 3) (by omega) (t % 3) (by omega)
  rw [show t / 3 * 3 + t % 3 = t by omega] at h
  rw [h]
  have e : L.toArray[t / 3]! = L[t / 3]'(by omega) := by rw [getElem!_pos _ _ (by simp; omega)]; simp
  rw [e]
  have hl : t % 3 < (encP (L[t / 3]'(by omega))).length := by simp only [encP, List.length_cons, List.length_nil]; omega
  rw [List.getElem?_eq_getElem hl, getElem!_pos (encP (L[t / 3]'(by omega))) (t % 3) hl]
theorem holds_of_block {w : World} {b : Nat} {cur : Array Value} {L : List PcV} (hb : w.heap[b]? = some (.cells cur 67)) (hc : cur.toList.take (L.length * 3) = pcCells L) : HoldsK encP 3 w b 0 L.toArray := by
  intro t ht
  rw [size_flatK] at ht
  simp only [List.size_toArray] at ht
  have hg : cur[t]? = (pcCells L)[t]? := by
    rw [← hc, List.getElem?_take]
    simp [ht]
  rw [flat_pc L t ht] at hg
  refine ⟨?_, ?_⟩
  · simp [World.cell?, hb, hg]
  · simp [World.frozen?, hb]
theorem KeptAt.slice {w : World} {base : Nat} {v : Value} {L : List PcV} {K : List (Int × Int)} (h : KeptAt w base v L K) : ∃ a c, v = .slice a L.length c := by
  obtain ⟨⟨⟨hl, ho⟩, _⟩, _⟩ := h
  rcases ho with ⟨hv, hn⟩ | ⟨g, cap, cur, hv, _⟩
  · exact ⟨none, 0, by rw [hv, hn]⟩
  · exact ⟨_, _, hv⟩
theorem KeptAt.pi {w : World} {base : Nat} {v : Value} {L : List PcV} {K : List (Int × Int)} (h : KeptAt w base v L K) : PiAt w v K := by
  obtain ⟨⟨⟨hl, ho⟩, hk⟩, hS⟩ := h
  rcases ho with ⟨hv, hn⟩ | ⟨g, cap, cur, hv, hbg, hg, h1, h2, h3, h4⟩
  · refine .inl ⟨hv, ?_⟩
    have := hS.1
    exact List.eq_nil_of_length_eq_zero (by omega)
  · exact .inr ⟨g, cap, L, hv, (Array.getElem?_eq_some_iff.1 hg).1, h1, h2, holds_of_block hg h4, hS⟩

/-- A row in memory. -/
def PbAt (w : World) (v : Value) (K : List (Int × Int)) (D : Int) : Prop := ∃ a c n q, v = .agg #[.slice a K.length c, .int .i64 n, .pointer q] ∧ PiAt w (.slice a K.length c) K ∧ BigAt w (.agg #[.int .i64 n, .pointer q]) D
theorem PbAt.below {w w' : World} {v : Value} {K : List (Int × Int)} {D : Int} (h : PbAt w v K D) (hb : RowKit.Below w.heap.size w w') : PbAt w' v K D := by
  obtain ⟨a, c, n, q, hv, h1, h2⟩ := h
  exact ⟨a, c, n, q, hv, h1.below hb, h2.below hb⟩
theorem PbAt.of {w : World} {v : Value} {n : Int} {q : Option Addr} {K : List (Int × Int)} {D : Int} (h1 : PiAt w v K) (h2 : BigAt w (.agg #[.int .i64 n, .pointer q]) D) : PbAt w (.agg #[v, .int .i64 n, .pointer q]) K D := by
  obtain ⟨a, c, rfl, _, _⟩ := h1.form
  exact ⟨a, c, n, q, rfl, h1, h2⟩
theorem PbAt.zero (w : World) : PbAt w (.agg #[.slice none 0 0, .int .i64 0, .pointer none]) [] 0 := ⟨none, 0, 0, none, rfl, .inl ⟨rfl, rfl⟩, .inl ⟨by unfold Fits; omega, rfl⟩⟩

/-- A block of the call's own whose first cells are written, cell by cell; all cells are of one sort. -/
def RowC (F : Value → Prop) (w : World) (b : Nat) (e : TypeId) (tot : Nat) (xs : List Value) : Prop :=
  ∃ cur, w.heap[b]? = some (.cells cur e) ∧ cur.size = tot ∧ (∀ u ∈ cur.toList, F u) ∧ cur.toList.take xs.length = xs ∧ xs.length ≤ tot
theorem RowC.lt {F : Value → Prop} {w : World} {b : Nat} {e : TypeId} {tot : Nat} {xs : List Value} (h : RowC F w b e tot xs) : b < w.heap.size := by
  obtain ⟨cur, h1, _⟩ := h
  exact (Array.getElem?_eq_some_iff.1 h1).1
theorem RowC.below {F : Value → Prop} {w w' : World} {b : Nat} {e : TypeId} {tot : Nat} {xs : List Value} (h : RowC F w b e tot xs) (hb : RowKit.Below w.heap.size w w') : RowC F w' b e tot xs := by
  obtain ⟨cur, h1, h2⟩ := h
  exact ⟨cur, (hb.block b (Array.getElem?_eq_some_iff.1 h1).1).trans h1, h2⟩
theorem RowC.cell {F : Value → Prop} {w : World} {b : Nat} {e : TypeId} {tot : Nat} {xs : List Value} (h : RowC F w b e tot xs) (k : Nat) (hk : k < tot) : (∃ u, w.cell? ⟨b, k, none⟩ = some u) ∧ w.frozen? ⟨b, k, none⟩ = false := by
  obtain ⟨cur, h1, h2, _⟩ := h
  have hk' : k < cur.size := by omega
  refine ⟨⟨cur[k], ?_⟩, ?_⟩
  · simp [World.cell?, h1, Array.getElem?_eq_getElem hk']
  · simp [World.frozen?, h1]
theorem RowC.put {F : Value → Prop} {w : World} {b : Nat} {e : TypeId} {tot k : Nat} {xs : List Value} {u : Value} (h : RowC F w b e tot xs) (hu : F u) (hk : xs.length = k) (hlt : k < tot) : RowC F (w.setCell ⟨b, k, none⟩ u) b e tot (xs ++ [u]) := by
  obtain ⟨cur, h1, h2, h3, h4, h5⟩ := h
  subst hk
  refine ⟨cur.setIfInBounds xs.length u, by simp [World.setCell, Array.getElem?_modify, h1], by simpa using h2, fun x hx => ?_, ?_, by simp; omega⟩
  · rw [Array.toList_setIfInBounds] at hx
    rcases List.mem_or_eq_of_mem_set hx with hx | hx
    · exact h3 x hx
    · rw [hx]; exact hu
  · have hl : xs.length < cur.toList.length := by simpa using (by omega : xs.length < cur.size)
    rw [List.length_append, List.length_singleton, List.take_succ_eq_append_getElem (by simpa using hl)]
    simp only [Array.toList_setIfInBounds]
    congr 1
    · rw [List.take_set_of_le (Nat.le_refl _)]; exact h4
    · simp
theorem RowC.clean {w : World} {b : Nat} {e : TypeId} {tot : Nat} {xs : List Value} (h : RowC Plain1 w b e tot xs) : Clean w b := by
  obtain ⟨cur, h1, _, h3, _⟩ := h
  exact ⟨cur, e, (0, 0), h1, h3⟩

/-- Three cells more: a piece; numbers stay what they are. -/
abbrev set3 (w : World) (b k : Nat) (u0 u1 u2 : Value) : World := ((w.setCell ⟨b, k, none⟩ u0).setCell ⟨b, k + 1, none⟩ u1).setCell ⟨b, k + 2, none⟩ u2
theorem grown_set3 (w : World) (b k : Nat) (u0 u1 u2 : Value) : w.grownBy (set3 w b k u0 u1 u2) (some b) :=
  ⟨rfl, rfl, rfl, by simp [World.setCell], fun j _ hne => ((Below.heap_setCell _ ⟨b, k + 2, none⟩ u2 j (fun h => hne (by rw [h]))).trans (Below.heap_setCell _ ⟨b, k + 1, none⟩ u1 j (fun h => hne (by rw [h])))).trans (Below.heap_setCell _ ⟨b, k, none⟩ u0 j (fun h => hne (by rw [h])))⟩

/-- Pieces written in place, the first of them. -/
def PutAt (w : World) (b N : Nat) (L : List PcV) (K : List (Int × Int)) : Prop := RowC Plain1 w b 67 (N * 3) (pcCells L) ∧ Says w L K
theorem PutAt.below {w w' : World} {b N : Nat} {L : List PcV} {K : List (Int × Int)} (h : PutAt w b N L K) (hb : RowKit.Below w.heap.size w w') : PutAt w' b N L K := ⟨h.1.below hb, h.2.mono (fun _ _ hB => hB.below hb)⟩
theorem Says.snoc {w : World} {L : List PcV} {K : List (Int × Int)} {x : PcV} {p : Int × Int} (h : Says w L K) (hx : Say w x p) : Says w (L ++ [x]) (K ++ [p]) := by
  have hl := h.1
  refine ⟨by simp [hl], fun i h1 h2 => ?_⟩
  by_cases hi : i < L.length
  · rw [List.getElem_append_left hi, List.getElem_append_left (by omega)]
    exact h.2 i hi (by omega)
  · have hiL : i = L.length := by simp at h1; omega
    subst hiL
    rw [List.getElem_append_right (Nat.le_refl _), List.getElem_append_right (by omega)]
    simpa [hl] using hx
theorem PutAt.put {w : World} {b N k : Nat} {L : List PcV} {K : List (Int × Int)} {n : Int} {q : Option Addr} {l : Int} {p : Int × Int} (h : PutAt w b N L K) (hp : Say w (n, q, l) p) (hk : L.length = k) (hlt : k < N) :
    PutAt (set3 w b (k * 3) (.int .i64 n) (.pointer q) (.int .i64 l)) b N (L ++ [(n, q, l)]) (K ++ [p]) ∧ (∀ u z, BigAt w u z → BigAt (set3 w b (k * 3) (.int .i64 n) (.pointer q) (.int .i64 l)) u z) := by
  have big : ∀ u z, BigAt w u z → BigAt (set3 w b (k * 3) (.int .i64 n) (.pointer q) (.int .i64 l)) u z := fun u z hB => hB.clean h.1.clean (grown_set3 _ _ _ _ _ _)
  refine ⟨⟨?_, ?_⟩, big⟩
  · have h1 := h.1.put (plain_int n) (k := k * 3) (by rw [pcCells_length, hk]) (by omega)
    have h2 := h1.put (plain_ptr q) (k := k * 3 + 1) (by simp [pcCells_length, hk]) (by omega)
    have h3 := h2.put (plain_int l) (k := k * 3 + 2) (by simp [pcCells_length, hk]) (by omega)
    have e : pcCells (L ++ [(n, q, l)]) = pcCells L ++ [.int .i64 n] ++ [.pointer q] ++ [.int .i64 l] := by simp [pcCells, encP]
    rw [e]; exact h3
  · exact (h.2.mono big).snoc ⟨big _ _ hp.1, hp.2⟩
theorem PutAt.holds {w : World} {b N : Nat} {L : List PcV} {K : List (Int × Int)} (h : PutAt w b N L K) : HoldsK encP 3 w b 0 L.toArray := by
  obtain ⟨⟨cur, h1, h2, h3, h4, h5⟩, _⟩ := h
  rw [pcCells_length] at h4
  exact holds_of_block h1 h4
theorem PutAt.pi {w : World} {b N : Nat} {L : List PcV} {K : List (Int × Int)} (h : PutAt w b N L K) (hL : L.length = N) (hN : N ≤ 1000000) : PiAt w (.slice (some ⟨b, 0, none⟩) N N) K :=
  .inr ⟨b, N, L, by rw [hL], h.1.lt, by omega, by unfold maxLen; omega, h.holds, h.2⟩
theorem madeCells_plain (z : Array Value) (hz : ∀ u ∈ z.toList, Plain1 u) (n : Nat) (h0 : 0 < z.size) : ∀ u ∈ (madeCells z n).toList, Plain1 u := by
  intro u hu
  simp [madeCells] at hu
  obtain ⟨i, hi, rfl⟩ := hu
  have hm := Nat.mod_lt i h0
  rw [getElem!_pos z (i % z.size) hm]
  exact hz _ (by simp)
theorem PutAt.start {w : World} {b N : Nat} (hb : w.heap[b]? = some (.cells (madeCells #[.int .i64 0, .pointer none, .int .i64 0] (N * 3)) 67)) : PutAt w b N [] [] :=
  ⟨⟨_, hb, by rw [size_madeCells], madeCells_plain _ (pcCells_plain [(0, none, 0)]) _ (by decide), by simp [pcCells], by simp [pcCells]⟩, rfl, fun i h => by simp at h⟩
theorem makePieces (N : Nat) (hN : N ≤ 1000000) : ∀ w, (Instr.makeSlice 30 (.int .i64 (N : Int)) (.int .i64 (N : Int))).run Tryz.prog w = .ok (.slice (some ⟨w.heap.size, 0, none⟩) N N) (w.alloc (.cells (madeCells #[.int .i64 0, .pointer none, .int .i64 0] (N * 3)) 67)) := fun w => by
  obtain ⟨i0, hi, hz0, hz1, hz2⟩ := info_parts Tryz.info67
  have := run_make (P := Tryz.prog) w 30 67 i0 _ pieceSlice hi hz0 .i64 .i64 (N : Int) (N : Int) (by omega) (by omega) (by rw [hz2]; omega) (by omega)
  rw [hz1] at this
  simpa [Value.cells] using this
theorem plain_slice (a : Option Addr) (n c : Nat) : Plain1 (.slice a n c) := ⟨(fun n h => by cases h), (fun d h => by cases h)⟩
/-- Pieces stay where a block is written that begins with no number. -/
theorem PiAt.off {w w' : World} {v : Value} {K : List (Int × Int)} {R : Nat} (h : PiAt w v K) (hg : w.grownBy w' (some R)) (hc : Clean w R) (h0 : ∀ n, w.cell? ⟨R, 0, none⟩ ≠ some (.int .i64 n)) : PiAt w' v K := by
  rcases h with h | ⟨b, cap, L, hv, hlt, hl, hm, hH, hS⟩
  · exact .inl h
  · refine .inr ⟨b, cap, L, hv, Nat.lt_of_lt_of_le hlt hg.size, hl, hm, ?_, hS.mono (fun _ _ hB => hB.clean hc hg)⟩
    rcases Nat.eq_zero_or_pos L.length with h1 | h1
    · intro t ht
      rw [size_flatK] at ht
      simp [h1] at ht
    · have hb : b ≠ R := by
        intro e
        subst e
        obtain ⟨c0, _, _⟩ := pc_cells hH h1
        simp only [Nat.zero_mul, Nat.add_zero] at c0
        exact h0 _ c0
      have hbl := hg.block b hlt (fun e => hb (by injection e))
      intro t ht
      exact ⟨(World.cell?_of_block (a := ⟨b, 0 + t, none⟩) hbl).trans (hH t ht).1, by have := (hH t ht).2; simp only [World.frozen?] at this ⊢; rw [hbl]; exact this⟩
/-- A row's box, zero as yet. -/
abbrev Box0 (w : World) (R : Nat) : Prop := w.heap[R]? = some (.cells #[.slice none 0 0, .int .i64 0, .pointer none] 35)
theorem Box0.below {w w' : World} {R : Nat} (h : Box0 w R) (hb : RowKit.Below w.heap.size w w') : Box0 w' R := (hb.block R (Array.getElem?_eq_some_iff.1 h).1).trans h
theorem Box0.cells {w : World} {R : Nat} (h : Box0 w R) : w.cell? ⟨R, 0, none⟩ = some (.slice none 0 0) ∧ w.cell? ⟨R, 1, none⟩ = some (.int .i64 0) ∧ w.cell? ⟨R, 2, none⟩ = some (.pointer none) ∧ w.frozen? ⟨R, 0, none⟩ = false ∧ w.frozen? ⟨R, 1, none⟩ = false ∧ w.frozen? ⟨R, 2, none⟩ = false := by
  refine ⟨?_, ?_, ?_, ?_, ?_, ?_⟩ <;> simp [World.cell?, World.frozen?, h]
theorem Box0.clean {w : World} {R : Nat} (h : Box0 w R) : Clean w R := by
  refine ⟨_, _, _, h, ?_⟩
  intro u hu
  simp at hu
  rcases hu with rfl | rfl | rfl
  · exact plain_slice _ _ _
  · exact plain_int _
  · exact plain_ptr _
theorem row_ret {w V : World} {R : Nat} (h : Box0 w R) {a : Option Addr} {n c : Nat} {m : Int} {q : Option Addr} {K : List (Int × Int)} {D : Int} (h1 : PiAt w (.slice a n c) K) (h2 : BigAt w (.agg #[.int .i64 m, .pointer q]) D)
    (hV : ((w.setCell ⟨R, 0, none⟩ (.slice a n c)).setCell ⟨R, 1, none⟩ (.int .i64 m)).setCell ⟨R, 2, none⟩ (.pointer q) = V) :
    V.cell? ⟨R, 0, none⟩ = some (.slice a n c) ∧ V.cell? ⟨R, 1, none⟩ = some (.int .i64 m) ∧ V.cell? ⟨R, 2, none⟩ = some (.pointer q) ∧ PbAt V (.agg #[.slice a n c, .int .i64 m, .pointer q]) K D ∧ ∀ B a', B ≤ R → RowKit.Below B a' w → RowKit.Below B a' V := by
  have hg : w.grownBy V (some R) := by rw [← hV]; exact grown_set3 w R 0 _ _ _
  have hR : V.heap[R]? = some (.cells #[.slice a n c, .int .i64 m, .pointer q] 35) := by rw [← hV]; simp [World.setCell, Array.getElem?_modify, h]
  refine ⟨by simp [World.cell?, hR], by simp [World.cell?, hR], by simp [World.cell?, hR], PbAt.of (h1.off hg h.clean (fun n e => by rw [h.cells.1] at e; simp at e)) (h2.clean h.clean hg), fun B a' hB hb => ?_⟩
  rw [← hV]
  exact ((hb.setCell (p := ⟨R, 0, none⟩) hB _).setCell (p := ⟨R, 1, none⟩) hB _).setCell (p := ⟨R, 2, none⟩) hB _
end Go.Proofs.YtjffbndiecjkjaaGreatDoor
