/-
  The book: what an append leaves of a list that lies in the same memory; the library's table; many rows at once.
-/
import Derived.Test.YtpmiplhbppmboaaDoorBkOwn
import Derived.Test.YtpmiplhbppmboaaDoorShelf
namespace Go.Proofs.YtpmiplhbppmboaaDoor
open Go Go.RowKit Go.Lib

theorem gPow : ∃ g, Tryd.prog.globalNamed "internal/strconv.uint64pow10" = some g ∧ g < 2 := ⟨1, by kernel_rfl, by decide⟩

/-- The library's table of powers of ten is laid. -/
def Tab (w : World) : Prop := Lib.TabIs Tryd.prog w "internal/strconv.uint64pow10" .u64 Lib.pow10Tab ∧ 2 ≤ w.heap.size

theorem Tab.below {w w' : World} {B : Nat} (h : Tab w) (hb : Below B w w') (hB : 2 ≤ B) : Tab w' := by
  obtain ⟨g, hg, hg5⟩ := gPow
  exact ⟨var?_below hb hg (by omega) h.1, Nat.le_trans h.2 hb.size⟩
theorem Tab.off {S : Nat → Prop} {w w' : World} (h : Tab w) (hb : Off S w w') (hS : ∀ k, S k → 2 ≤ k) : Tab w' :=
  h.below (B := 2) ⟨hb.os, hb.tape, hb.output, hb.size, fun k hk => hb.block k (Nat.lt_of_lt_of_le hk h.2) (fun hs => by have := hS k hs; omega)⟩ (Nat.le_refl _)

theorem below_grow (w : World) (q : Nat) (os : Array Obj) : Below w.heap.size w (Sort.grow (w.drewN q) os) :=
  ⟨rfl, rfl, rfl, by simp [Sort.grow], fun i hi => by
    show ((w.drewN q).heap ++ os)[i]? = _
    rw [Array.getElem?_append_left (by show i < w.heap.size; omega)]
    rfl⟩
/-- strconv.Itoa. -/
theorem itoa_any (n : Int) (w : World) (h1 : -9223372036854775808 ≤ n) (h2 : n ≤ 9223372036854775807) (ht : Tab w) :
    Calls Tryd.prog 85 #[.int .i64 n] w fun e w' => (∃ s, e = .returned (.string s)) ∧ Below w.heap.size w w' := by
  refine (Tryd.strconv_Itoa n h1 h2 w ht.1).mono ?_
  rintro e w' ⟨rfl, k, os, rfl⟩
  exact ⟨⟨_, rfl⟩, below_grow _ _ _⟩

/-- What an append has done. -/
def App (w w' : World) (v v' : Value) (n m : Nat) : Prop :=
  (∃ g cap, v = .slice (some ⟨g, 0, none⟩) n cap ∧ v' = .slice (some ⟨g, 0, none⟩) (n + m) cap) ∨ (w.grownBy w' none ∧ v'.ownBlock = some w.heap.size)

theorem run_append_k {P : Program} (w : World) (base : Nat) (t ty e : TypeId) (i : TypeInfo) (z : Value) (size bytes : Nat) (ht : P.underlying t = some (.slice e)) (hi : P.info? e = some i) (hz : i.zero = some z)
    (hsize : i.size = size) (hby : i.bytes = bytes) (hzs : z.cells.size = size) (hsz : 0 < size)
    (v : Value) (n : Nat) (xs : List Value) (hown : w.ownsRow base e size v n xs)
    (a : Addr) (m c : Nat) (news : List Value) (hl : news.length = m * size) (hnews : ∀ j u, news[j]? = some u → w.cell? (a.add j) = some u) (h1 : ∀ u ∈ news, u.oneCell' = true)
    (h63 : n + m ≤ maxLen) (hbytes : (n + m) * bytes ≤ 140737488355328) (hbase : base ≤ w.heap.size) (hm : 0 < m) :
    ∃ v' w', (Builtin.append_ #[t, t] ty #[v, .slice (some a) m c]).run P w = .ok v' w' ∧ w'.ownsRow base e size v' (n + m) (xs ++ news) ∧ w.grownBy w' v.ownBlock ∧ App w w' v v' n m := by
  obtain ⟨v', w', hr, ho, hg, hnil⟩ := run_append_own (P := P) w base t ty e i z size bytes ht hi hz hsize hby hzs hsz v n xs hown a m c news hl hnews h1 h63 hbytes hbase
  refine ⟨v', w', hr, ho, hg, ?_⟩
  subst hsize
  subst hby
  have hsmall : n + m ≤ 9223372036854775807 := by simp only [maxLen] at h63; omega
  obtain ⟨hxl, hcase⟩ := hown
  rcases hcase with ⟨rfl, rfl⟩ | ⟨g, cap, cur, rfl, hbg, hgg, hnc, hcm, hcs, htake⟩
  · have hr2 := run_append_nil (P := P) w t ty e i z ht hi hz a m c news hl hnews (by omega) (by omega) (by have hb := hbytes; simp only [Nat.zero_add] at hb; omega)
    rw [hr] at hr2
    injection hr2 with e1 e2
    exact .inr ⟨by rw [e2]; exact ⟨rfl, rfl, rfl, by simp, fun k hk _ => heap_alloc_old w.drew _ hk⟩, by rw [e1]; rfl⟩
  · by_cases hroom : n + m ≤ cap
    · have hfit : n * i.size + news.length ≤ cur.size := by rw [hl, hcs, ← Nat.add_mul]; exact Nat.mul_le_mul_right _ hroom
      have hr2 := run_append_room (P := P) w t ty e i ht hi g n cap cur hgg a m c news hl hnews h1 hroom hfit
      rw [hr] at hr2
      injection hr2 with e1 e2
      exact .inl ⟨g, cap, rfl, e1⟩
    · have holds : ∀ j u, xs[j]? = some u → w.cell? ((⟨g, 0, none⟩ : Addr).add j) = some u := World.ownsRow.cells (base := base) (e := e) (size := i.size) (n := n) (v := .slice (some ⟨g, 0, none⟩) n cap) ⟨hxl, .inr ⟨g, cap, cur, rfl, hbg, hgg, hnc, hcm, hcs, htake⟩⟩ rfl
      have hr2 := run_append_grow (P := P) w t ty e i z ht hi hz ⟨g, 0, none⟩ n cap xs hxl holds a m c news hl hnews (by omega) (by omega) (growslice_fits (by omega) hbytes)
      rw [hr] at hr2
      injection hr2 with e1 e2
      exact .inr ⟨by rw [e2]; exact ⟨rfl, rfl, rfl, by simp, fun k hk _ => heap_alloc_old w.drew _ hk⟩, by rw [e1]; rfl⟩
theorem append_keep {P : Program} {ops : Array Oper} {rest : List Oper} {o : Oper} {a : Act} {Q : Exit → Act → World → Prop} (w : World) (hgd : o.guard = none) (s x : Operand) (t e : TypeId) (z : Value) (size bytes : Nat)
    (ho : o.op = .call { callee := .builtin .append, args := #[s, x], argTypes := #[t, t] }) (ht : P.underlying t = some (.slice e)) (hinfo : (P.info? e).map (fun i => (i.zero, i.size, i.bytes)) = some (some z, size, bytes)) (hzs : z.cells.size = size) (hsz : 0 < size)
    (base : Nat) (v xv : Value) (n m : Nat) (xs news : List Value) (hs : a.eval s = v) (hx : a.eval x = xv) (hown : w.ownsRow base e size v n xs) (hsrc : SrcAt w xv m size news) (h63 : n + m ≤ maxLen) (hbytes : (n + m) * bytes ≤ 140737488355328) (hbase : base ≤ w.heap.size) (hm : 0 < m)
    (h : ∀ v' w', w'.ownsRow base e size v' (n + m) (xs ++ news) → w.grownBy w' v.ownBlock → App w w' v v' n m → wpList P ops Q rest (a.put o.dst v') w') : wpList P ops Q (o :: rest) a w := by
  obtain ⟨i0, hi, hz0, hz1, hz2⟩ := info_of hinfo
  obtain ⟨ad, c, rfl, hl, h1, hnil, hcells⟩ := hsrc
  cases ad with
  | none => exact absurd (hnil rfl) (by omega)
  | some ad =>
    refine wpList_plain hgd fun _ hK => ?_
    obtain ⟨v', w', hr, h2, h3, h4⟩ := run_append_k (P := P) w base t o.type e i0 z size bytes ht hi hz0 hz1 hz2 hzs hsz v n xs hown ad m c news hl (hcells ad rfl) h1 h63 hbytes hbase hm
    unfold Oper.wp execOp
    simp only [ho, resolve, invoke, builtin, Sem.run_bind, Sem.run_pure, Result.andThen_ok, List.map_toArray, List.map_cons, List.map_nil, hs, hx, hr]
    exact hK _ _ (h v' w' h2 h3 h4)
theorem op_append_keep {P : Program} {ops : Array Oper} {o : Oper} {a : Act} {Q : Exit → Act → World → Prop} {K : Act → World → Prop} (w : World) (s x : Operand) (t e : TypeId) (z : Value) (size bytes : Nat)
    (ho : o.op = .call { callee := .builtin .append, args := #[s, x], argTypes := #[t, t] }) (ht : P.underlying t = some (.slice e)) (hinfo : (P.info? e).map (fun i => (i.zero, i.size, i.bytes)) = some (some z, size, bytes)) (hzs : z.cells.size = size) (hsz : 0 < size)
    (base : Nat) (v xv : Value) (n m : Nat) (xs news : List Value) (hs : a.eval s = v) (hx : a.eval x = xv) (hown : w.ownsRow base e size v n xs) (hsrc : SrcAt w xv m size news) (h63 : n + m ≤ maxLen) (hbytes : (n + m) * bytes ≤ 140737488355328) (hbase : base ≤ w.heap.size) (hm : 0 < m) (hw : Region.wanted o (yielded ops a.tmps) = true)
    (h : ∀ v' w', w'.ownsRow base e size v' (n + m) (xs ++ news) → w.grownBy w' v.ownBlock → App w w' v v' n m → K (a.put o.dst v') w') : if Region.wanted o (yielded ops a.tmps) = true then Oper.wp P o a w K Q else K (a.put o.dst undef) w := by
  rw [if_pos hw]
  obtain ⟨i0, hi, hz0, hz1, hz2⟩ := info_of hinfo
  obtain ⟨ad, c, rfl, hl, h1, hnil, hcells⟩ := hsrc
  cases ad with
  | none => exact absurd (hnil rfl) (by omega)
  | some ad =>
    obtain ⟨v', w', hr, h2, h3, h4⟩ := run_append_k (P := P) w base t o.type e i0 z size bytes ht hi hz0 hz1 hz2 hzs hsz v n xs hown ad m c news hl (hcells ad rfl) h1 h63 hbytes hbase hm
    unfold Oper.wp execOp
    simp only [ho, resolve, invoke, builtin, Sem.run_bind, Sem.run_pure, Result.andThen_ok, List.map_toArray, List.map_cons, List.map_nil, hs, hx, hr]
    exact h v' w' h2 h3 h4

/-- Rows of elements of two types lie apart. -/
theorem own_types {w : World} {B B' e e' : Nat} {v v' : Value} {n n' : Nat} {xs xs' : List Value} (h : w.ownsRow B e 1 v n xs) (h' : w.ownsRow B' e' 1 v' n' xs') (he : e ≠ e') : ∀ g, v.ownBlock = some g → v'.ownBlock ≠ some g := by
  intro g hg hg'
  rcases h.2 with ⟨rfl, _⟩ | ⟨g1, cap, cur, rfl, _, hc, _⟩
  · cases hg
  · rcases h'.2 with ⟨rfl, _⟩ | ⟨g2, cap', cur', rfl, _, hc', _⟩
    · cases hg'
    · injection hg with hg
      injection hg' with hg'
      change g1 = g at hg
      change g2 = g at hg'
      subst hg
      subst hg'
      rw [hc] at hc'
      injection hc' with hc'
      injection hc' with _ h2 _
      exact he h2
/-- A list that lies at the head of a row that grows stays. -/
theorem keep_own {w w' : World} {B e n N M : Nat} {lv gv gv' : Value} {xs ys zs : List Value} (hl : w.ownsRow B e 1 lv n xs) (hg : w.ownsRow B e 1 gv N (xs ++ ys)) (hg' : w'.ownsRow B e 1 gv' (N + M) (xs ++ ys ++ zs)) (hw : w.grownBy w' gv.ownBlock) (hc : App w w' gv gv' N M) : w'.ownsRow B e 1 lv n xs := by
  by_cases hb : lv.ownBlock = none ∨ lv.ownBlock ≠ gv.ownBlock
  · exact hl.kept hw hb
  · rcases hc with ⟨g, cap, rfl, rfl⟩ | ⟨hc, _⟩
    · have hb1 : lv.ownBlock = some g := by
        rcases Classical.em (lv.ownBlock = (Value.slice (some ⟨g, 0, none⟩) N cap).ownBlock) with h | h
        · exact h
        · exact absurd (.inr h) hb
      rcases hl with ⟨hx, ⟨rfl, _⟩ | ⟨g1, c1, cur, rfl, h1, h2, h3, h4, h5, h6⟩⟩
      · cases hb1
      · injection hb1 with hb1
        change g1 = g at hb1
        subst hb1
        rcases hg.2 with ⟨h, _⟩ | ⟨g2, c2, cur2, h, _, k2, _, _, k5, _⟩
        · cases h
        · injection h with e1 e2 e3
          injection e1 with e1
          injection e1 with e1 _ _
          subst e1
          subst e3
          rw [h2] at k2
          injection k2 with k2
          injection k2 with k2 _ _
          subst k2
          have hcc : c1 = cap := by omega
          subst hcc
          rcases hg'.2 with ⟨h, _⟩ | ⟨g3, c3, cur3, h, _, q2, _, _, q5, q6⟩
          · cases h
          · injection h with e1 e2 e3
            injection e1 with e1
            injection e1 with e1 _ _
            subst e1
            subst e3
            refine ⟨hx, .inr ⟨g1, c1, cur3, rfl, h1, q2, h3, h4, q5, ?_⟩⟩
            have hN : n * 1 ≤ (N + M) * 1 := by
              have := hg'.1
              simp only [List.length_append] at this
              omega
            have : (cur3.toList.take ((N + M) * 1)).take (n * 1) = cur3.toList.take (n * 1) := by rw [List.take_take, Nat.min_eq_left hN]
            rw [← this, q6, List.append_assoc, ← hx, List.take_left']
            rfl
    · exact hl.kept hc (by cases hv : lv.ownBlock <;> simp)

/-- A row: its elements' type, its value, its length, its cells. -/
structure Rw where
  (e : Nat) (v : Value) (n : Nat) (xs : List Value)
/-- The book, the rows that are kept, and what else may be changed: nothing below B but the book. -/
structure DS (w : World) (P B : Nat) (turn deep : Int) (t : Tx) (R : List Rw) (w' : World) : Prop where
  book : BkAt w' P false turn deep t
  rest : Off (fun k => k = P ∨ B ≤ k) w w'
  rows : ∀ r ∈ R, w'.ownsRow B r.e 1 r.v r.n r.xs
  low : P < B
  size : B ≤ w'.heap.size
theorem DS.below {w : World} {P B : Nat} {turn deep : Int} {t : Tx} {R : List Rw} {w' w2 : World} (h : DS w P B turn deep t R w') (hb : RowKit.Below w'.heap.size w' w2) : DS w P B turn deep t R w2 :=
  ⟨h.book.below hb, h.rest.trans (Off.of_below hb), fun r hr => own_next (h.rows r hr) hb, h.low, Nat.le_trans h.size hb.size⟩
theorem DS.set {w : World} {P B : Nat} {turn deep : Int} {t t' : Tx} {R : List Rw} {w' : World} (h : DS w P B turn deep t R w') (i : Nat) (v : Value) (e : (bookCs false turn deep t).setIfInBounds i v = bookCs false turn deep t') : DS w P B turn deep t' R (w'.setCell ⟨P, i, none⟩ v) :=
  ⟨h.book.set i v e, h.rest.trans (Off.set _ (.inl rfl)), fun r hr => own_set (h.rows r hr) h.low i v, h.low, by have := h.size; simpa [World.setCell] using this⟩
theorem DS.grown {w : World} {P B : Nat} {turn deep : Int} {t : Tx} {R : List Rw} {w' w2 : World} {row : Option Nat} (h : DS w P B turn deep t R w') (hg : w'.grownBy w2 row) (hB : ∀ g, row = some g → B ≤ g) (hR : ∀ r ∈ R, ∀ g, row = some g → r.v.ownBlock ≠ some g) : DS w P B turn deep t R w2 :=
  ⟨(hg.block _ (Array.getElem?_eq_some_iff.1 h.book).1 (fun e => by have := hB P e.symm; have := h.low; omega)).trans h.book, h.rest.trans (Off.grown hg (fun k hk => .inr (hB k hk))), fun r hr => own_grown (h.rows r hr) hg (hR r hr), h.low, Nat.le_trans h.size hg.size⟩
theorem DS.add {w : World} {P B : Nat} {turn deep : Int} {t : Tx} {R : List Rw} {w' : World} (h : DS w P B turn deep t R w') (r : Rw) (hr : w'.ownsRow B r.e 1 r.v r.n r.xs) : DS w P B turn deep t (r :: R) w' :=
  ⟨h.book, h.rest, fun q hq => (List.mem_cons.1 hq).elim (fun e => e ▸ hr) (h.rows q), h.low, h.size⟩
theorem DS.less {w : World} {P B : Nat} {turn deep : Int} {t : Tx} {R R' : List Rw} {w' : World} (h : DS w P B turn deep t R w') (hs : ∀ r ∈ R', r ∈ R) : DS w P B turn deep t R' w' := ⟨h.book, h.rest, fun r hr => h.rows r (hs r hr), h.low, h.size⟩
theorem DS.tab {w : World} {P B : Nat} {turn deep : Int} {t : Tx} {R : List Rw} {w' : World} (h : DS w P B turn deep t R w') (ht : Tab w) (hP : 2 ≤ P) : Tab w' := ht.off h.rest (fun k hk => by have := h.low; omega)
/-- A cell of one row is written. -/
theorem DS.put {w : World} {P B : Nat} {turn deep : Int} {t : Tx} {R : List Rw} {w' : World} {e g n c : Nat} {xs : List Value} (h : DS w P B turn deep t (⟨e, .slice (some ⟨g, 0, none⟩) n c, n, xs⟩ :: R) w') (hR : ∀ r ∈ R, r.v.ownBlock ≠ some g) (i : Nat) (u : Value) : DS w P B turn deep t (⟨e, .slice (some ⟨g, 0, none⟩) n c, n, xs.set i u⟩ :: R) (w'.setCell ⟨g, i, none⟩ u) := by
  have h0 := h.rows _ (List.mem_cons_self ..)
  have hg : B ≤ g := (h0.lt g rfl).1
  have hs : Off (fun k => k = g) w' (w'.setCell ⟨g, i, none⟩ u) := Off.set _ rfl
  refine ⟨(hs.block _ (Array.getElem?_eq_some_iff.1 h.book).1 (fun e => by have := h.low; omega)).trans h.book, h.rest.trans (hs.less (fun k hk => .inr (by omega))), ?_, h.low, Nat.le_trans h.size hs.size⟩
  intro r hr
  rcases List.mem_cons.1 hr with rfl | hr
  · exact own_write h0 i u
  · exact own_off (S := fun k => k = g) (h.rows r (List.mem_cons_of_mem _ hr)) (fun k hk e => hR r hr (e ▸ hk)) hs
end Go.Proofs.YtpmiplhbppmboaaDoor
