/-
  Put together: BiKeep, BiGrow.
-/
import Derived.Test.YtchpapppkmnfnaaGreatDoorBiInts
namespace Go.Proofs.YtchpapppkmnfnaaGreatDoor
open Go Go.RowKit Go.Lib

/-- What an append has done. -/
def App (w w' : World) (v v' : Value) (n m : Nat) : Prop :=
  (∃ g cap, v = .slice (some ⟨g, 0, none⟩) n cap ∧ v' = .slice (some ⟨g, 0, none⟩) (n + m) cap) ∨ (w.grownBy w' none ∧ v'.ownBlock = some w.heap.size)

theorem run_append_k {P : Program} (w : World) (base : Nat) (t ty e : TypeId) (i : TypeInfo) (z : Value) (size bytes : Nat) (ht : P.underlying t = some (.slice e)) (hi : P.info? e = some i) (hz : i.zero = some z)
    (hsize : i.size = size) (hby : i.bytes = bytes) (hzs : z.cells.size = size) (hsz : 0 < size)
    (v : Value) (n : Nat) (xs : List Value) (hown : w.ownsRow base e size v n xs)
    (a : Addr) (m c : Nat) (news : List Value) (hl : news.length = m * size) (hnews : ∀ j u, news[j]? = some u → w.cell? (a.add j) = some u) (h1 : ∀ u ∈ news, u.oneCell' = true)
    (h63 : n + m ≤ maxLen) (hbytes : (n + m) * bytes ≤ 140737488355328) (hbase : base ≤ w.heap.size) (hm : 0 < m) :
    ∃ v' w', (Builtin.append_ #[t, t] ty #[v, .slice (some a) m c]).run P w = .ok v' w' ∧ w'.ownsRow base e size v' (n + m) (xs ++ news) ∧ w.grownBy w' v.ownBlock ∧ App w w' v v' n m := by
  obtain ⟨v', w', hr, ho, hg, hnil⟩ := run_append_own (P := P) w base t ty e i z size bytes ht hi hz hsize hby hzs hsz v n xs hown a m c news hl hnews h1 h63 hbytes hbase
  refine ⟨v', w', hr, ho, hg, ?_⟩
  subst hsize
  subst hby
  have hsmall : n + m ≤ 9223372036854775807 := by simp only [maxLen] at h63; omega
  obtain ⟨hxl, hcase⟩ := hown
  rcases hcase with ⟨rfl, rfl⟩ | ⟨g, cap, cur, rfl, hbg, hgg, hnc, hcm, hcs, htake⟩
  · have hr2 := run_append_nil (P := P) w t ty e i z ht hi hz a m c news hl hnews (by omega) (by omega) (by have hb := hbytes; simp only [Nat.zero_add] at hb; omega)
    rw [hr] at hr2
    injection hr2 with e1 e2
    exact .inr ⟨by rw [e2]; exact ⟨rfl, rfl, rfl, by simp, fun k hk _ => heap_alloc_old w.drew _ hk⟩, by rw [e1]; rfl⟩
  · by_cases hroom : n + m ≤ cap
    · have hfit : n * i.size + news.length ≤ cur.size := by rw [hl, hcs, ← Nat.add_mul]; exact Nat.mul_le_mul_right _ hroom
      have hr2 := run_append_room (P := P) w t ty e i ht hi g n cap cur hgg a m c news hl hnews h1 hroom hfit
      rw [hr] at hr2
      injection hr2 with e1 e2
      exact .inl ⟨g, cap, rfl, e1⟩
    · have holds : ∀ j u, xs[j]? = some u → w.cell? ((⟨g, 0, none⟩ : Addr).add j) = some u := World.ownsRow.cells (base := base) (e := e) (size := i.size) (n := n) (v := .slice (some ⟨g, 0, none⟩) n cap) ⟨hxl, .inr ⟨g, cap, cur, rfl, hbg, hgg, hnc, hcm, hcs, htake⟩⟩ rfl
      have hr2 := run_append_grow (P := P) w t ty e i z ht hi hz ⟨g, 0, none⟩ n cap xs hxl holds a m c news hl hnews (by omega) (by omega) (growslice_fits (by omega) hbytes)
      rw [hr] at hr2
      injection hr2 with e1 e2
      exact .inr ⟨by rw [e2]; exact ⟨rfl, rfl, rfl, by simp, fun k hk _ => heap_alloc_old w.drew _ hk⟩, by rw [e1]; rfl⟩
theorem append_keep {P : Program} {ops : Array Oper} {rest : List Oper} {o : Oper} {a : Act} {Q : Exit → Act → World → Prop} (w : World) (hgd : o.guard = none) (s x : Operand) (t e : TypeId) (z : Value) (size bytes : Nat)
    (ho : o.op = .call { callee := .builtin .append, args := #[s, x], argTypes := #[t, t] }) (ht : P.underlying t = some (.slice e)) (hinfo : (P.info? e).map (fun i => (i.zero, i.size, i.bytes)) = some (some z, size, bytes)) (hzs : z.cells.size = size) (hsz : 0 < size)
    (base : Nat) (v xv : Value) (n m : Nat) (xs news : List Value) (hs : a.eval s = v) (hx : a.eval x = xv) (hown : w.ownsRow base e size v n xs) (hsrc : SrcAt w xv m size news) (h63 : n + m ≤ maxLen) (hbytes : (n + m) * bytes ≤ 140737488355328) (hbase : base ≤ w.heap.size) (hm : 0 < m)
    (h : ∀ v' w', w'.ownsRow base e size v' (n + m) (xs ++ news) → w.grownBy w' v.ownBlock → App w w' v v' n m → wpList P ops Q rest (a.put o.dst v') w') : wpList P ops Q (o :: rest) a w := by
  obtain ⟨i0, hi, hz0, hz1, hz2⟩ := info_of hinfo
  obtain ⟨ad, c, rfl, hl, h1, hnil, hcells⟩ := hsrc
  cases ad with
  | none => exact absurd (hnil rfl) (by omega)
  | some ad =>
    refine wpList_plain hgd fun _ hK => ?_
    obtain ⟨v', w', hr, h2, h3, h4⟩ := run_append_k (P := P) w base t o.type e i0 z size bytes ht hi hz0 hz1 hz2 hzs hsz v n xs hown ad m c news hl (hcells ad rfl) h1 h63 hbytes hbase hm
    unfold Oper.wp execOp
    simp only [ho, resolve, invoke, builtin, Sem.run_bind, Sem.run_pure, Result.andThen_ok, List.map_toArray, List.map_cons, List.map_nil, hs, hx, hr]
    exact hK _ _ (h v' w' h2 h3 h4)
end Go.Proofs.YtchpapppkmnfnaaGreatDoor

namespace Go.Proofs.YtchpapppkmnfnaaGreatDoor
open Go.RowKit

/-- So it is laid on. -/
def tl (mark : Int) (n : Nat) : List Int := (List.range n).map fun i : Nat => mark + 6 + 5 * (i : Int)
theorem tl_succ (mark : Int) (n : Nat) : tl mark (n + 1) = tl mark n ++ [mark + 6 + 5 * (n : Int)] := by unfold tl; rw [List.range_succ, List.map_append]; rfl
theorem tl_len (mark : Int) (n : Nat) : (tl mark n).length = n := by simp [tl]
/-- A head of a row. -/
theorem row_head {w : World} {v v' : Value} {c d : List Int} {cap : Nat} {a : Option Addr} (h : w.ownsRow 0 3 1 v (c ++ d).length (ic (c ++ d))) (hv : v = .slice a (c ++ d).length cap) (hv' : v' = .slice a c.length cap) (ha : a = none → c = []) : Iv w v' c := by
  rcases own_cells h with ⟨e, e2⟩ | ⟨g, cap', e, _, hg, _, hc⟩
  · have : c = [] := by
      have h0 : (c ++ d).length = 0 := e2
      rw [List.length_append] at h0
      exact List.length_eq_zero_iff.1 (by omega)
    subst this
    exact ⟨a, cap, hv', fun j hj => absurd hj (Nat.not_lt_zero _)⟩
  · rw [hv] at e
    injection e with e1 _ _
    refine ⟨a, cap, hv', fun j hj => ⟨g, e1, hg, hc j _ ?_⟩⟩
    simp [ic, hj, List.getElem?_append_left]
/-- A list is the head of a row. -/
def Vw (Y : List Rw) (l : Value) (c : List Int) : Prop := ∃ y ∈ Y, ∃ a cap cap' d, y = (.slice a (c ++ d).length cap', 3, ic (c ++ d)) ∧ l = .slice a c.length cap
theorem Vw.iv {w : World} {Y L : List Rw} {l : Value} {c : List Int} (h : Vw Y l c) (hi : Its w L) (hs : ∀ y ∈ Y, y ∈ L) : Iv w l c := by
  obtain ⟨y, hy, a, cap, cap', d, rfl, rfl⟩ := h
  have hr := hi.row _ (hs _ hy)
  have hr' : w.ownsRow 0 3 1 (.slice a (c ++ d).length cap') (c ++ d).length (ic (c ++ d)) := by simpa [ic] using hr
  rcases own_cells hr' with ⟨e, e2⟩ | ⟨g, cap2, e, _, hg, _, hc⟩
  · have : c = [] := by
      rw [List.length_append] at e2
      exact List.length_eq_zero_iff.1 (by omega)
    subst this
    exact ⟨a, cap, rfl, fun j hj => absurd hj (Nat.not_lt_zero _)⟩
  · injection e with e1 _ _
    exact ⟨a, cap, rfl, fun j hj => ⟨g, e1, hg, hc j _ (by simp [ic, hj, List.getElem?_append_left])⟩⟩
theorem Vw.more {Y Z : List Rw} {l : Value} {c : List Int} (h : Vw Y l c) (hs : ∀ y ∈ Y, y ∈ Z) : Vw Z l c := by
  obtain ⟨y, hy, h2⟩ := h
  exact ⟨y, hs y hy, h2⟩
theorem vw_self {w : World} {Y : List Rw} {l : Value} {c : List Int} (hr : w.ownsRow 0 3 1 l c.length (ic c)) (hy : (l, 3, ic c) ∈ Y) : Vw Y l c := by
  obtain ⟨a, cap, rfl⟩ := own_slice hr
  exact ⟨_, hy, a, cap, cap, [], by rw [List.append_nil], rfl⟩
/-- A row's head is a row. -/
theorem row_take {w : World} {a : Option Addr} {cap n m : Nat} {xs ys : List Value} (h : w.ownsRow 0 3 1 (.slice a (n + m) cap) (n + m) (xs ++ ys)) (hx : xs.length = n) (h0 : a = none → n = 0 ∧ cap = 0) : w.ownsRow 0 3 1 (.slice a n cap) n xs := by
  refine ⟨by omega, ?_⟩
  rcases h.2 with ⟨e, e2⟩ | ⟨g, cap2, cur, e, h2, h3, h4, h5, h6, h7⟩
  · injection e with e1 _ e3
    obtain ⟨z1, z2⟩ := h0 e1
    exact .inl ⟨by rw [e1, z1, z2], z1⟩
  · injection e with e1 _ e3
    subst e1 e3
    refine .inr ⟨g, cap, cur, rfl, h2, h3, by omega, h5, h6, ?_⟩
    have e4 : cur.toList.take n = (cur.toList.take ((n + m) * 1)).take n := by rw [List.take_take, Nat.min_eq_left (by omega)]
    rw [Nat.mul_one, e4, h7, List.take_append_of_le_length (by omega), List.take_of_length_le (by omega)]
/-- A list that is being laid on. -/
def GrSt (B : Nat) (S : Nat → Prop) (w0 w : World) (P : Nat) (turn deep : Int) (t : Tx) (rest : List Rw) (l g : Value) (c : List Int) (mark : Int) (i : Nat) : Prop :=
  (∃ a cap, l = .slice a c.length cap ∧ g = .slice a (c.length + i) cap ∧ (a = none → c.length = 0 ∧ cap = 0) ∧ Bg B S w0 w P turn deep t ((g, 3, ic (c ++ tl mark i)) :: rest)) ∨ Bg B S w0 w P turn deep t ((g, 3, ic (c ++ tl mark i)) :: (l, 3, ic c) :: rest)
section
variable {B P : Nat} {S : Nat → Prop} {w0 w w' : World} {turn deep : Int} {t : Tx} {rest : List Rw} {l g v' : Value} {c : List Int} {mark : Int} {i : Nat}
theorem GrSt.bg (h : GrSt B S w0 w P turn deep t rest l g c mark i) : ∃ Z, Bg B S w0 w P turn deep t ((g, 3, ic (c ++ tl mark i)) :: Z) := by
  rcases h with ⟨_, _, _, _, _, h⟩ | h
  · exact ⟨_, h⟩
  · exact ⟨_, h⟩
theorem GrSt.row (h : GrSt B S w0 w P turn deep t rest l g c mark i) : w.ownsRow 0 3 1 g (c.length + i) (ic (c ++ tl mark i)) := by
  obtain ⟨Z, hb⟩ := h.bg
  have := hb.row (x := (g, 3, ic (c ++ tl mark i))) (by simp)
  have e : (ic (c ++ tl mark i)).length = c.length + i := by simp [ic, tl]
  simpa [e] using this
theorem gr_step (h : GrSt B S w0 w P turn deep t rest l g c mark i) (o1 : w'.ownsRow 0 3 1 v' (c.length + i + 1) (ic (c ++ tl mark i) ++ [.int .i64 (mark + 6 + 5 * (i : Int))])) (o2 : (w.alloc (.cells #[.int .i64 (mark + 6 + 5 * (i : Int))] 3)).grownBy w' g.ownBlock) (o3 : App (w.alloc (.cells #[.int .i64 (mark + 6 + 5 * (i : Int))] 3)) w' g v' (c.length + i) 1) : GrSt B S w0 w' P turn deep t rest l v' c mark (i + 1) := by
  have e1 : ic (c ++ tl mark i) ++ [.int .i64 (mark + 6 + 5 * (i : Int))] = ic (c ++ tl mark (i + 1)) := by simp [ic, tl_succ]
  have e2 : (ic (c ++ tl mark i)).length = c.length + i := by simp [ic, tl]
  have hY : (w.alloc (.cells #[.int .i64 (mark + 6 + 5 * (i : Int))] 3)).heap.size = w.heap.size + 1 := by simp
  have hn : v'.ownBlock = g.ownBlock ∨ v'.ownBlock = some (w.heap.size + 1) := by
    rcases o3 with ⟨b, cap, rfl, rfl⟩ | ⟨_, e⟩
    · exact .inl rfl
    · exact .inr (by rw [e, hY])
  have o1' : w'.ownsRow 0 3 1 v' ((ic (c ++ tl mark i)).length + 1) (ic (c ++ tl mark i) ++ [.int .i64 (mark + 6 + 5 * (i : Int))]) := by rw [e2]; exact o1
  rcases h with ⟨a, cap, hl, hg, ha, hb⟩ | hb
  · rcases o3 with ⟨b, cap2, eg, ev⟩ | ⟨hgn, en⟩
    · have hb2 := Bg.app (A := []) (xs := ic (c ++ tl mark i)) hb o1' o2 hn
      rw [hg] at eg
      injection eg with q1 _ q3
      refine .inl ⟨a, cap, hl, by rw [ev, q1, q3]; rfl, ha, ?_⟩
      rw [e1] at hb2
      exact hb2
    · refine .inr ?_
      have hrow : w.ownsRow 0 3 1 l c.length (ic c) := by
        have hr := hb.row (x := (g, 3, ic (c ++ tl mark i))) (by simp)
        have hr2 : w.ownsRow 0 3 1 (.slice a (c.length + i) cap) (c.length + i) (ic c ++ ic (tl mark i)) := by
          have : w.ownsRow 0 3 1 g (c.length + i) (ic (c ++ tl mark i)) := by simpa [e2] using hr
          rw [hg] at this
          simpa [ic] using this
        rw [hl]
        exact row_take hr2 (by simp [ic]) ha
      have hbl : Below w.heap.size w w' := ((Below.refl _ _).alloc (Nat.le_refl _) _).grown hgn (by simp) (fun k hk => by cases hk)
      have hlb : ∀ k, l.ownBlock = some k → g.ownBlock = some k := fun k hk => by
        rw [hl] at hk
        rw [hg]
        cases a with
        | none => exact hk
        | some x => exact hk
      have s1 : Sg w P turn deep t ((l, 3, ic c) :: rest) := by
        refine ⟨hb.sg.box, ?_, fun x hx => ?_⟩
        · refine Its.turn (A := []) (x := (g, 3, ic (c ++ tl mark i))) (x' := (l, 3, ic c)) hb.sg.its (by simpa [ic] using hrow) (fun _ _ _ => rfl) (.inl ?_)
          show l.ownBlock = g.ownBlock
          rw [hl, hg]
          cases a <;> rfl
        · rcases List.mem_cons.1 hx with e | e
          · rw [e]; exact .inr rfl
          · exact hb.sg.typ x (List.mem_cons_of_mem _ e)
      have f1 : Fr B S w0 w P ((l, 3, ic c) :: rest) := ⟨hb.fr.st, fun k hk => hb.fr.gr k (by
        rcases hk with e | ⟨x, hx, e⟩
        · exact .inl e
        · rcases List.mem_cons.1 hx with e2 | e2
          · subst e2; exact .inr ⟨(g, 3, ic (c ++ tl mark i)), by simp, hlb k e⟩
          · exact .inr ⟨x, List.mem_cons_of_mem _ e2, e⟩)⟩
      have b1 : Bg B S w0 w' P turn deep t ((l, 3, ic c) :: rest) := (Bg.mk s1 f1 hb.hS hb.hB).below hbl
      rw [hY] at en
      have hfresh : ∀ k, v'.ownBlock = some k → w.heap.size ≤ k := fun k hk => by
        rw [en] at hk
        injection hk with hk
        omega
      refine b1.add (x := (v', 3, ic (c ++ tl mark (i + 1)))) ?_ (fun k hk y hy e => ?_) (.inr rfl) (fun k hk => Nat.le_trans hb.size (hfresh k hk))
      · rw [← e1]
        simpa [e2] using o1
      · have a1 := hfresh k hk
        have a2 := s1.its.lt hy e
        omega
  · refine .inr ?_
    have hb2 := Bg.app (A := []) (xs := ic (c ++ tl mark i)) hb o1' o2 hn
    rw [e1] at hb2
    exact hb2
/-- In the end. -/
theorem GrSt.fin (h : GrSt B S w0 w P turn deep t rest l g c mark i) : ∃ Y, Bg B S w0 w P turn deep t (Y ++ rest) ∧ (g, 3, ic (c ++ tl mark i)) ∈ Y ∧ Vw Y l c := by
  rcases h with ⟨a, cap, hl, hg, ha, hb⟩ | hb
  · exact ⟨[(g, 3, ic (c ++ tl mark i))], hb, by simp, (g, 3, ic (c ++ tl mark i)), by simp, a, cap, cap, tl mark i, by rw [hg, List.length_append, tl_len], hl⟩
  · refine ⟨[(g, 3, ic (c ++ tl mark i)), (l, 3, ic c)], hb, by simp, vw_self (w := w) ?_ (by simp)⟩
    have := hb.row (x := (l, 3, ic c)) (by simp)
    simpa [ic] using this
end
end Go.Proofs.YtchpapppkmnfnaaGreatDoor
