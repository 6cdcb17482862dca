/-
  Put together: TxIff, TxBack.
-/
import Derived.Test.YthohnmplbjhjaaaGreatDoorJ09
import Derived.Test.YthohnmplbjhjaaaGreatDoorJ08
namespace Go.Proofs.YthohnmplbjhjaaaGreatDoor
open Md Go.Lib
def part (m : Mo) (v c : Nat) (g : Bool) : Mo := ⟨m.vars.take v, m.cons.take c, g, if g = true then m.goal else []⟩
theorem KB {V : List Vr} {x : Int} {v : Nat} (h : inV V x) (hx : x < (v : Int)) : inV (V.take v) x := ⟨h.1, by have := h.2; rw [List.length_take]; omega⟩
theorem KC {V : List Vr} {x : Int} {v : Nat} (h : inV (V.take v) x) : inV V x ∧ x < (v : Int) := by
  have h1 := h.1
  have h2 := h.2
  rw [List.length_take] at h2
  exact ⟨⟨h1, by omega⟩, by omega⟩
theorem Zm {V : List Vr} {x : Int} {v : Nat} (h : inV V x) (hx : x < (v : Int)) : nm (V.take v) x = nm V x := by
  obtain ⟨i, hi, rfl, hn⟩ := Xc h
  have hi2 : i < (V.take v).length := by rw [List.length_take]; omega
  rw [Xd hi2, hn, List.getElem_take]
theorem Ka {k : Int} (h : 1 ≤ k ∧ k ≤ 9) : wordT k ≠ wVar ∧ wordT k ≠ wMin := by
  rcases (by omega : k = 1 ∨ k = 2 ∨ k = 3 ∨ k = 4 ∨ k = 5 ∨ k = 6 ∨ k = 7 ∨ k = 8 ∨ k = 9) with rfl | rfl | rfl | rfl | rfl | rfl | rfl | rfl | rfl <;> exact ⟨by decide, by decide⟩
theorem Kc : wMin ≠ wVar := by decide
theorem y5f {m : Mo} (ho : OkM m) : part m m.vars.length m.cons.length m.has = m := by
  obtain ⟨vs, cs, hs, gl⟩ := m
  unfold part
  simp only [List.take_length]
  congr 1
  cases hs
  · exact (ho.no rfl).symm
  · rfl
theorem Zn {m : Mo} (ho : OkM m) : ∀ (L : List (List (List UInt8))) (v c : Nat) (g : Bool), zz m L v c g = true → Ders (part m v c g) L m
  | [], v, c, g, h => by
    simp only [zz, Bool.and_eq_true, decide_eq_true_eq, beq_iff_eq] at h
    obtain ⟨⟨rfl, rfl⟩, rfl⟩ := h
    exact y5f ho
  | ws :: L, v, c, g, h => by
    unfold zz at h
    by_cases h1 : ws.headD [] = wVar
    · rw [if_pos h1] at h
      by_cases hv : v < m.vars.length
      · rw [dif_pos hv, Bool.and_eq_true, decide_eq_true_eq] at h
        refine ⟨part m (v + 1) c g, .inl ⟨m.vars[v], h.1, ⟨ho.pv.ok _ (List.getElem_mem hv), ?_, ho.bd _ (List.getElem_mem hv)⟩, ?_, ?_⟩, Zn ho L _ _ _ h.2⟩
        · refine place_new.2 fun x hx e => ?_
          obtain ⟨i, hi, rfl⟩ := List.mem_take_iff_getElem.1 hx
          have := ho.pv.one i v (by omega) hv e
          omega
        · have := ho.nv
          show (m.vars.take v).length ≠ 32
          rw [List.length_take]
          omega
        · unfold part
          simp only [List.take_succ_eq_append_getElem hv]
      · rw [dif_neg hv] at h
        cases h
    · rw [if_neg h1] at h
      by_cases h2 : ws.headD [] = wMin
      · rw [if_pos h2] at h
        simp only [Bool.and_eq_true, decide_eq_true_eq, Bool.not_eq_true'] at h
        obtain ⟨hg, hh, ⟨e1, e2⟩, hd⟩ := h
        subst hg
        have hf := far_lt.1 e2
        obtain ⟨g1, g2, g3⟩ := ho.goal hh
        have hin : ∀ a ∈ m.goal, a.2 < (v : Int) := fun a ha => hf _ (List.mem_map.2 ⟨a, ha, rfl⟩)
        refine ⟨part m v c true, .inr (.inr ⟨m.goal, ?_, ⟨g1, g2, fun a ha => ⟨(g3 a ha).1, KB (g3 a ha).2 (hin a ha)⟩⟩, rfl, rfl⟩), Zn ho L _ _ _ hd⟩
        rw [e1]
        unfold xV
        rw [X8 (V := m.vars) (V' := m.vars.take v) fun a ha => (Zm (g3 a ha).2 (hin a ha)).symm]
        rfl
      · rw [if_neg h2] at h
        by_cases hc : c < m.cons.length
        · rw [dif_pos hc, Bool.and_eq_true, decide_eq_true_eq] at h
          obtain ⟨⟨e1, e2⟩, hd⟩ := h
          have hf := far_lt.1 e2
          have hfa := ho.con _ (List.getElem_mem hc)
          have hin := (Yv hfa).1
          refine ⟨part m v (c + 1) g, .inr (.inl ⟨m.cons[c], ?_, Kn hfa fun x hx => KB (hin x hx) (hf x hx), ?_, ?_⟩), Zn ho L _ _ _ hd⟩
          · rw [e1]
            unfold conW
            rw [Ko (V := m.vars) (V' := m.vars.take v) fun x hx => (Zm (hin x hx) (hf x hx)).symm]
            rfl
          · have := ho.nc
            show (m.cons.take c).length ≠ 64
            rw [List.length_take]
            omega
          · unfold part
            simp only [List.take_succ_eq_append_getElem hc]
        · rw [dif_neg hc] at h
          cases h
theorem KD : ∀ (L : List (List (List UInt8))) (m m' : Mo), Ders m L m' → m.vars <+: m'.vars ∧ m.cons <+: m'.cons ∧ (m.has = true → m'.has = true ∧ m'.goal = m.goal)
  | [], m, m', h => by cases h; exact ⟨List.prefix_rfl, List.prefix_rfl, fun h => ⟨h, rfl⟩⟩
  | ws :: L, m, m', ⟨m1, ha, hd⟩ => by
    obtain ⟨h1, h2, h3⟩ := KD L m1 m' hd
    rcases ha with ⟨v, _, _, _, rfl⟩ | ⟨c, _, _, _, rfl⟩ | ⟨t, _, _, hn, rfl⟩
    · exact ⟨(List.prefix_append _ _).trans h1, h2, h3⟩
    · exact ⟨h1, (List.prefix_append _ _).trans h2, h3⟩
    · exact ⟨h1, h2, fun h => by rw [hn] at h; cases h⟩
theorem KE {α : Type} {l : List α} {k : Nat} {a : α} (h : l.take k ++ [a] <+: l) (hk : k ≤ l.length) : ∃ h : k < l.length, l[k] = a ∧ l.take k ++ [a] = l.take (k + 1) := by
  have hl := h.length_le
  simp only [List.length_append, List.length_take, List.length_singleton] at hl
  have hk2 : k < l.length := by omega
  have e := List.prefix_iff_eq_take.1 h
  have hlen : (l.take k ++ [a]).length = k + 1 := by simp; omega
  rw [hlen, List.take_succ_eq_append_getElem hk2] at e
  have e2 := List.append_cancel_left e
  injection e2 with e3 _
  exact ⟨hk2, e3.symm, by rw [e3, List.take_succ_eq_append_getElem hk2]⟩
theorem Zo {m : Mo} (ho : OkM m) : ∀ (L : List (List (List UInt8))) (v c : Nat) (g : Bool), v ≤ m.vars.length → c ≤ m.cons.length → Ders (part m v c g) L m → zz m L v c g = true
  | [], v, c, g, hv, hc, h => by
    have h' : part m v c g = m := h
    have e1 : m.vars.take v = m.vars := congrArg Mo.vars h'
    have e2 : m.cons.take c = m.cons := congrArg Mo.cons h'
    have e3 : g = m.has := congrArg Mo.has h'
    have l1 := congrArg List.length e1
    have l2 := congrArg List.length e2
    rw [List.length_take] at l1 l2
    simp only [zz, Bool.and_eq_true, decide_eq_true_eq, beq_iff_eq]
    exact ⟨⟨by omega, by omega⟩, e3⟩
  | ws :: L, v, c, g, hv, hc, ⟨m1, ha, hd⟩ => by
    obtain ⟨x1, x2, x3⟩ := KD L m1 m hd
    unfold zz
    rcases ha with ⟨w, e, _, _, rfl⟩ | ⟨d, e, hd2, _, rfl⟩ | ⟨t, e, ht, hn, rfl⟩
    · obtain ⟨hv2, e1, e2⟩ := KE x1 hv
      rw [if_pos (by rw [e]; rfl), dif_pos hv2, Bool.and_eq_true, decide_eq_true_eq]
      refine ⟨by rw [e, e1]; rfl, Zo ho L (v + 1) c g (by omega) hc ?_⟩
      have : part m (v + 1) c g = { part m v c g with vars := (part m v c g).vars ++ [w] } := by
        unfold part
        simp only [e2]
      rw [this]
      exact hd
    · obtain ⟨hc2, e1, e2⟩ := KE x2 hc
      obtain ⟨k1, k2⟩ := Ka (Yw hd2)
      have hh : ws.headD [] = wordT d.kind := by rw [e]; rfl
      rw [if_neg (by rw [hh]; exact k1), if_neg (by rw [hh]; exact k2), dif_pos hc2, Bool.and_eq_true, decide_eq_true_eq]
      have hin := (Yv hd2).1
      have hin' : ∀ x ∈ ze d, inV m.vars x ∧ x < (v : Int) := fun x hx => KC (hin x hx)
      refine ⟨⟨?_, ?_⟩, Zo ho L v (c + 1) g hv (by omega) ?_⟩
      · rw [e, e1]
        unfold conW
        rw [Ko (V := m.vars) (V' := m.vars.take v) fun x hx => (Zm (hin' x hx).1 (hin' x hx).2).symm]
        rfl
      · rw [e1]
        exact far_lt.2 fun x hx => (hin' x hx).2
      · have : part m v (c + 1) g = { part m v c g with cons := (part m v c g).cons ++ [d] } := by
          unfold part
          simp only [e2]
        rw [this]
        exact hd
    · have hg : g = false := hn
      subst hg
      obtain ⟨y1, y2⟩ := x3 rfl
      have y2' : m.goal = t := y2
      subst y2'
      rw [if_neg (by rw [e]; exact Kc), if_pos (by rw [e]; rfl)]
      have hin : ∀ a ∈ m.goal, inV m.vars a.2 ∧ a.2 < (v : Int) := fun a ha => KC (ht.2.2 a ha).2
      simp only [Bool.and_eq_true, decide_eq_true_eq, Bool.not_false]
      refine ⟨trivial, y1, ⟨?_, ?_⟩, Zo ho L v c true hv hc ?_⟩
      · rw [e]
        unfold xV
        rw [X8 (V := m.vars) (V' := m.vars.take v) fun a ha => (Zm (hin a ha).1 (hin a ha).2).symm]
        rfl
      · refine far_lt.2 fun x hx => ?_
        obtain ⟨a, ha, rfl⟩ := List.mem_map.1 hx
        exact (hin a ha).2
      · have : part m v c true = { part m v c false with has := true, goal := m.goal } := rfl
        rw [this]
        exact hd
theorem der_iff {s : List UInt8} {m : Mo} : derT s m = true ↔ yD s = (m, (0, 0)) := by
  rw [y5g]
  unfold derT
  rw [Bool.and_eq_true, Bool.and_eq_true, decide_eq_true_eq, decide_eq_true_eq]
  constructor
  · rintro ⟨h1, h2, h3⟩
    obtain ⟨ho, hv⟩ := Kb h1
    exact ⟨h2, Zn ho _ 0 0 false h3, hv⟩
  · rintro ⟨h2, h3, hv⟩
    have ho := Kr _ _ _ h3 y55
    exact ⟨y56 ho hv, h2, Zo ho _ 0 0 false (Nat.zero_le _) (Nat.zero_le _) h3⟩
theorem y5h {s : List UInt8} {m : Mo} (h : yD s = (m, (0, 0))) : (check m).2 = 0 := by
  have := der_iff.2 h
  unfold derT at this
  rw [Bool.and_eq_true, decide_eq_true_eq] at this
  exact this.1
end Go.Proofs.YthohnmplbjhjaaaGreatDoor

namespace Go.Proofs.YthohnmplbjhjaaaGreatDoor
open Md Go.Lib
def Gw (x : List UInt8) : Prop := x ≠ [] ∧ ∀ c ∈ x, blk c = false ∧ c ≠ 10
theorem X1 : ∀ (x t cur : List UInt8), (∀ c ∈ x, blk c = false ∧ c ≠ 10) → wd (x ++ t) cur = wd t (cur ++ x)
  | [], t, cur, _ => by simp
  | c :: x, t, cur, h => by
    have h1 := (h c (by simp)).1
    show (if blk c = true then _ else wd (x ++ t) (cur ++ [c])) = _
    rw [if_neg (by simp [h1]), X1 x t _ (fun d hd => h d (by simp [hd]))]
    simp
def jn (ws : List (List UInt8)) : List UInt8 := ws.flatMap fun w => 32 :: w
theorem X2 : ∀ (ws : List (List UInt8)) (w : List UInt8), Gw w → (∀ x ∈ ws, Gw x) → words (w ++ jn ws) = w :: ws
  | [], w, h, _ => by
    show wd (w ++ []) [] = _
    rw [X1 w [] [] h.2]
    simp [wd, h.1]
  | x :: ws, w, h, hs => by
    show wd (w ++ (32 :: x ++ jn ws)) [] = _
    rw [X1 w _ [] h.2]
    have hb : blk 32 = true := rfl
    have := X2 ws x (hs x (by simp)) (fun y hy => hs y (by simp [hy]))
    simp only [List.nil_append, List.cons_append, wd, hb, if_true, if_neg h.1]
    rw [show wd (x ++ jn ws) [] = words (x ++ jn ws) from rfl, this]
theorem YN (a b : List (List UInt8)) : jn (a ++ b) = jn a ++ jn b := by unfold jn; rw [List.flatMap_append]
theorem zG (a : List UInt8) (b : List (List UInt8)) : jn (a :: b) = 32 :: a ++ jn b := by unfold jn; rw [List.flatMap_cons]
theorem X3 (V : List Vr) (l : List Int) : jn (nmsW V l) = namesT V l := by
  induction l with
  | nil => rfl
  | cons a l ih => unfold nmsW at *; rw [List.flatMap_cons, YN, ih]; simp [jn, namesT]
theorem y4P (l : List Int) : jn (numW l) = numsT l := by
  induction l with
  | nil => rfl
  | cons a l ih => unfold numW at *; rw [List.flatMap_cons, YN, ih]; simp [jn, numsT]
theorem y4Q (l : List Int) : jn (l.map itoa) = numsT l := by
  induction l with
  | nil => rfl
  | cons a l ih => rw [List.map_cons, zG, ih]; simp [numsT]
theorem X4 (V : List Vr) (t : List (Int × Int)) : jn (sumW V t) = sumT V t := by
  induction t with
  | nil => rfl
  | cons a l ih => unfold sumW at *; rw [List.flatMap_cons, YN, ih]; simp [jn, sumT]
theorem y4R (V : List Vr) (l : List Int) : jn (l.map (nm V)) = namesT V l := by
  induction l with
  | nil => rfl
  | cons a l ih => rw [List.map_cons, zG, ih]; simp [namesT]
theorem y4S (r : List (List Int)) : jn (r.flatMap rowW) = rowsT r := by
  induction r with
  | nil => rfl
  | cons a l ih =>
    rw [List.flatMap_cons, YN, ih]
    unfold rowW
    rw [zG, y4Q]
    simp [rowsT]
theorem y4T (V : List Vr) (c : Cn) : jn (conR V c) = restT V c := by
  unfold conR restT
  split
  · rw [zG, zG, X4]
  split
  · rw [zG, zG, zG]; simp [jn]
  split
  · exact X3 V _
  split
  · rw [zG, zG, y4P]
  split
  · rw [zG, X3]
  split
  · rw [zG, zG, zG, X4]; simp
  split
  · rw [YN, y4R, y4S]
  · rw [zG, zG, zG, X3]
theorem K5 {c : UInt8} (h : digT c = true) : blk c = false ∧ c ≠ 10 := by
  have hc : 48 ≤ c.toNat ∧ c.toNat ≤ 57 := by simpa [digT] using h
  have hne : ∀ k : UInt8, k.toNat < 48 → c ≠ k := fun k hk e => by subst e; omega
  have h1 := hne 32 (by decide)
  have h2 := hne 9 (by decide)
  exact ⟨by simp [blk, h1, h2], hne 10 (by decide)⟩
theorem xu (n : Int) : Gw (itoa n) := by
  unfold itoa
  split
  · obtain ⟨h1, _, h3, _⟩ := Zi n.natAbs
    refine ⟨by simp, fun c hc => ?_⟩
    rcases List.mem_cons.1 hc with e | e
    · rw [e]; exact ⟨by decide, by decide⟩
    · exact K5 (List.all_eq_true.1 h1 c e)
  · obtain ⟨h1, _, h3, _⟩ := Zi n.toNat
    exact ⟨h3, fun c hc => K5 (List.all_eq_true.1 h1 c hc)⟩
theorem Yu {s : List UInt8} (h : nameB s = true) : Gw s := by
  unfold nameB at h
  rw [Bool.and_eq_true, Bool.and_eq_true, decide_eq_true_eq] at h
  refine ⟨fun e => by have := h.1.1; rw [e] at this; simp at this, fun c hc => ?_⟩
  have h1 := List.all_eq_true.1 h.2 c hc
  have hn : ∀ k : UInt8, wordB k = false → c ≠ k := fun k hk e => by rw [e, hk] at h1; cases h1
  have h2 := hn 32 (by decide)
  have h3 := hn 9 (by decide)
  exact ⟨by simp [blk, h2, h3], hn 10 (by decide)⟩
theorem K6 {o : Int} (h : 1 ≤ o ∧ o ≤ 3) : Gw (opT o) := by
  rcases (by omega : o = 1 ∨ o = 2 ∨ o = 3) with rfl | rfl | rfl <;> exact ⟨by decide, by decide⟩
theorem y4U {k : Int} (h : 1 ≤ k ∧ k ≤ 9) : Gw (wordT k) ∧ (wordT k).headD 0 ≠ 35 := by
  rcases (by omega : k = 1 ∨ k = 2 ∨ k = 3 ∨ k = 4 ∨ k = 5 ∨ k = 6 ∨ k = 7 ∨ k = 8 ∨ k = 9) with rfl | rfl | rfl | rfl | rfl | rfl | rfl | rfl | rfl <;> exact ⟨⟨by decide, by decide⟩, by decide⟩
theorem y4V {V : List Vr} (hV : PV V) {l : List Int} (h : ∀ x ∈ l, inV V x) : ∀ w ∈ nmsW V l, Gw w := fun w hw => by
  obtain ⟨x, hx, e⟩ := List.mem_flatMap.1 hw
  rw [List.mem_singleton.1 e]
  exact Yu (Y9 hV (h x hx))
theorem K7 {V : List Vr} (hV : PV V) {t : List (Int × Int)} (h : ∀ a ∈ t, inV V a.2) : ∀ w ∈ sumW V t, Gw w := fun w hw => by
  obtain ⟨x, hx, e⟩ := List.mem_flatMap.1 hw
  rcases List.mem_cons.1 e with e | e
  · rw [e]; exact xu _
  · rw [List.mem_singleton.1 e]; exact Yu (Y9 hV (h x hx))
theorem y4W {V : List Vr} (hV : PV V) {c : Cn} (h : fault c (V.length : Int) = 0) : ∀ w ∈ conR V c, Gw w := by
  obtain ⟨hin, _⟩ := Yv h
  have ht : ∀ w ∈ sumW V c.terms, Gw w := K7 hV fun a ha => hin _ (by unfold ze; simp only [List.mem_append, List.mem_map]; exact .inr (.inr (.inl ⟨a, ha, rfl⟩)))
  have hxs : ∀ x ∈ c.xs, inV V x := fun x hx => hin _ (by unfold ze; simp only [List.mem_append]; exact .inr (.inr (.inr hx)))
  have hx : ∀ w ∈ nmsW V c.xs, Gw w := y4V hV hxs
  have h1 : fX c.kind = true → Gw (nm V c.x) := fun e => Yu (Y9 hV (hin _ (by unfold ze; rw [if_pos e]; simp)))
  have h2 : fY c.kind = true → Gw (nm V c.y) := fun e => Yu (Y9 hV (hin _ (by unfold ze; rw [if_pos e]; simp)))
  have ho : fOp c.kind = true → 1 ≤ c.op ∧ c.op ≤ 3 := (fit_of h).op
  have cons : ∀ {a : List UInt8} {l : List (List UInt8)}, Gw a → (∀ w ∈ l, Gw w) → ∀ w ∈ a :: l, Gw w := fun ha hl w hw => by
    rcases List.mem_cons.1 hw with e | e
    · rw [e]; exact ha
    · exact hl w e
  have nil : ∀ w ∈ ([] : List (List UInt8)), Gw w := fun w hw => by cases hw
  obtain ⟨k1, k2⟩ := Yw h
  unfold conR
  split
  · rename_i k; exact cons (K6 (ho (by rw [k]; rfl))) (cons (xu _) ht)
  split
  · rename_i k; exact cons (h1 (by rw [k]; rfl)) (cons (h2 (by rw [k]; rfl)) (cons (xu _) nil))
  split
  · exact hx
  split
  · rename_i k
    refine cons (h1 (by rw [k]; rfl)) (cons (h2 (by rw [k]; rfl)) fun w hw => ?_)
    obtain ⟨n, _, e⟩ := List.mem_flatMap.1 hw
    rw [List.mem_singleton.1 e]
    exact xu _
  split
  · rename_i k; exact cons (h2 (by rcases k with k | k <;> (rw [k]; rfl))) hx
  split
  · rename_i k; exact cons (h1 (by rw [k]; rfl)) (cons ⟨by decide, by decide⟩ (cons (xu _) ht))
  split
  · intro w hw
    rcases List.mem_append.1 hw with e | e
    · obtain ⟨x, hx, rfl⟩ := List.mem_map.1 e
      exact Yu (Y9 hV (hxs x hx))
    · obtain ⟨r, _, e⟩ := List.mem_flatMap.1 e
      rcases List.mem_cons.1 e with e | e
      · rw [e]; exact ⟨by decide, by decide⟩
      · obtain ⟨n, _, rfl⟩ := List.mem_map.1 e
        exact xu n
  · rename_i a1 a2 a3 a4 a5 a6 a7
    have : c.kind = 9 := by omega
    exact cons (K6 (ho (by rw [this]; rfl))) (cons (xu _) (cons (xu _) hx))
theorem X5 {w : List UInt8} {ws : List (List UInt8)} (hw : Gw w) (hs : ∀ x ∈ ws, Gw x) (h35 : w.headD 0 ≠ 35) (t : List UInt8) : zy (yv ((w ++ jn ws) ++ [10] ++ t) []) = (w :: ws) :: zy (yv t []) := by
  have hn : ∀ c ∈ w ++ jn ws, c ≠ 10 := by
    intro c hc
    rcases List.mem_append.1 hc with h | h
    · exact (hw.2 c h).2
    · obtain ⟨x, hx, e⟩ := List.mem_flatMap.1 h
      rcases List.mem_cons.1 e with e | e
      · rw [e]; decide
      · exact ((hs x hx).2 c e).2
  rw [List.append_assoc, QY _ _ _ hn, List.nil_append, show [10] ++ t = 10 :: t from rfl, y4N]
  have hm : mute (words (w ++ jn ws)) = false := by
    rw [X2 ws w hw hs]
    simpa [mute] using h35
  unfold zy
  rw [List.map_cons, List.filter_cons, if_pos (by rw [hm]; rfl), X2 ws w hw hs]
theorem K8 : ∀ (vs : List Vr) (t : List UInt8), (∀ v ∈ vs, nameB v.name.data.toList = true) → zy (yv (varsT vs ++ t) []) = vs.map varW ++ zy (yv t [])
  | [], t, _ => by simp [varsT]
  | v :: vs, t, h => by
    have e : varsT (v :: vs) ++ t = (wVar ++ jn [v.name.data.toList, itoa v.lo, itoa v.hi]) ++ [10] ++ (varsT vs ++ t) := by
      simp [varsT, varT, jn]
    rw [e, X5 ⟨by decide, by decide⟩ (fun x hx => ?_) (by decide), K8 vs t (fun y hy => h y (by simp [hy]))]
    · rfl
    · simp only [List.mem_cons, List.not_mem_nil, or_false] at hx
      rcases hx with rfl | rfl | rfl
      · exact Yu (h v (by simp))
      · exact xu _
      · exact xu _
theorem K9 {V : List Vr} (hV : PV V) : ∀ (cs : List Cn) (t : List UInt8), (∀ c ∈ cs, fault c (V.length : Int) = 0) → zy (yv (consT V cs ++ t) []) = cs.map (conW V) ++ zy (yv t [])
  | [], t, _ => by simp [consT]
  | c :: cs, t, h => by
    have hc := h c (by simp)
    have e : consT V (c :: cs) ++ t = (wordT c.kind ++ jn (conR V c)) ++ [10] ++ (consT V cs ++ t) := by
      rw [y4T]
      simp [consT, conT]
    obtain ⟨g1, g2⟩ := y4U (Yw hc)
    rw [e, X5 g1 (y4W hV hc) g2, K9 hV cs t (fun y hy => h y (by simp [hy]))]
    rfl
theorem y4X {m : Mo} (ho : OkM m) : zy (yv (goalT m) []) = if m.has = true then [xV m] else [] := by
  unfold goalT
  split
  · rename_i hh
    obtain ⟨_, _, g3⟩ := ho.goal hh
    have e : 109 :: 105 :: 110 :: 105 :: 109 :: 105 :: 122 :: 101 :: (sumT m.vars m.goal ++ [10]) = (wMin ++ jn (sumW m.vars m.goal)) ++ [10] ++ [] := by rw [X4]; simp
    rw [e, X5 ⟨by decide, by decide⟩ (K7 ho.pv fun a ha => (g3 a ha).2) (by decide)]
    rfl
  · rfl
theorem y4Y {m : Mo} (L : List (List (List UInt8))) : ∀ (k : Nat), k ≤ m.vars.length → zz m ((m.vars.drop k).map varW ++ L) k 0 false = zz m L m.vars.length 0 false := fun k hk => by
  obtain ⟨n, hn⟩ : ∃ n, m.vars.length - k = n := ⟨_, rfl⟩
  induction n generalizing k with
  | zero =>
    have : k = m.vars.length := by omega
    subst this
    simp
  | succ n ih =>
    have hlt : k < m.vars.length := by omega
    rw [List.drop_eq_getElem_cons hlt]
    show (if wVar = wVar then (if h : k < m.vars.length then decide (varW m.vars[k] = varW m.vars[k]) && zz m ((m.vars.drop (k + 1)).map varW ++ L) (k + 1) 0 false else false) else _) = _
    rw [if_pos rfl, dif_pos hlt, ih (k + 1) (by omega) (by omega)]
    simp
theorem y4Z {m : Mo} (ho : OkM m) (L : List (List (List UInt8))) : ∀ (k : Nat), k ≤ m.cons.length → zz m ((m.cons.drop k).map (conW m.vars) ++ L) m.vars.length k false = zz m L m.vars.length m.cons.length false := fun k hk => by
  obtain ⟨n, hn⟩ : ∃ n, m.cons.length - k = n := ⟨_, rfl⟩
  induction n generalizing k with
  | zero =>
    have : k = m.cons.length := by omega
    subst this
    simp
  | succ n ih =>
    have hlt : k < m.cons.length := by omega
    have hf := ho.con _ (List.getElem_mem hlt)
    obtain ⟨w1, w2⟩ := Ka (Yw hf)
    have hfar : xW (ze m.cons[k]) < (m.vars.length : Int) := far_lt.2 fun x hx => ((Yv hf).1 x hx).2
    rw [List.drop_eq_getElem_cons hlt]
    show (if wordT m.cons[k].kind = wVar then _ else if wordT m.cons[k].kind = wMin then _ else (if h : k < m.cons.length then decide (conW m.vars m.cons[k] = conW m.vars m.cons[k] ∧ xW (ze m.cons[k]) < (m.vars.length : Int)) && zz m ((m.cons.drop (k + 1)).map (conW m.vars) ++ L) m.vars.length (k + 1) false else false)) = _
    rw [if_neg w1, if_neg w2, dif_pos hlt, ih (k + 1) (by omega) (by omega), decide_eq_true ⟨rfl, hfar⟩]
    rfl
theorem y50 {m : Mo} (h : (check m).2 = 0) (hl : (textT m).length ≤ 65536) : yD (textT m) = (m, (0, 0)) := by
  obtain ⟨ho, _⟩ := Kb h
  rw [← der_iff]
  unfold derT
  rw [decide_eq_true h, decide_eq_true hl, Bool.true_and, Bool.true_and]
  unfold textT
  rw [List.append_assoc, K8 _ _ ho.pv.ok, K9 ho.pv _ _ ho.con, y4X ho]
  have h1 := y4Y (m := m) (m.cons.map (conW m.vars) ++ if m.has = true then [xV m] else []) 0 (Nat.zero_le _)
  rw [List.drop_zero] at h1
  rw [h1]
  have h2 := y4Z ho (if m.has = true then [xV m] else []) 0 (Nat.zero_le _)
  rw [List.drop_zero] at h2
  rw [h2]
  cases hh : m.has
  · simp [zz, hh]
  · obtain ⟨_, _, g3⟩ := ho.goal hh
    have hfar : xW (m.goal.map (·.2)) < (m.vars.length : Int) := far_lt.2 fun x hx => by
      obtain ⟨a, ha, rfl⟩ := List.mem_map.1 hx
      exact (g3 a ha).2.2
    show (if wMin = wVar then _ else if wMin = wMin then !false && (m.has && (decide (xV m = xV m ∧ xW (m.goal.map (·.2)) < (m.vars.length : Int)) && zz m [] m.vars.length m.cons.length true)) else _) = true
    rw [if_neg Kc, if_pos rfl, decide_eq_true ⟨rfl, hfar⟩, hh]
    simp [zz, hh]
end Go.Proofs.YthohnmplbjhjaaaGreatDoor
