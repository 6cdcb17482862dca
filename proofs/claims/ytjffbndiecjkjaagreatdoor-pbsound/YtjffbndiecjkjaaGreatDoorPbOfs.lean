/-
  Put together: PbOf, PbClause, PbPlain.
-/
import Derived.Test.YtjffbndiecjkjaaGreatDoorPbFormed
import Derived.Test.YtjffbndiecjkjaaGreatDoorPbSortAny
import Derived.Test.YtjffbndiecjkjaaGreatDoorParse
import Derived.Test.YtjffbndiecjkjaaGreatDoorIsBig
namespace Go.Proofs.YtjffbndiecjkjaaGreatDoor
open Go.Shelf Go.RowKit Go.Lib Go.Sort
open Bn (limbs)

/-- Pieces as they were written, in memory. -/
def ApAt (w : World) (v : Value) (ls : List (ByteArray × Int)) : Prop := ∃ a c, v = .slice a ls.length c ∧ ls.length ≤ c ∧ c ≤ maxLen ∧
  ∀ k (h : k < ls.length), ∃ b off, a = some ⟨b, off, none⟩ ∧ b < w.heap.size ∧ w.cell? ⟨b, off + k * 2, none⟩ = some (.string ls[k].1) ∧ w.cell? ⟨b, off + k * 2 + 1, none⟩ = some (.int .i64 ls[k].2)
theorem ApAt.below {w w' : World} {v : Value} {ls : List (ByteArray × Int)} (h : ApAt w v ls) (hb : RowKit.Below w.heap.size w w') : ApAt w' v ls := by
  obtain ⟨a, c, hv, h1, h2, h3⟩ := h
  refine ⟨a, c, hv, h1, h2, fun k hk => ?_⟩
  obtain ⟨b, off, ha, hlt, c0, c1⟩ := h3 k hk
  exact ⟨b, off, ha, Nat.lt_of_lt_of_le hlt hb.size, (hb.cell (p := ⟨b, _, none⟩) hlt).trans c0, (hb.cell (p := ⟨b, _, none⟩) hlt).trans c1⟩

/-- The number of the first fault of pieces; 0: none. -/
def ofE : List (ByteArray × Int) → Int
  | [] => 0
  | p :: t => if (parseZ p.1.data.toList).isSome then (if IsLit p.2 then ofE t else 21) else 20
def ofPs (ls : List (ByteArray × Int)) : List (Int × Int) := ls.map fun p => ((parseZ p.1.data.toList).getD 0, p.2)
def ofErr (ls : List (ByteArray × Int)) (d : ByteArray) : Int := if ofE ls = 0 then (if (parseZ d.data.toList).isSome then 0 else 20) else ofE ls
theorem ofE_append (a b : List (ByteArray × Int)) (h : ofE a = 0) : ofE (a ++ b) = ofE b := by
  induction a with
  | nil => rfl
  | cons p t ih =>
    simp only [List.cons_append, ofE] at *
    split at h
    · split at h
      · rename_i h1 h2; rw [if_pos h1, if_pos h2]; exact ih h
      · exact absurd h (by decide)
    · exact absurd h (by decide)
theorem ofE_lits {ls : List (ByteArray × Int)} (h : ofE ls = 0) : ∀ p ∈ ofPs ls, IsLit p.2 := by
  induction ls with
  | nil => intro p hp; cases hp
  | cons q t ih =>
    simp only [ofE] at h
    split at h
    · split at h
      · rename_i h1 h2
        intro p hp
        simp only [ofPs, List.map_cons, List.mem_cons] at hp
        rcases hp with rfl | hp
        · exact h2
        · exact ih h p hp
      · exact absurd h (by decide)
    · exact absurd h (by decide)
theorem ofE_at {ls : List (ByteArray × Int)} {k : Nat} (hk : k < ls.length) (h0 : ofE (ls.take k) = 0) : ofE ls = ofE (ls[k] :: ls.drop (k + 1)) := by
  conv => lhs; rw [← List.take_append_drop k ls, List.drop_eq_getElem_cons hk]
  exact ofE_append _ _ h0
theorem ofE_bad {ls : List (ByteArray × Int)} {k : Nat} {p : ByteArray × Int} (hk : k < ls.length) (hp : ls[k] = p) (h0 : ofE (ls.take k) = 0) (hz : (parseZ p.1.data.toList).isSome = false) : ofE ls = 20 := by
  rw [ofE_at hk h0, hp]; simp [ofE, hz]
theorem ofE_nolit {ls : List (ByteArray × Int)} {k : Nat} {p : ByteArray × Int} (hk : k < ls.length) (hp : ls[k] = p) (h0 : ofE (ls.take k) = 0) (hz : (parseZ p.1.data.toList).isSome = true) (hl : ¬ IsLit p.2) : ofE ls = 21 := by
  rw [ofE_at hk h0, hp]; simp only [ofE, hz, if_true, if_neg hl]
theorem ofE_next {ls : List (ByteArray × Int)} {k : Nat} {p : ByteArray × Int} (hk : k < ls.length) (hp : ls[k] = p) (h0 : ofE (ls.take k) = 0) (hz : (parseZ p.1.data.toList).isSome = true) (hl : IsLit p.2) : ofE (ls.take (k + 1)) = 0 := by
  rw [List.take_succ_eq_append_getElem hk, ofE_append _ _ h0, hp]; simp only [ofE, hz, if_true, if_pos hl]
theorem ofPs_next {ls : List (ByteArray × Int)} {k : Nat} {p : ByteArray × Int} (hk : k < ls.length) (hp : ls[k] = p) : ofPs (ls.take (k + 1)) = ofPs (ls.take k) ++ [((parseZ p.1.data.toList).getD 0, p.2)] := by
  rw [List.take_succ_eq_append_getElem hk, hp]; simp [ofPs]

/-- What Of makes on its way. -/
structure OfAt (w : World) (pv : Value) (deg : ByteArray) (N : Nat) (L : List PcV) (K : List (Int × Int)) (wr : World) : Prop where
  arg : wr.heap[w.heap.size]? = some (.cells #[pv, .string deg] 24)
  res : Box0 wr (w.heap.size + 1)
  put : PutAt wr (w.heap.size + 1 + 1) N L K
  rest : RowKit.Below w.heap.size w wr
theorem OfAt.below {w : World} {pv : Value} {deg : ByteArray} {N : Nat} {L : List PcV} {K : List (Int × Int)} {wr w' : World} (h : OfAt w pv deg N L K wr) (hb : RowKit.Below wr.heap.size wr w') : OfAt w pv deg N L K w' :=
  ⟨(hb.block _ (Array.getElem?_eq_some_iff.1 h.arg).1).trans h.arg, h.res.below hb, h.put.below hb, h.rest.trans (hb.mono h.rest.size)⟩
theorem OfAt.next {w : World} {pv : Value} {deg : ByteArray} {N k : Nat} {L : List PcV} {K : List (Int × Int)} {wr : World} {n : Int} {q : Option Addr} {l : Int} {p : Int × Int} (h : OfAt w pv deg N L K wr) (hp : Say wr (n, q, l) p) (hk : L.length = k) (hlt : k < N) :
    OfAt w pv deg N (L ++ [(n, q, l)]) (K ++ [p]) (set3 wr (w.heap.size + 1 + 1) (k * 3) (.int .i64 n) (.pointer q) (.int .i64 l)) := by
  have hg := grown_set3 wr (w.heap.size + 1 + 1) (k * 3) (.int .i64 n) (.pointer q) (.int .i64 l)
  refine ⟨(hg.block _ (Array.getElem?_eq_some_iff.1 h.arg).1 (by simp; omega)).trans h.arg, (hg.block _ (Array.getElem?_eq_some_iff.1 h.res).1 (by simp)).trans h.res, (h.put.put hp hk hlt).1, ?_⟩
  exact ((h.rest.setCell (p := ⟨w.heap.size + 1 + 1, _, none⟩) (by simp only; omega) _).setCell (p := ⟨w.heap.size + 1 + 1, _, none⟩) (by simp only; omega) _).setCell (p := ⟨w.heap.size + 1 + 1, _, none⟩) (by simp only; omega) _
theorem three_objs (w : World) (o1 o2 o3 : Obj) {W : World} (hW : ((w.alloc o1).alloc o2).alloc o3 = W) :
    W.heap[w.heap.size]? = some o1 ∧ W.heap[w.heap.size + 1]? = some o2 ∧ W.heap[w.heap.size + 1 + 1]? = some o3 ∧ RowKit.Below w.heap.size w W ∧ W.heap.size = w.heap.size + 3 := by
  obtain ⟨V, hV⟩ : ∃ V, (w.alloc o1).alloc o2 = V := ⟨_, rfl⟩
  obtain ⟨h1, h2, hb, hz⟩ := two_objs w o1 o2 hV
  rw [hV] at hW
  subst hW
  refine ⟨?_, ?_, ?_, hb.alloc hb.size _, by simp [hz]⟩
  · rw [Below.heap_alloc _ _ _ (by omega)]; exact h1
  · rw [Below.heap_alloc _ _ _ (by omega)]; exact h2
  · have := World.alloc_heap_new V o3
    rw [hz] at this; exact this
theorem new_obj (w : World) (o : Obj) {W : World} (hW : w.alloc o = W) : W.heap[w.heap.size]? = some o ∧ RowKit.Below w.heap.size w W := by
  subst hW
  exact ⟨World.alloc_heap_new w _, (Below.refl _ _).alloc (Nat.le_refl _) _⟩
/-- A zero row, laid into the zero box. -/
theorem row_zero {w V : World} {R : Nat} (h : Box0 w R) (hV : ((w.setCell ⟨R, 0, none⟩ (.slice none 0 0)).setCell ⟨R, 1, none⟩ (.int .i64 0)).setCell ⟨R, 2, none⟩ (.pointer none) = V) :
    V.cell? ⟨R, 0, none⟩ = some (.slice none 0 0) ∧ V.cell? ⟨R, 1, none⟩ = some (.int .i64 0) ∧ V.cell? ⟨R, 2, none⟩ = some (.pointer none) ∧ ∀ B a', B ≤ R → RowKit.Below B a' w → RowKit.Below B a' V := by
  obtain ⟨h1, h2, h3, _, h5⟩ := row_ret h (K := []) (D := 0) (.inl ⟨rfl, rfl⟩) (.inl ⟨by unfold Fits; omega, rfl⟩) hV
  exact ⟨h1, h2, h3, h5⟩

theorem Pm.absS_perm {a b : List (Int × Int)} (h : a.Perm b) : Pm.absS a = Pm.absS b := by
  induction h with
  | nil => rfl
  | cons p _ ih => simp only [Pm.absS, ih]
  | swap p q l => simp only [Pm.absS]; omega
  | trans _ _ h1 h2 => exact h1.trans h2
/-- Pieces, sorted in place. -/
def SortOut (W : World) (b k : Nat) (ps : List (Int × Int)) (w' : World) : Prop := ∃ L' ps', ps'.Perm ps ∧ Says w' L' ps' ∧ HoldsK encP 3 w' b 0 L'.toArray ∧ Climbs ps' ∧ W.grownBy w' (some b) ∧ L'.length = k
/-- What formed answers. -/
def FormOut (w : World) (ps : List (Int × Int)) (d : Int) (e : Ending) (w' : World) : Prop := ∃ v K D, e = .returned v ∧ Pm.IsForm ps d K D ∧ PbAt w' v K D ∧ (∀ p ∈ K, IsLit p.2) ∧ K.length ≤ ps.length ∧ RowKit.Below w.heap.size w w'
theorem formed_sorted {W w3 : World} {b k : Nat} {ps : List (Int × Int)} {n : Int} {q : Option Addr} {d : Int} (h : SortOut W b k ps w3) (hb : b < W.heap.size) (hD : BigAt w3 (.agg #[.int .i64 n, .pointer q]) d) (hlit : ∀ p ∈ ps, IsLit p.2) (hk : k ≤ 1000000) (hab : (limbs (Pm.absS ps)).length ≤ 900000) (hdl : (limbs d.natAbs).length ≤ 900000) :
    Calls Tryz.prog 38 #[.slice (some ⟨b, 0, none⟩) k k, .agg #[.int .i64 n, .pointer q]] w3 (FormOut w3 ps d) := by
  obtain ⟨L', ps', hp, hS, hH, hc, hg, hl⟩ := h
  have h := formed_any b k L' ps' n q d w3 hH (Nat.lt_of_lt_of_le hb hg.size) hS hc (fun p hp' => hlit p (hp.mem_iff.1 hp')) (by omega) (by omega) hD (by rw [Pm.absS_perm hp]; exact hab) hdl
  rw [hl] at h
  refine h.mono ?_
  rintro e w' ⟨v, K, D, he, hf, hpb, hlt, hlen, hb⟩
  exact ⟨v, K, D, he, hf.perm hp, hpb, hlt, by rw [← hp.length_eq]; exact hlen, hb⟩
theorem sorted_put {W : World} {b k : Nat} {L : List PcV} {ps : List (Int × Int)} (h : PutAt W b k L ps) (hl : L.length = k) (hlit : ∀ p ∈ ps, IsLit p.2) (hk : k ≤ 1000000) :
    Calls Tryz.prog 39 #[.slice (some ⟨b, 0, none⟩) k k] W fun e w' => e = .returned (.slice (some ⟨b, 0, none⟩) k k) ∧ SortOut W b k ps w' := by
  have h := sorted_any b k L ps W h.holds h.1.lt h.1.clean h.2 hlit (by omega)
  rw [hl] at h
  exact h

/-- What Of answers. -/
def OfOut (w : World) (ls : List (ByteArray × Int)) (deg : ByteArray) (e : Ending) (w' : World) : Prop :=
  ∃ r K D, e = .returned (.tuple #[r, .int .i64 (ofErr ls deg)]) ∧ PbAt w' r K D ∧ (∀ p ∈ K, IsLit p.2) ∧ K.length ≤ ls.length ∧ RowKit.Below w.heap.size w w' ∧
    (ofErr ls deg = 0 → Pm.IsForm (ofPs ls) ((parseZ deg.data.toList).getD 0) K D) ∧ (ofErr ls deg ≠ 0 → K = [] ∧ D = 0)

theorem OfOut.bad {w V : World} {ls : List (ByteArray × Int)} {deg : ByteArray} {c : Int} (hE : ofErr ls deg = c) (hc : c ≠ 0) (hb : RowKit.Below w.heap.size w V) : OfOut w ls deg (.returned (.tuple #[.agg #[.slice none 0 0, .int .i64 0, .pointer none], .int .i64 c])) V :=
  ⟨_, [], 0, by rw [hE], PbAt.zero V, (fun _ h => by cases h), Nat.zero_le _, hb, (fun h => absurd (hE.symm.trans h) hc), fun _ => ⟨rfl, rfl⟩⟩

set_option maxRecDepth 100000 in
set_option maxHeartbeats 2000000 in
theorem of_row (ls : List (ByteArray × Int)) (pv : Value) (deg : ByteArray) (w : World) (hA : ApAt w pv ls) (hn : ls.length ≤ 1000000) (hsz : ∀ p ∈ ls, p.1.size ≤ 1000000) (hds : deg.size ≤ 1000000)
    (hab : (limbs (Pm.absS (ofPs ls))).length ≤ 900000) (hdl : (limbs ((parseZ deg.data.toList).getD 0).natAbs).length ≤ 900000) :
    Calls Tryz.prog 10 #[.agg #[pv, .string deg]] w (OfOut w ls deg) := by
  obtain ⟨a, c, rfl, hlc, hcm, hcell⟩ := hA
  obtain ⟨N, hN⟩ : ∃ N : Nat, ls.length = N := ⟨_, rfl⟩
  have HN : Hid (ls.length = N) := hN
  have HC : Hid (∀ k (h : k < ls.length), ∃ b off, a = some ⟨b, off, none⟩ ∧ b < w.heap.size ∧ w.cell? ⟨b, off + k * 2, none⟩ = some (.string ls[k].1) ∧ w.cell? ⟨b, off + k * 2 + 1, none⟩ = some (.int .i64 ls[k].2)) := hcell
  have Hsz : Hid (∀ p ∈ ls, p.1.size ≤ 1000000) := hsz
  have Hab : Hid ((limbs (Pm.absS (ofPs ls))).length ≤ 900000) := hab
  have Hdl : Hid ((limbs ((parseZ deg.data.toList).getD 0).natAbs).length ≤ 900000) := hdl
  have hN6 : N ≤ 1000000 := by omega
  have hmake := makePieces N hN6
  rw [hN] at hlc ⊢
  clear hN hcell hsz hab hdl hn
  go_enter Tryz.func10, Tryz.ntmps10
  go_wp2_with fail
  obtain ⟨W, hW⟩ : ∃ W, ((w.alloc (.cells #[.slice a N c, .string deg] 24)).alloc (.cells #[.slice none 0 0, .int .i64 0, .pointer none] 35)).alloc (.cells (madeCells #[.int .i64 0, .pointer none, .int .i64 0] (N * 3)) 67) = W := ⟨_, rfl⟩
  obtain ⟨hO1, hO2, hO3, hbW, _⟩ := three_objs w _ _ _ hW
  rw [hW]
  have HF0 : Hid (OfAt w (.slice a N c) deg N [] [] W) := ⟨hO1, hO2, PutAt.start hO3, hbW⟩
  clear hW hO1 hO2 hO3 hbW hmake
  go_loopw [18] (fun iv wr => ∃ (k : Nat) (L : List PcV), iv = .int .i64 (k : Int) ∧ k ≤ N ∧ L.length = k ∧ Hid (OfAt w (.slice a N c) deg N L (ofPs (ls.take k)) wr) ∧ Hid (ofE (ls.take k) = 0)) (fun iv _ => N - (intOf iv).toNat)
  case atStart => exact ⟨0, [], rfl, Nat.zero_le _, rfl, HF0, rfl⟩
  case round =>
    obtain ⟨k, L, rfl, hk, hL, hF, hE⟩ := hrel
    have HL : Hid (L.length = k) := hL
    clear HF0 hL
    by_cases hkN : k < N
    · have hkI : (k : Int) < (N : Int) := by omega
      have hkl : k < ls.length := by have := HN.out; omega
      obtain ⟨b, off, ha, hbl, c0, c1⟩ := HC.out k hkl
      have e0 := (hF.out.rest.cell (p := ⟨b, off + k * 2, none⟩) hbl).trans c0
      have e1 := (hF.out.rest.cell (p := ⟨b, off + k * 2 + 1, none⟩) hbl).trans c1
      have hzs := Hsz.out _ (List.getElem_mem hkl)
      obtain ⟨p, hp⟩ : ∃ p, ls[k] = p := ⟨_, rfl⟩
      have Hp : Hid (ls[k] = p) := hp
      rw [hp] at e0 e1 hzs
      obtain ⟨s, l⟩ := p
      simp only at e0 e1 hzs
      subst ha
      obtain ⟨V, hV⟩ : ∃ V, wr.alloc (.cells #[.string s, .int .i64 l] 45) = V := ⟨_, rfl⟩
      obtain ⟨hO, hbV⟩ := new_obj wr _ hV
      have v0 : V.cell? ⟨wr.heap.size, 0, none⟩ = some (.string s) := by simp [World.cell?, hO]
      have v1 : V.cell? ⟨wr.heap.size, 1, none⟩ = some (.int .i64 l) := by simp [World.cell?, hO]
      have HFV : Hid (OfAt w (.slice (some ⟨b, off, none⟩) N c) deg N L (ofPs (ls.take k)) V) := hF.out.below hbV
      have HlV : Hid (wr.heap.size < V.heap.size) := (Array.getElem?_eq_some_iff.1 hO).1
      clear hO hbV c0 c1 hp hF
      go_wp2_with fail
      refine (parse_any s V hzs).mono ?_
      rintro r w1 ⟨rv, rfl, hB1, hb1⟩
      obtain ⟨n, q, rfl⟩ := hB1.shape
      have u0 := (hb1.cell (p := ⟨wr.heap.size, 0, none⟩) HlV.out).trans v0
      have u1 := (hb1.cell (p := ⟨wr.heap.size, 1, none⟩) HlV.out).trans v1
      have HF1 : Hid (OfAt w (.slice (some ⟨b, off, none⟩) N c) deg N L (ofPs (ls.take k)) w1) := HFV.out.below hb1
      have HB1 : Hid (BigAt w1 (.agg #[.int .i64 n, .pointer q]) ((parseZ s.data.toList).getD 0)) := hB1
      have Hl1 : Hid (wr.heap.size < w1.heap.size) := Nat.lt_of_lt_of_le HlV.out hb1.size
      obtain ⟨V2, hV2⟩ : ∃ V, w1.alloc (.cells #[.int .i64 n, .pointer q] 33) = V := ⟨_, rfl⟩
      obtain ⟨hO2, hbV2⟩ := new_obj w1 _ hV2
      have x0 := (hbV2.cell (p := ⟨wr.heap.size, 0, none⟩) Hl1.out).trans u0
      have x1 := (hbV2.cell (p := ⟨wr.heap.size, 1, none⟩) Hl1.out).trans u1
      obtain ⟨y0, y1, y2, y3⟩ := box_facts hO2
      have HF2 : Hid (OfAt w (.slice (some ⟨b, off, none⟩) N c) deg N L (ofPs (ls.take k)) V2) := HF1.out.below hbV2
      have HB2 : Hid (BigAt V2 (.agg #[.int .i64 n, .pointer q]) ((parseZ s.data.toList).getD 0)) := HB1.out.below hbV2
      have HO2 : Hid (V2.heap[w1.heap.size]? = some (.cells #[.int .i64 n, .pointer q] 33)) := hO2
      have HlV2 : Hid (wr.heap.size < V2.heap.size) := Nat.lt_of_lt_of_le Hl1.out hbV2.size
      clear hB1 hb1 hO2 hbV2 HF1 HB1 HFV u0 u1 v0 v1 e0 e1
      by_cases hz : (parseZ s.data.toList).isSome = true
      · have he : errOf (parseZ s.data.toList) = 0 := by cases h : parseZ s.data.toList with | none => rw [h] at hz; cases hz | some z => rfl
        rw [he]
        clear he
        go_wp2_with fail
        refine (isLiteral_any l V2).mono ?_
        rintro r w3 ⟨rfl, hb3⟩
        have HF3 : Hid (OfAt w (.slice (some ⟨b, off, none⟩) N c) deg N L (ofPs (ls.take k)) w3) := HF2.out.below hb3
        by_cases hl : IsLit l
        · have hd : decide (IsLit l) = true := decide_eq_true hl
          rw [hd]
          have HB3 : Hid (BigAt w3 (.agg #[.int .i64 n, .pointer q]) ((parseZ s.data.toList).getD 0)) := HB2.out.below hb3
          have x13 := (hb3.cell (p := ⟨wr.heap.size, 1, none⟩) HlV2.out).trans x1
          have y03 := (hb3.cell (p := ⟨w1.heap.size, 0, none⟩) (Array.getElem?_eq_some_iff.1 HO2.out).1).trans y0
          have y13 := (hb3.cell (p := ⟨w1.heap.size, 1, none⟩) (Array.getElem?_eq_some_iff.1 HO2.out).1).trans y1
          obtain ⟨⟨g0, r0⟩, t0⟩ := HF3.out.put.1.cell (k * 3) (by omega)
          obtain ⟨⟨g1, r1⟩, t1⟩ := HF3.out.put.1.cell (k * 3 + 1) (by omega)
          obtain ⟨⟨g2, r2⟩, t2⟩ := HF3.out.put.1.cell (k * 3 + 2) (by omega)
          have HF4 : Hid (OfAt w (.slice (some ⟨b, off, none⟩) N c) deg N (L ++ [(n, q, l)]) (ofPs (ls.take (k + 1))) (set3 w3 (w.heap.size + 1 + 1) (k * 3) (.int .i64 n) (.pointer q) (.int .i64 l))) := by
            show OfAt _ _ _ _ _ _ _
            rw [ofPs_next hkl Hp.out]
            exact HF3.out.next ⟨HB3.out, rfl⟩ HL.out hkN
          have HE4 : Hid (ofE (ls.take (k + 1)) = 0) := ofE_next hkl Hp.out hE.out hz hl
          clear hd hl hz x0 x1 y0 y1 y2 y3 hb3 HB3 HB2 HF2
          go_wp2_with fail
          go_roundw
          case rel => exact ⟨k + 1, L ++ [(n, q, l)], by go_num, by omega, by rw [List.length_append, HL.out]; rfl, HF4, HE4⟩
          case measure => simp [intOf]; omega
        · have hd : decide (IsLit l) = false := decide_eq_false hl
          rw [hd]
          have HE : Hid (ofErr ls deg = 21) := by have h := ofE_nolit hkl Hp.out hE.out hz hl; show _ = _; unfold ofErr; rw [h]; rfl
          obtain ⟨r0, r1, r2, t0, t1, t2⟩ := HF3.out.res.cells
          clear hd hl hz x0 x1 y0 y1 y2 y3 hb3 HB2 HF2
          go_wp2_with fail
          obtain ⟨X, hX⟩ : ∃ X, ((w3.setCell ⟨w.heap.size + 1, 0, none⟩ (.slice none 0 0)).setCell ⟨w.heap.size + 1, 1, none⟩ (.int .i64 0)).setCell ⟨w.heap.size + 1, 2, none⟩ (.pointer none) = X := ⟨_, rfl⟩
          rw [hX]
          obtain ⟨x0, x1, x2, hbX⟩ := row_zero HF3.out.res hX
          exact bodyPost_ret (by simp [results, Tryz.results10, go_sem, x0, x1, x2]; try rfl) rfl (OfOut.bad HE.out (by decide) (hbX _ _ (Nat.le_succ _) HF3.out.rest))
      · have he : errOf (parseZ s.data.toList) = 10 := by cases h : parseZ s.data.toList with | none => rfl | some z => rw [h] at hz; exact absurd rfl hz
        rw [he]
        have hz' : (parseZ s.data.toList).isSome = false := by simpa using hz
        have HE : Hid (ofErr ls deg = 20) := by have h := ofE_bad hkl Hp.out hE.out hz'; show _ = _; unfold ofErr; rw [h]; rfl
        obtain ⟨r0, r1, r2, t0, t1, t2⟩ := HF2.out.res.cells
        clear he hz hz' x0 x1 y0 y1 y2 y3 HB2
        go_wp2_with fail
        obtain ⟨X, hX⟩ : ∃ X, ((V2.setCell ⟨w.heap.size + 1, 0, none⟩ (.slice none 0 0)).setCell ⟨w.heap.size + 1, 1, none⟩ (.int .i64 0)).setCell ⟨w.heap.size + 1, 2, none⟩ (.pointer none) = X := ⟨_, rfl⟩
        rw [hX]
        obtain ⟨x0, x1, x2, hbX⟩ := row_zero HF2.out.res hX
        exact bodyPost_ret (by simp [results, Tryz.results10, go_sem, x0, x1, x2]; try rfl) rfl (OfOut.bad HE.out (by decide) (hbX _ _ (Nat.le_succ _) HF2.out.rest))
    · obtain rfl : k = N := by omega
      have htake : ls.take k = ls := List.take_of_length_le (by have := HN.out; omega)
      rw [htake] at hF hE
      have hA := hF.out.arg
      have a1 : wr.cell? ⟨w.heap.size, 1, none⟩ = some (.string deg) := by simp [World.cell?, hA]
      clear hA htake HC
      go_wp2_with fail
      refine (parse_any deg wr hds).mono ?_
      rintro r w1 ⟨rv, rfl, hB1, hb1⟩
      obtain ⟨n, q, rfl⟩ := hB1.shape
      obtain ⟨V2, hV2⟩ : ∃ V, w1.alloc (.cells #[.int .i64 n, .pointer q] 33) = V := ⟨_, rfl⟩
      obtain ⟨hO2, hbV2⟩ := new_obj w1 _ hV2
      obtain ⟨y0, y1, y2, y3⟩ := box_facts hO2
      have HF2 : Hid (OfAt w (.slice a k c) deg k L (ofPs ls) V2) := (hF.out.below hb1).below hbV2
      have HB2 : Hid (BigAt V2 (.agg #[.int .i64 n, .pointer q]) ((parseZ deg.data.toList).getD 0)) := hB1.below hbV2
      have HO2 : Hid (V2.heap[w1.heap.size]? = some (.cells #[.int .i64 n, .pointer q] 33)) := hO2
      clear hB1 hb1 hO2 hbV2 hF a1
      by_cases hz : (parseZ deg.data.toList).isSome = true
      · have he : errOf (parseZ deg.data.toList) = 0 := by cases h : parseZ deg.data.toList with | none => rw [h] at hz; cases hz | some z => rfl
        rw [he]
        have HE : Hid (ofErr ls deg = 0) := by show _ = _; unfold ofErr; rw [if_pos hE.out, if_pos hz]
        have hlits := ofE_lits hE.out
        have HSo : Hid (Calls Tryz.prog 39 #[.slice (some ⟨w.heap.size + 1 + 1, 0, none⟩) k k] V2.drew fun e w' => e = .returned (.slice (some ⟨w.heap.size + 1 + 1, 0, none⟩) k k) ∧ SortOut V2.drew (w.heap.size + 1 + 1) k (ofPs ls) w') := sorted_put (HF2.out.put.below (Below.refl _ _).drew) HL.out hlits hN6
        have HFm : Hid (∀ w3, SortOut V2.drew (w.heap.size + 1 + 1) k (ofPs ls) w3 → Calls Tryz.prog 38 #[.slice (some ⟨w.heap.size + 1 + 1, 0, none⟩) k k, .agg #[.int .i64 n, .pointer q]] w3 (FormOut w3 (ofPs ls) ((parseZ deg.data.toList).getD 0))) := fun w3 hs => by
          have hclean := (HF2.out.put.below (Below.refl V2.heap.size V2).drew).1.clean
          refine formed_sorted hs (HF2.out.put.below (Below.refl V2.heap.size V2).drew).1.lt ?_ hlits hN6 Hab.out Hdl.out
          obtain ⟨_, _, _, _, _, _, hg, _⟩ := hs
          exact (HB2.out.below (Below.refl _ _).drew).clean hclean hg
        have HBx : Hid (∀ w3, SortOut V2.drew (w.heap.size + 1 + 1) k (ofPs ls) w3 → w3.heap[w1.heap.size]? = some (.cells #[.int .i64 n, .pointer q] 33) ∧ Box0 w3 (w.heap.size + 1) ∧ RowKit.Below w.heap.size w w3) := fun w3 hs => by
          obtain ⟨_, _, _, _, _, _, hg, _⟩ := hs
          have hlt := (Array.getElem?_eq_some_iff.1 HO2.out).1
          have hne : w1.heap.size ≠ w.heap.size + 1 + 1 := fun e => by
            obtain ⟨cur, h1, _⟩ := HF2.out.put.1
            rw [← e, HO2.out] at h1
            injection h1 with h1
            injection h1 with _ e2 _
            exact absurd e2 (by decide)
          exact ⟨(hg.block _ hlt (fun e => hne (by injection e))).trans HO2.out, (hg.block _ (Array.getElem?_eq_some_iff.1 HF2.out.res).1 (by simp)).trans HF2.out.res, (HF2.out.rest.drew).grown hg (by have := HF2.out.put.1.lt; show _ ≤ V2.heap.size; omega) (fun g e => by injection e with e; omega)⟩
        clear he hz hlits
        go_wp2_with fail
        go_region_with (first | (go_at_call 39; refine calls_at HSo.out (by with_reducible rfl) (by with_reducible rfl) ?_; rintro e w3 ⟨rfl, hs3⟩; have HS3 : Hid (SortOut V2.drew (w.heap.size + 1 + 1) k (ofPs ls) w3) := hs3; obtain ⟨z0, z1, z2, z3⟩ := box_facts (HBx.out w3 hs3).1; clear hs3) | (go_at_call 38; refine calls_at (HFm.out _ HS3.out) (by with_reducible rfl) (by with_reducible rfl) ?_; rintro e w4 ⟨v, K, D, rfl, hform, hpb, hlt, hlen, hb4⟩; obtain ⟨a', c', n', q', rfl, hPi, hBg⟩ := hpb; have hX4 := (HBx.out _ HS3.out).2.1.below hb4; obtain ⟨r0, r1, r2, t0, t1, t2⟩ := hX4.cells))
        all_goals
          have hbw4 : RowKit.Below w.heap.size w w4 := (HBx.out _ HS3.out).2.2.trans (hb4.mono (HBx.out _ HS3.out).2.2.size)
          obtain ⟨X, hX⟩ : ∃ X, ((w4.setCell ⟨w.heap.size + 1, 0, none⟩ (.slice a' K.length c')).setCell ⟨w.heap.size + 1, 1, none⟩ (.int .i64 n')).setCell ⟨w.heap.size + 1, 2, none⟩ (.pointer q') = X := ⟨_, rfl⟩
          rw [hX]
          obtain ⟨x0, x1, x2, hPb, hbX⟩ := row_ret hX4 hPi hBg hX
          clear hX r0 r1 r2 t0 t1 t2 hX4 hPi hBg z0 z1 z2 z3 hb4
          go_wp2
          refine bodyPost_ret (by simp [results, Tryz.results10, go_sem, x0, x1, x2]; try rfl) rfl ?_
          exact ⟨_, K, D, by rw [HE.out], hPb, hlt, by simpa [ofPs] using hlen, hbX _ _ (Nat.le_succ _) hbw4, fun _ => hform, fun h => absurd HE.out h⟩
      · have he : errOf (parseZ deg.data.toList) = 10 := by cases h : parseZ deg.data.toList with | none => rfl | some z => rw [h] at hz; exact absurd rfl hz
        rw [he]
        have HE : Hid (ofErr ls deg = 20) := by show _ = _; unfold ofErr; rw [if_pos hE.out, if_neg hz]
        obtain ⟨r0, r1, r2, t0, t1, t2⟩ := HF2.out.res.cells
        clear he hz y0 y1 y2 y3 HB2
        go_wp2_with fail
        obtain ⟨X, hX⟩ : ∃ X, ((V2.setCell ⟨w.heap.size + 1, 0, none⟩ (.slice none 0 0)).setCell ⟨w.heap.size + 1, 1, none⟩ (.int .i64 0)).setCell ⟨w.heap.size + 1, 2, none⟩ (.pointer none) = X := ⟨_, rfl⟩
        rw [hX]
        obtain ⟨x0, x1, x2, hbX⟩ := row_zero HF2.out.res hX
        exact bodyPost_ret (by simp [results, Tryz.results10, go_sem, x0, x1, x2]; try rfl) rfl (OfOut.bad HE.out (by decide) (hbX _ _ (Nat.le_succ _) HF2.out.rest))
end Go.Proofs.YtjffbndiecjkjaaGreatDoor

namespace Go.Proofs.YtjffbndiecjkjaaGreatDoor
open Go.Shelf Go.RowKit Go.Lib Go.Sort
open Bn (limbs)

/-- Whole numbers in memory. -/
def InAt (w : World) (v : Value) (l : List Int) : Prop := ∃ a c, v = .slice a l.length c ∧ l.length ≤ c ∧ c ≤ maxLen ∧
  ∀ k (h : k < l.length), ∃ b off, a = some ⟨b, off, none⟩ ∧ b < w.heap.size ∧ w.cell? ⟨b, off + k, none⟩ = some (.int .i64 l[k])
theorem InAt.below {w w' : World} {v : Value} {l : List Int} (h : InAt w v l) (hb : RowKit.Below w.heap.size w w') : InAt w' v l := by
  obtain ⟨a, c, hv, h1, h2, h3⟩ := h
  refine ⟨a, c, hv, h1, h2, fun k hk => ?_⟩
  obtain ⟨b, off, ha, hlt, c0⟩ := h3 k hk
  exact ⟨b, off, ha, Nat.lt_of_lt_of_le hlt hb.size, (hb.cell (p := ⟨b, _, none⟩) hlt).trans c0⟩

/-- What Clause makes on its way. -/
structure ClAt (w : World) (N : Nat) (L : List PcV) (K : List (Int × Int)) (wr : World) : Prop where
  res : Box0 wr w.heap.size
  put : PutAt wr (w.heap.size + 1) N L K
  rest : RowKit.Below w.heap.size w wr
theorem ClAt.below {w : World} {N : Nat} {L : List PcV} {K : List (Int × Int)} {wr w' : World} (h : ClAt w N L K wr) (hb : RowKit.Below wr.heap.size wr w') : ClAt w N L K w' :=
  ⟨h.res.below hb, h.put.below hb, h.rest.trans (hb.mono h.rest.size)⟩
theorem ClAt.next {w : World} {N k : Nat} {L : List PcV} {K : List (Int × Int)} {wr : World} {n : Int} {q : Option Addr} {l : Int} {p : Int × Int} (h : ClAt w N L K wr) (hp : Say wr (n, q, l) p) (hk : L.length = k) (hlt : k < N) :
    ClAt w N (L ++ [(n, q, l)]) (K ++ [p]) (set3 wr (w.heap.size + 1) (k * 3) (.int .i64 n) (.pointer q) (.int .i64 l)) := by
  have hg := grown_set3 wr (w.heap.size + 1) (k * 3) (.int .i64 n) (.pointer q) (.int .i64 l)
  refine ⟨(hg.block _ (Array.getElem?_eq_some_iff.1 h.res).1 (by simp)).trans h.res, (h.put.put hp hk hlt).1, ?_⟩
  exact ((h.rest.setCell (p := ⟨w.heap.size + 1, _, none⟩) (by simp only; omega) _).setCell (p := ⟨w.heap.size + 1, _, none⟩) (by simp only; omega) _).setCell (p := ⟨w.heap.size + 1, _, none⟩) (by simp only; omega) _

def clPs (l : List Int) : List (Int × Int) := l.map fun x => (1, x)
theorem clPs_next {l : List Int} {k : Nat} (hk : k < l.length) : clPs (l.take (k + 1)) = clPs (l.take k) ++ [(1, l[k])] := by
  unfold clPs; rw [List.take_succ_eq_append_getElem hk, List.map_append]; rfl
theorem absS_cl (l : List Int) : Pm.absS (clPs l) = l.length := by
  induction l with
  | nil => rfl
  | cons x l ih => simp only [clPs, List.map_cons, Pm.absS, List.length_cons] at *; rw [ih]; simp; omega
theorem limbs_small {n : Nat} (h : n ≤ 1000000) : (limbs n).length ≤ 900000 :=
  Nat.le_trans ((Bn.limbs_length_le n 1).2 (Nat.lt_of_le_of_lt h (by decide))) (by decide)
theorem grown_below {w w1 w2 : World} {r : Option Nat} (h : w.grownBy w1 r) (hb : RowKit.Below w1.heap.size w1 w2) : w.grownBy w2 r :=
  ⟨hb.os.trans h.os, hb.tape.trans h.tape, hb.output.trans h.output, Nat.le_trans h.size hb.size, fun k hk hne => (hb.block k (Nat.lt_of_lt_of_le hk h.size)).trans (h.block k hk hne)⟩
/-- What Clause answers. -/
def ClOut (w : World) (l : List Int) (e : Ending) (w' : World) : Prop :=
  ∃ r K D c, e = .returned (.tuple #[r, .int .i64 c]) ∧ PbAt w' r K D ∧ (∀ p ∈ K, IsLit p.2) ∧ K.length ≤ l.length ∧ RowKit.Below w.heap.size w w' ∧
    ((∀ x ∈ l, IsLit x) → c = 0 ∧ Pm.IsForm (clPs l) 1 K D) ∧ (¬ (∀ x ∈ l, IsLit x) → c = 21 ∧ K = [] ∧ D = 0)

set_option maxRecDepth 100000 in
set_option maxHeartbeats 2000000 in
theorem clause_any (l : List Int) (v : Value) (w : World) (hA : InAt w v l) (hn : l.length ≤ 1000000) : Calls Tryz.prog 32 #[v] w (ClOut w l) := by
  obtain ⟨a, c, rfl, hlc, hcm, hcell⟩ := hA
  obtain ⟨N, hN⟩ : ∃ N : Nat, l.length = N := ⟨_, rfl⟩
  have HN : Hid (l.length = N) := hN
  have HC : Hid (∀ k (h : k < l.length), ∃ b off, a = some ⟨b, off, none⟩ ∧ b < w.heap.size ∧ w.cell? ⟨b, off + k, none⟩ = some (.int .i64 l[k])) := hcell
  have hN6 : N ≤ 1000000 := by omega
  have hmake := makePieces N hN6
  rw [hN] at hlc ⊢
  clear hN hcell hn
  go_enter Tryz.func32, Tryz.ntmps32
  go_wp2_with fail
  obtain ⟨W, hW⟩ : ∃ W, (w.alloc (.cells #[.slice none 0 0, .int .i64 0, .pointer none] 35)).alloc (.cells (madeCells #[.int .i64 0, .pointer none, .int .i64 0] (N * 3)) 67) = W := ⟨_, rfl⟩
  obtain ⟨hO1, hO2, hbW, _⟩ := two_objs w _ _ hW
  rw [hW]
  have HF0 : Hid (ClAt w N [] [] W) := ⟨hO1, PutAt.start hO2, hbW⟩
  clear hW hO1 hO2 hbW hmake
  go_loopw [12] (fun iv wr => ∃ (k : Nat) (L : List PcV), iv = .int .i64 (k : Int) ∧ k ≤ N ∧ L.length = k ∧ Hid (ClAt w N L (clPs (l.take k)) wr) ∧ Hid (∀ x ∈ l.take k, IsLit x)) (fun iv _ => N - (intOf iv).toNat)
  case atStart => exact ⟨0, [], rfl, Nat.zero_le _, rfl, HF0, (fun x hx => by simp at hx)⟩
  case round =>
    obtain ⟨k, L, rfl, hk, hL, hF, hE⟩ := hrel
    have HL : Hid (L.length = k) := hL
    clear HF0 hL
    by_cases hkN : k < N
    · have hkI : (k : Int) < (N : Int) := by omega
      have hkl : k < l.length := by have := HN.out; omega
      obtain ⟨b, off, ha, hbl, c0⟩ := HC.out k hkl
      have e0 := (hF.out.rest.cell (p := ⟨b, off + k, none⟩) hbl).trans c0
      obtain ⟨x, hp⟩ : ∃ p, l[k] = p := ⟨_, rfl⟩
      have Hp : Hid (l[k] = x) := hp
      rw [hp] at e0
      subst ha
      clear c0 hp
      go_wp2_with fail
      refine (isLiteral_any x wr).mono ?_
      rintro r w3 ⟨rfl, hb3⟩
      have HF3 : Hid (ClAt w N L (clPs (l.take k)) w3) := hF.out.below hb3
      by_cases hl : IsLit x
      · have hd : decide (IsLit x) = true := decide_eq_true hl
        rw [hd]
        have HE4 : Hid (∀ y ∈ l.take (k + 1), IsLit y) := fun y hy => by
          rw [List.take_succ_eq_append_getElem hkl, Hp.out] at hy
          rcases List.mem_append.1 hy with hy | hy
          · exact hE.out y hy
          · rw [List.mem_singleton.1 hy]; exact hl
        clear hd hl hb3 hF e0
        go_wp2_with fail
        refine (of_any 1 w3).mono ?_
        rintro r w4 ⟨rfl, hb4⟩
        have HF4 : Hid (ClAt w N L (clPs (l.take k)) w4) := HF3.out.below hb4
        obtain ⟨⟨g0, r0⟩, t0⟩ := HF4.out.put.1.cell (k * 3) (by omega)
        obtain ⟨⟨g1, r1⟩, t1⟩ := HF4.out.put.1.cell (k * 3 + 1) (by omega)
        obtain ⟨⟨g2, r2⟩, t2⟩ := HF4.out.put.1.cell (k * 3 + 2) (by omega)
        have HF5 : Hid (ClAt w N (L ++ [(1, none, x)]) (clPs (l.take (k + 1))) (set3 w4 (w.heap.size + 1) (k * 3) (.int .i64 1) (.pointer none) (.int .i64 x))) := by
          show ClAt _ _ _ _ _
          rw [clPs_next hkl, Hp.out]
          exact HF4.out.next ⟨.inl ⟨by unfold Fits; omega, rfl⟩, rfl⟩ HL.out hkN
        clear hb4 HF3
        go_wp2_with fail
        go_roundw
        case rel => exact ⟨k + 1, L ++ [(1, none, x)], by go_num, by omega, by rw [List.length_append, HL.out]; rfl, HF5, HE4⟩
        case measure => simp [intOf]; omega
      · have hd : decide (IsLit x) = false := decide_eq_false hl
        rw [hd]
        have HE : Hid (¬ (∀ y ∈ l, IsLit y)) := fun h => hl (Hp.out ▸ h _ (List.getElem_mem hkl))
        obtain ⟨r0, r1, r2, t0, t1, t2⟩ := HF3.out.res.cells
        clear hd hl hb3 hF e0
        go_wp2_with fail
        obtain ⟨X, hX⟩ : ∃ X, ((w3.setCell ⟨w.heap.size, 0, none⟩ (.slice none 0 0)).setCell ⟨w.heap.size, 1, none⟩ (.int .i64 0)).setCell ⟨w.heap.size, 2, none⟩ (.pointer none) = X := ⟨_, rfl⟩
        rw [hX]
        obtain ⟨x0, x1, x2, hbX⟩ := row_zero HF3.out.res hX
        exact bodyPost_ret (by simp [results, Tryz.results32, go_sem, x0, x1, x2]; try rfl) rfl ⟨_, [], 0, 21, rfl, PbAt.zero X, (fun _ h => by cases h), Nat.zero_le _, hbX _ _ (Nat.le_refl _) HF3.out.rest, (fun h => absurd h HE.out), fun _ => ⟨rfl, rfl, rfl⟩⟩
    · obtain rfl : k = N := by omega
      have htake : l.take k = l := List.take_of_length_le (by have := HN.out; omega)
      rw [htake] at hF hE
      have hlits : ∀ p ∈ clPs l, IsLit p.2 := fun p hp => by
        obtain ⟨x, hx, rfl⟩ := List.mem_map.1 hp
        exact hE.out x hx
      have Hlits : Hid (∀ p ∈ clPs l, IsLit p.2) := hlits
      have HSo : Hid (Calls Tryz.prog 39 #[.slice (some ⟨w.heap.size + 1, 0, none⟩) k k] wr fun e w' => e = .returned (.slice (some ⟨w.heap.size + 1, 0, none⟩) k k) ∧ SortOut wr (w.heap.size + 1) k (clPs l) w') := sorted_put hF.out.put HL.out hlits hN6
      clear hlits htake HC
      go_wp2_with fail
      refine HSo.out.mono ?_
      rintro e w3 ⟨rfl, hs3⟩
      have HS3 : Hid (SortOut wr (w.heap.size + 1) k (clPs l) w3) := hs3
      have HX3 : Hid (Box0 w3 w.heap.size ∧ RowKit.Below w.heap.size w w3) := by
        obtain ⟨_, _, _, _, _, _, hg, _⟩ := hs3
        exact ⟨(hg.block _ (Array.getElem?_eq_some_iff.1 hF.out.res).1 (by simp)).trans hF.out.res, hF.out.rest.grown hg hF.out.rest.size (fun g e => by injection e with e; omega)⟩
      clear hs3
      go_wp2_with fail
      refine (of_any 1 w3).mono ?_
      rintro r w4 ⟨rfl, hb4⟩
      have HS4 : Hid (SortOut wr (w.heap.size + 1) k (clPs l) w4) := by
        obtain ⟨L', ps', h1, h2, h3, h4, h5, h6⟩ := HS3.out
        exact ⟨L', ps', h1, h2.mono (fun _ _ hB => hB.below hb4), HoldsK.keep h3 hb4 (Nat.lt_of_lt_of_le hF.out.put.1.lt h5.size), h4, grown_below h5 hb4, h6⟩
      have HX4 : Hid (Box0 w4 w.heap.size ∧ RowKit.Below w.heap.size w w4) := ⟨HX3.out.1.below hb4, HX3.out.2.trans (hb4.mono HX3.out.2.size)⟩
      have HFm : Hid (Calls Tryz.prog 38 #[.slice (some ⟨w.heap.size + 1, 0, none⟩) k k, .agg #[.int .i64 1, .pointer none]] w4 (FormOut w4 (clPs l) 1)) := formed_sorted HS4.out hF.out.put.1.lt (.inl ⟨by unfold Fits; omega, rfl⟩) Hlits.out hN6 (by rw [absS_cl, HN.out]; exact limbs_small hN6) (limbs_small (by decide))
      clear hb4 HS3 HX3
      go_wp2_with fail
      refine HFm.out.mono ?_
      rintro e w5 ⟨v, K, D, rfl, hform, hpb, hlt, hlen, hb5⟩
      obtain ⟨a', c', n', q', rfl, hPi, hBg⟩ := hpb
      have hX5 := HX4.out.1.below hb5
      have hbw5 : RowKit.Below w.heap.size w w5 := HX4.out.2.trans (hb5.mono HX4.out.2.size)
      obtain ⟨r0, r1, r2, t0, t1, t2⟩ := hX5.cells
      obtain ⟨X, hX⟩ : ∃ X, ((w5.setCell ⟨w.heap.size, 0, none⟩ (.slice a' K.length c')).setCell ⟨w.heap.size, 1, none⟩ (.int .i64 n')).setCell ⟨w.heap.size, 2, none⟩ (.pointer q') = X := ⟨_, rfl⟩
      have hR := row_ret hX5 hPi hBg hX
      have HR : Hid (X.cell? ⟨w.heap.size, 0, none⟩ = some (.slice a' K.length c') ∧ X.cell? ⟨w.heap.size, 1, none⟩ = some (.int .i64 n') ∧ X.cell? ⟨w.heap.size, 2, none⟩ = some (.pointer q') ∧ PbAt X (.agg #[.slice a' K.length c', .int .i64 n', .pointer q']) K D ∧ ∀ B a'', B ≤ w.heap.size → RowKit.Below B a'' w5 → RowKit.Below B a'' X) := hR
      have HX : Hid (((w5.setCell ⟨w.heap.size, 0, none⟩ (.slice a' K.length c')).setCell ⟨w.heap.size, 1, none⟩ (.int .i64 n')).setCell ⟨w.heap.size, 2, none⟩ (.pointer q') = X) := hX
      clear hX hPi hBg hb5 hX5 hR
      go_wp2_with fail
      rw [HX.out]
      obtain ⟨x0, x1, x2, hPb, hbX⟩ := HR.out
      exact bodyPost_ret (by simp [results, Tryz.results32, go_sem, x0, x1, x2]; try rfl) rfl ⟨_, K, D, 0, rfl, hPb, hlt, by simpa [clPs] using hlen, hbX _ _ (Nat.le_refl _) hbw5, (fun _ => ⟨rfl, hform⟩), fun h => absurd hE.out h⟩
end Go.Proofs.YtjffbndiecjkjaaGreatDoor

namespace Go.Proofs.YtjffbndiecjkjaaGreatDoor
open Go.Shelf Go.RowKit Go.Lib Go.Sort
open Bn (limbs)

/-- A number's text. -/
def txt (z : Int) : ByteArray := ⟨(Lib.itoa z).toArray⟩
theorem plain_str (s : ByteArray) : Plain1 (.string s) := ⟨(fun n h => by cases h), (fun d h => by cases h)⟩

/-- A box of two cells, written. -/
theorem box2_over {W : World} {N : Nat} {u v : Value} {t : TypeId} (hN : W.heap[N]? = some (.cells #[u, v] t)) (a b : Value) :
    ((W.setCell ⟨N, 0, none⟩ a).setCell ⟨N, 1, none⟩ b).heap[N]? = some (.cells #[a, b] t) := by
  simp [World.setCell, Array.getElem?_modify, hN]
theorem box2_facts {W : World} {N : Nat} {u v : Value} {t : TypeId} (hN : W.heap[N]? = some (.cells #[u, v] t)) :
    W.cell? ⟨N, 0, none⟩ = some u ∧ W.cell? ⟨N, 1, none⟩ = some v ∧ W.frozen? ⟨N, 0, none⟩ = false ∧ W.frozen? ⟨N, 1, none⟩ = false := by
  refine ⟨?_, ?_, ?_, ?_⟩ <;> simp [World.cell?, World.frozen?, hN]
theorem box3_facts {W : World} {N : Nat} {u v x : Value} {t : TypeId} (hN : W.heap[N]? = some (.cells #[u, v, x] t)) :
    W.cell? ⟨N, 0, none⟩ = some u ∧ W.cell? ⟨N, 1, none⟩ = some v ∧ W.cell? ⟨N, 2, none⟩ = some x ∧ W.frozen? ⟨N, 0, none⟩ = false ∧ W.frozen? ⟨N, 1, none⟩ = false ∧ W.frozen? ⟨N, 2, none⟩ = false := by
  refine ⟨?_, ?_, ?_, ?_, ?_, ?_⟩ <;> simp [World.cell?, World.frozen?, hN]
theorem Tab.under {w w' : World} (h : Tab w) (hb : RowKit.Below w.heap.size w w') : Tab w' := h.below hb h.2

set_option maxRecDepth 100000 in
set_option maxHeartbeats 2000000 in
theorem plainP_any (n : Int) (q : Option Addr) (l z : Int) (w : World) (hB : BigAt w (.agg #[.int .i64 n, .pointer q]) z) (hlen : (limbs z.natAbs).length ≤ 1000000) (ht : Tab w) :
    Calls Tryz.prog 40 #[.agg #[.int .i64 n, .pointer q, .int .i64 l]] w fun e w' => e = .returned (.agg #[.string (txt z), .int .i64 l]) ∧ RowKit.Below w.heap.size w w' := by
  obtain ⟨W, hW⟩ : ∃ W, (w.alloc (.cells #[.int .i64 n, .pointer q, .int .i64 l] 67)).alloc (.cells #[.string ⟨#[]⟩, .int .i64 0] 45) = W := ⟨_, rfl⟩
  obtain ⟨hO1, hO2, hbW, _⟩ := two_objs w _ _ hW
  have HT : Hid (Calls Tryz.prog 41 #[.agg #[.int .i64 n, .pointer q]] W.drew fun e w' => e = .returned (.string (txt z)) ∧ RowKit.Below W.heap.size W w') := by
    have hb := hbW.drew
    refine (text_big z _ W.drew (hB.below hb) hlen (ht.under hb)).mono ?_
    rintro e w' ⟨rfl, h⟩
    exact ⟨rfl, (Below.refl W.heap.size W).drew.trans h⟩
  have HO1 : Hid (W.heap[w.heap.size]? = some (.cells #[.int .i64 n, .pointer q, .int .i64 l] 67)) := hO1
  have HO2 : Hid (W.heap[w.heap.size + 1]? = some (.cells #[.string ⟨#[]⟩, .int .i64 0] 45)) := hO2
  have HbW : Hid (RowKit.Below w.heap.size w W) := hbW
  obtain ⟨k0, k1, k2, _, _, _⟩ := box3_facts hO1
  obtain ⟨m0, m1, m2, m3⟩ := box2_facts hO2
  clear hO1 hO2 hbW hB ht
  generalize txt z = s at *
  go_enter Tryz.func40, Tryz.ntmps40
  go_wp2_with fail
  go_region_with (go_at_call 41; refine calls_at HT.out (by with_reducible rfl) (by with_reducible rfl) ?_; rintro e w1 ⟨rfl, hb1⟩; have hP1 : w1.heap[w.heap.size]? = some (.cells #[.int .i64 n, .pointer q, .int .i64 l] 67) := (hb1.block _ (Array.getElem?_eq_some_iff.1 HO1.out).1).trans HO1.out; have hP2 : w1.heap[w.heap.size + 1]? = some (.cells #[.string ⟨#[]⟩, .int .i64 0] 45) := (hb1.block _ (Array.getElem?_eq_some_iff.1 HO2.out).1).trans HO2.out; obtain ⟨g0, g1, g2, _, _, _⟩ := box3_facts hP1; obtain ⟨h0, h1, h2, h3⟩ := box2_facts hP2)
  all_goals
    have hR := box2_over hP2 (.string s) (.int .i64 l)
    have hbX : RowKit.Below w.heap.size w ((w1.setCell ⟨w.heap.size + 1, 0, none⟩ (.string s)).setCell ⟨w.heap.size + 1, 1, none⟩ (.int .i64 l)) := ((HbW.out.trans (hb1.mono HbW.out.size)).setCell (p := ⟨w.heap.size + 1, 0, none⟩) (Nat.le_succ _) _).setCell (p := ⟨w.heap.size + 1, 1, none⟩) (Nat.le_succ _) _
    obtain ⟨X, hX⟩ : ∃ X, (w1.setCell ⟨w.heap.size + 1, 0, none⟩ (.string s)).setCell ⟨w.heap.size + 1, 1, none⟩ (.int .i64 l) = X := ⟨_, rfl⟩
    rw [hX] at hR hbX ⊢
    obtain ⟨x0, x1, _, _⟩ := box2_facts hR
    clear hX hR g0 g1 g2 h0 h1 h2 h3 hP1 hP2
    go_wp2
    exact bodyPost_ret (by simp [results, Tryz.results40, go_sem, x0, x1]; try rfl) rfl ⟨rfl, hbX⟩

/-- Pieces as they are told, written in place. -/
def apCells (ls : List (ByteArray × Int)) : List Value := ls.flatMap fun p => [.string p.1, .int .i64 p.2]
theorem apCells_length (ls : List (ByteArray × Int)) : (apCells ls).length = ls.length * 2 := by
  induction ls with
  | nil => rfl
  | cons r L ih => simp only [apCells, List.flatMap_cons, List.length_append, List.length_cons] at *; rw [ih]; simp; omega
theorem apCells_get (L : List (ByteArray × Int)) (k : Nat) (hk : k < L.length) : (apCells L)[k * 2]? = some (.string L[k].1) ∧ (apCells L)[k * 2 + 1]? = some (.int .i64 L[k].2) := by
  induction L generalizing k with
  | nil => simp at hk
  | cons r L ih =>
    cases k with
    | zero => simp [apCells]
    | succ k =>
      have := ih k (by simpa using hk)
      simp only [apCells, List.flatMap_cons, List.getElem_cons_succ] at *
      rw [show (k + 1) * 2 = k * 2 + 2 by omega, show k * 2 + 2 + 1 = (k * 2 + 1) + 2 by omega]
      simpa using this
def AputAt (w : World) (b N : Nat) (ls : List (ByteArray × Int)) : Prop := RowC Plain1 w b 45 (N * 2) (apCells ls)
theorem AputAt.put {w : World} {b N k : Nat} {ls : List (ByteArray × Int)} {s : ByteArray} {l : Int} (h : AputAt w b N ls) (hk : ls.length = k) (hlt : k < N) :
    AputAt ((w.setCell ⟨b, k * 2, none⟩ (.string s)).setCell ⟨b, k * 2 + 1, none⟩ (.int .i64 l)) b N (ls ++ [(s, l)]) := by
  have h1 := RowC.put h (plain_str s) (k := k * 2) (by rw [apCells_length, hk]) (by omega)
  have h2 := h1.put (plain_int l) (k := k * 2 + 1) (by simp [apCells_length, hk]) (by omega)
  have e : apCells (ls ++ [(s, l)]) = apCells ls ++ [.string s] ++ [.int .i64 l] := by simp [apCells]
  unfold AputAt
  rw [e]; exact h2
theorem AputAt.ap {w : World} {b N : Nat} {ls : List (ByteArray × Int)} (h : AputAt w b N ls) (hl : ls.length = N) (hN : N ≤ 1000000) : ApAt w (.slice (some ⟨b, 0, none⟩) N N) ls := by
  have hlt := RowC.lt h
  obtain ⟨cur, h1, h2, h3, h4, h5⟩ := h
  refine ⟨_, N, by rw [hl], by omega, by unfold maxLen; omega, fun k hk => ⟨b, 0, rfl, hlt, ?_, ?_⟩⟩
  · have := (apCells_get ls k hk).1
    rw [← h4, List.getElem?_take, if_pos (by rw [apCells_length]; omega)] at this
    simpa [World.cell?, h1] using this
  · have := (apCells_get ls k hk).2
    rw [← h4, List.getElem?_take, if_pos (by rw [apCells_length]; omega)] at this
    simpa [World.cell?, h1] using this
theorem Tryz.info45' : (Tryz.prog.info? 45).map (fun i => (i.zero, i.size, i.bytes)) = some (some (.agg #[.string ⟨#[]⟩, .int .i64 0]), 2, 24) := by kernel_rfl
theorem apSlice : Tryz.prog.underlying 22 = some (.slice 45) := by kernel_rfl
theorem makeAp (N : Nat) (hN : N ≤ 1000000) : ∀ w, (Instr.makeSlice 22 (.int .i64 (N : Int)) (.int .i64 (N : Int))).run Tryz.prog w = .ok (.slice (some ⟨w.heap.size, 0, none⟩) N N) (w.alloc (.cells (madeCells #[.string ⟨#[]⟩, .int .i64 0] (N * 2)) 45)) := fun w => by
  obtain ⟨i0, hi, hz0, hz1, hz2⟩ := info_parts Tryz.info45'
  have := run_make (P := Tryz.prog) w 22 45 i0 _ apSlice hi hz0 .i64 .i64 (N : Int) (N : Int) (by omega) (by omega) (by rw [hz2]; omega) (by omega)
  rw [hz1] at this
  simpa [Value.cells] using this
theorem AputAt.start {w : World} {b N : Nat} (hb : w.heap[b]? = some (.cells (madeCells #[.string ⟨#[]⟩, .int .i64 0] (N * 2)) 45)) : AputAt w b N [] :=
  ⟨_, hb, by rw [size_madeCells], madeCells_plain _ (fun u hu => by simp at hu; rcases hu with rfl | rfl; exact plain_str _; exact plain_int _) _ (by decide), by simp [apCells], by simp [apCells]⟩

/-- What a row tells of itself. -/
def tells (K : List (Int × Int)) : List (ByteArray × Int) := K.map fun p => (txt p.1, p.2)
theorem tells_next {K : List (Int × Int)} {k : Nat} (hk : k < K.length) : tells (K.take (k + 1)) = tells (K.take k) ++ [(txt K[k].1, K[k].2)] := by
  unfold tells; rw [List.take_succ_eq_append_getElem hk, List.map_append]; rfl

/-- What Plain makes on its way. -/
structure PlAt (w : World) (rv : Value) (n : Int) (q : Option Addr) (N : Nat) (ls : List (ByteArray × Int)) (wr : World) : Prop where
  arg : wr.heap[w.heap.size]? = some (.cells #[rv, .int .i64 n, .pointer q] 35)
  res : wr.heap[w.heap.size + 1]? = some (.cells #[.slice none 0 0, .string ⟨#[]⟩] 24)
  put : AputAt wr (w.heap.size + 1 + 1) N ls
  rest : RowKit.Below w.heap.size w wr
theorem PlAt.below {w : World} {rv : Value} {n : Int} {q : Option Addr} {N : Nat} {ls : List (ByteArray × Int)} {wr w' : World} (h : PlAt w rv n q N ls wr) (hb : RowKit.Below wr.heap.size wr w') : PlAt w rv n q N ls w' :=
  ⟨(hb.block _ (Array.getElem?_eq_some_iff.1 h.arg).1).trans h.arg, (hb.block _ (Array.getElem?_eq_some_iff.1 h.res).1).trans h.res, RowC.below h.put hb, h.rest.trans (hb.mono h.rest.size)⟩
theorem grown_set2 (w : World) (b k : Nat) (u0 u1 : Value) : w.grownBy ((w.setCell ⟨b, k, none⟩ u0).setCell ⟨b, k + 1, none⟩ u1) (some b) :=
  ⟨rfl, rfl, rfl, by simp [World.setCell], fun j _ hne => (Below.heap_setCell _ ⟨b, k + 1, none⟩ u1 j (fun h => hne (by rw [h]))).trans (Below.heap_setCell _ ⟨b, k, none⟩ u0 j (fun h => hne (by rw [h])))⟩
theorem below_of_grown {w0 w w' : World} {b B : Nat} (h : RowKit.Below B w0 w) (hg : w.grownBy w' (some b)) (hB : B ≤ w.heap.size) (hb : B ≤ b) : RowKit.Below B w0 w' := h.grown hg hB (fun g e => by injection e with e; omega)
theorem PlAt.next {w : World} {rv : Value} {n : Int} {q : Option Addr} {N k : Nat} {ls : List (ByteArray × Int)} {wr : World} {s : ByteArray} {l : Int} (h : PlAt w rv n q N ls wr) (hk : ls.length = k) (hlt : k < N) :
    PlAt w rv n q N (ls ++ [(s, l)]) ((wr.setCell ⟨w.heap.size + 1 + 1, k * 2, none⟩ (.string s)).setCell ⟨w.heap.size + 1 + 1, k * 2 + 1, none⟩ (.int .i64 l)) := by
  have hg := grown_set2 wr (w.heap.size + 1 + 1) (k * 2) (.string s) (.int .i64 l)
  exact ⟨(hg.block _ (Array.getElem?_eq_some_iff.1 h.arg).1 (by simp; omega)).trans h.arg, (hg.block _ (Array.getElem?_eq_some_iff.1 h.res).1 (by simp)).trans h.res, h.put.put hk hlt, below_of_grown h.rest hg h.rest.size (by omega)⟩

set_option maxRecDepth 100000 in
set_option maxHeartbeats 2000000 in
theorem plain_any (v : Value) (K : List (Int × Int)) (D : Int) (w : World) (h : PbAt w v K D) (hn : K.length ≤ 1000000) (hkl : ∀ p ∈ K, (limbs p.1.natAbs).length ≤ 1000000) (hdl : (limbs D.natAbs).length ≤ 1000000) (ht : Tab w) :
    Calls Tryz.prog 13 #[v] w fun e w' => ∃ u, e = .returned (.agg #[u, .string (txt D)]) ∧ ApAt w' u (tells K) ∧ RowKit.Below w.heap.size w w' := by
  obtain ⟨a, c, n, q, rfl, hpi, hB⟩ := h
  obtain ⟨a2, c2, hac, hlc, hcm⟩ := hpi.form
  injection hac with ea _ ec
  subst ea
  subst ec
  obtain ⟨N, hN⟩ : ∃ N : Nat, K.length = N := ⟨_, rfl⟩
  have HN : Hid (K.length = N) := hN
  rw [hN] at hlc hpi ⊢
  have HP : Hid (PiAt w (.slice a N c) K) := hpi
  have HB : Hid (BigAt w (.agg #[.int .i64 n, .pointer q]) D) := hB
  have HT : Hid (Tab w) := ht
  have Hk : Hid (∀ p ∈ K, (limbs p.1.natAbs).length ≤ 1000000) := hkl
  have Hd : Hid ((limbs D.natAbs).length ≤ 1000000) := hdl
  have hN6 : N ≤ 1000000 := by omega
  have hmake := makeAp N hN6
  obtain ⟨s, hs⟩ : ∃ s, txt D = s := ⟨_, rfl⟩
  have Hs : Hid (txt D = s) := hs
  rw [hs]
  clear hN hpi hB ht hkl hdl hn hs
  go_enter Tryz.func13, Tryz.ntmps13
  go_wp2_with fail
  obtain ⟨W, hW⟩ : ∃ W, ((w.alloc (.cells #[.slice a N c, .int .i64 n, .pointer q] 35)).alloc (.cells #[.slice none 0 0, .string ⟨#[]⟩] 24)).alloc (.cells (madeCells #[.string ⟨#[]⟩, .int .i64 0] (N * 2)) 45) = W := ⟨_, rfl⟩
  obtain ⟨hO1, hO2, hO3, hbW, _⟩ := three_objs w _ _ _ hW
  rw [hW]
  have HF0 : Hid (PlAt w (.slice a N c) n q N [] W) := ⟨hO1, hO2, AputAt.start hO3, hbW⟩
  clear hW hO1 hO2 hO3 hbW hmake
  go_loopw [13] (fun iv wr => ∃ (k : Nat), iv = .int .i64 (k : Int) ∧ k ≤ N ∧ Hid (PlAt w (.slice a N c) n q N (tells (K.take k)) wr)) (fun iv _ => N - (intOf iv).toNat)
  case atStart => exact ⟨0, rfl, Nat.zero_le _, HF0⟩
  case round =>
    obtain ⟨k, rfl, hk, hF⟩ := hrel
    clear HF0
    by_cases hkN : k < N
    · have hkI : (k : Int) < (N : Int) := by omega
      have hkl : k < K.length := by have := HN.out; omega
      obtain ⟨b, m, qq, ha, hbl, e0, e1, e2, hBk⟩ := (HP.out.below hF.out.rest).cell k hkl
      have hlk := Hk.out _ (List.getElem_mem hkl)
      obtain ⟨p, hp⟩ : ∃ p, K[k] = p := ⟨_, rfl⟩
      have Hp : Hid (K[k] = p) := hp
      rw [hp] at e2 hBk hlk
      obtain ⟨z, l⟩ := p
      simp only at e2 hBk hlk
      subst ha
      obtain ⟨V, hV⟩ : ∃ V, wr.alloc (.cells #[.int .i64 m, .pointer qq, .int .i64 l] 67) = V := ⟨_, rfl⟩
      obtain ⟨hO, hbV⟩ := new_obj wr _ hV
      obtain ⟨v0, v1, v2, _, _, _⟩ := box3_facts hO
      have HFV : Hid (PlAt w (.slice (some ⟨b, 0, none⟩) N c) n q N (tells (K.take k)) V) := hF.out.below hbV
      have HPl : Hid (Calls Tryz.prog 40 #[.agg #[.int .i64 m, .pointer qq, .int .i64 l]] V fun e w' => e = .returned (.agg #[.string (txt z), .int .i64 l]) ∧ RowKit.Below V.heap.size V w') := plainP_any m qq l z V (hBk.below hbV) hlk ((HT.out.under hF.out.rest).under hbV)
      clear hO hbV hBk hlk hp hF
      go_wp2_with fail
      refine HPl.out.mono ?_
      rintro r w1 ⟨rfl, hb1⟩
      have HF1 : Hid (PlAt w (.slice (some ⟨b, 0, none⟩) N c) n q N (tells (K.take k)) w1) := HFV.out.below hb1
      have hlen : (tells (K.take k)).length = k := by unfold tells; rw [List.length_map, List.length_take]; exact Nat.min_eq_left (Nat.le_of_lt hkl)
      have HF2 : Hid (PlAt w (.slice (some ⟨b, 0, none⟩) N c) n q N (tells (K.take (k + 1))) ((w1.setCell ⟨w.heap.size + 1 + 1, k * 2, none⟩ (.string (txt z))).setCell ⟨w.heap.size + 1 + 1, k * 2 + 1, none⟩ (.int .i64 l))) := by
        show PlAt _ _ _ _ _ _ _
        rw [tells_next hkl, Hp.out]
        exact HF1.out.next hlen hkN
      obtain ⟨⟨g0, r0⟩, t0⟩ := RowC.cell HF1.out.put (k * 2) (by omega)
      obtain ⟨⟨g1, r1⟩, t1⟩ := RowC.cell HF1.out.put (k * 2 + 1) (by omega)
      clear hlen hb1 v0 v1 v2 e0 e1 e2 HFV HPl hV
      generalize txt z = s1 at *
      go_wp2_with fail
      go_roundw
      case rel => exact ⟨k + 1, by go_num, by omega, HF2⟩
      case measure => simp [intOf]; omega
    · obtain rfl : k = N := by omega
      have htake : K.take k = K := List.take_of_length_le (by have := HN.out; omega)
      rw [htake] at hF
      obtain ⟨a0, a1, a2, _, _, _⟩ := box3_facts hF.out.arg
      have HTx : Hid (Calls Tryz.prog 41 #[.agg #[.int .i64 n, .pointer q]] wr fun e w' => e = .returned (.string s) ∧ RowKit.Below wr.heap.size wr w') := by
        have h := text_big D _ wr (HB.out.below hF.out.rest) Hd.out (HT.out.under hF.out.rest)
        rw [show (⟨(Lib.itoa D).toArray⟩ : ByteArray) = s from Hs.out] at h
        exact h
      clear htake
      go_wp2_with fail
      refine HTx.out.mono ?_
      rintro r w1 ⟨rfl, hb1⟩
      have hF1 := hF.out.below hb1
      have hR := hF1.res
      obtain ⟨r0, r1, t0, t1⟩ := box2_facts hR
      obtain ⟨X, hX⟩ : ∃ X, (w1.setCell ⟨w.heap.size + 1, 0, none⟩ (.slice (some ⟨w.heap.size + 1 + 1, 0, none⟩) k k)).setCell ⟨w.heap.size + 1, 1, none⟩ (.string s) = X := ⟨_, rfl⟩
      have hRX := box2_over hR (.slice (some ⟨w.heap.size + 1 + 1, 0, none⟩) k k) (.string s)
      have hg := grown_set2 w1 (w.heap.size + 1) 0 (.slice (some ⟨w.heap.size + 1 + 1, 0, none⟩) k k) (.string s)
      rw [hX] at hRX
      have hg' : w1.grownBy X (some (w.heap.size + 1)) := by rw [← hX]; exact hg
      have HbX : Hid (RowKit.Below w.heap.size w X) := below_of_grown hF1.rest hg' hF1.rest.size (Nat.le_succ _)
      have HAp : Hid (ApAt X (.slice (some ⟨w.heap.size + 1 + 1, 0, none⟩) k k) (tells K)) := by
        refine AputAt.ap (b := w.heap.size + 1 + 1) ?_ (by unfold tells; rw [List.length_map]; exact HN.out) hN6
        obtain ⟨cur, h1, h2⟩ := hF1.put
        exact ⟨cur, (hg'.block _ (Array.getElem?_eq_some_iff.1 h1).1 (by simp)).trans h1, h2⟩
      have HRX : Hid (X.heap[w.heap.size + 1]? = some (.cells #[.slice (some ⟨w.heap.size + 1 + 1, 0, none⟩) k k, .string s] 24)) := hRX
      have HX : Hid ((w1.setCell ⟨w.heap.size + 1, 0, none⟩ (.slice (some ⟨w.heap.size + 1 + 1, 0, none⟩) k k)).setCell ⟨w.heap.size + 1, 1, none⟩ (.string s) = X) := hX
      clear hX hRX hg hg' hb1 hF1 hR a0 a1 a2
      go_wp2_with fail
      rw [HX.out]
      obtain ⟨x0, x1, _, _⟩ := box2_facts HRX.out
      exact bodyPost_ret (by simp [results, Tryz.results13, go_sem, x0, x1]; try rfl) rfl ⟨_, rfl, HAp.out, HbX.out⟩
end Go.Proofs.YtjffbndiecjkjaaGreatDoor
