/-
  Put together: DmSame, DmStore, DmReads, DtDef.
-/
import Derived.Test.YtdfbmfikhccajaaDoorJ36
import Derived.ChangeKeysEq
import Derived.Laws.StructEq
namespace Go.Proofs.YtdfbmfikhccajaaDoor
open Go.RowKit

theorem under63 : Tryd.prog.underlying 57 = some (.int .u32) := by kernel_rfl
theorem cells63 : Tryd.prog.cellsOf 57 = 1 := by kernel_rfl
theorem info63 : (Tryd.prog.info? 57).map (fun i => (i.zero, i.size, i.bytes)) = some (some (.int .u32 0), 1, 4) := by kernel_rfl
theorem part65 (a0 a1 : Value) (w : World) : (part 57 #[a0, a1] 0).run Tryd.prog w = .ok a0 w ∧ (part 57 #[a0, a1] 1).run Tryd.prog w = .ok a1 w := ⟨by kernel_rfl, by kernel_rfl⟩
/-- Two sets held against one another. -/
theorem eq65 (a b c d : Int) (w : World) : (binOp .eql 59 (.agg #[.int .u32 a, .int .u32 b]) (.agg #[.int .u32 c, .int .u32 d])).run Tryd.prog w = .ok (.bool (a == c && b == d)) w := by
  obtain ⟨i, hi, _⟩ := info_of info63
  rw [run_eql_struct, run_equalIn_array (P := Tryd.prog) w 9999 _ _ und65 hi]
  have pa := part65 (.int .u32 a) (.int .u32 b) w
  have pb := part65 (.int .u32 c) (.int .u32 d) w
  have eq := fun a b => run_equalIn_int (P := Tryd.prog) w 9998 57 .u32 .u32 a b under63
  have r2 : List.range 2 = [0, 1] := rfl
  simp only [r2, Op.eqItems, cells63, Nat.zero_mul, Nat.one_mul, Sem.run_bind, pa, pb, eq, Result.andThen_ok, Sem.run_ite, Sem.run_pure]
  cases a == c <;> cases b == d <;> simp [Result.andThen]

end Go.Proofs.YtdfbmfikhccajaaDoor

namespace Go.Proofs.YtdfbmfikhccajaaDoor
open Go.RowKit

/-- A domain: its first value, and two words. -/
structure Dm where
  f : Int
  a : Int
  b : Int
structure Dm.Ok (d : Dm) : Prop where
  f1 : -1000000000 ≤ d.f
  f2 : d.f ≤ 1000000000
  a : IsW d.a
  b : IsW d.b
def Dm.val (d : Dm) : Value := dmVal d.f d.a d.b
def Dm.cells (d : Dm) : List Value := [.int .i64 d.f, .int .u32 d.a, .int .u32 d.b]
def dms (L : List Dm) : List Value := L.flatMap Dm.cells
theorem dms_len (L : List Dm) : (dms L).length = L.length * 3 := by
  induction L with
  | nil => rfl
  | cons d L ih => simp only [dms, List.flatMap_cons, List.length_append, List.length_cons] at ih ⊢; rw [ih]; simp [Dm.cells]; omega
theorem dms_get (L : List Dm) (j : Nat) (hj : j < L.length) : (dms L)[j * 3]? = some (.int .i64 L[j].f) ∧ (dms L)[j * 3 + 1]? = some (.int .u32 L[j].a) ∧ (dms L)[j * 3 + 2]? = some (.int .u32 L[j].b) := by
  induction L generalizing j with
  | nil => exact absurd hj (by simp)
  | cons d L ih =>
    cases j with
    | zero => exact ⟨rfl, rfl, rfl⟩
    | succ j =>
      have h := ih j (by simpa using hj)
      have e : dms (d :: L) = d.cells ++ dms L := by simp [dms]
      have key : ∀ i, (dms (d :: L))[(j + 1) * 3 + i]? = (dms L)[j * 3 + i]? := fun i => by
        rw [e, List.getElem?_append_right (by simp [Dm.cells]; omega)]
        simp only [Dm.cells, List.length_cons, List.length_nil]
        congr 1
        omega
      refine ⟨?_, ?_, ?_⟩
      · have := key 0
        simp only [Nat.add_zero] at this
        rw [this]; exact h.1
      · rw [key 1]; exact h.2.1
      · rw [key 2]; exact h.2.2

/-- A store: what its variables have, what is noted, how many marks stand. -/
structure St where
  now : List Dm
  noted : List Dm
  marks : Nat
/-- A store in memory. -/
structure StAt (B : Nat) (w : World) (p : Nat) (nv mv : Value) (s : St) : Prop where
  o : w.heap[p]? = some (.cells #[nv, mv, .int .i64 (s.marks : Int)] 53 (0, 0))
  n : w.ownsRow B 61 3 nv s.now.length (dms s.now)
  m : w.ownsRow B 61 3 mv s.noted.length (dms s.noted)
  b1 : 1 ≤ B
  p1 : B ≤ p
  ne1 : nv.ownBlock ≠ some p
  ne2 : mv.ownBlock ≠ some p
  ne3 : ∀ k, nv.ownBlock = some k → mv.ownBlock ≠ some k
  good : ∀ d ∈ s.now, d.Ok
  goodm : ∀ d ∈ s.noted, d.Ok
  len : s.noted.length = s.marks * s.now.length
  n32 : s.now.length ≤ 32
  mks : s.marks ≤ 10000
/-- The store's own blocks. -/
def Own (p : Nat) (nv mv : Value) (k : Nat) : Prop := k = p ∨ nv.ownBlock = some k ∨ mv.ownBlock = some k

theorem StAt.keep {B : Nat} {w w' : World} {p : Nat} {nv mv : Value} {s : St} (h : StAt B w p nv mv s) (hk : ∀ k, k < w.heap.size → Own p nv mv k → w'.heap[k]? = w.heap[k]?) : StAt B w' p nv mv s := by
  have row : ∀ {v : Value} {n : Nat} {xs : List Value}, w.ownsRow B 61 3 v n xs → (∀ k, v.ownBlock = some k → Own p nv mv k) → w'.ownsRow B 61 3 v n xs := by
    intro v n xs ⟨h1, h2⟩ hv
    refine ⟨h1, ?_⟩
    rcases h2 with h2 | ⟨g, cap, cur, e1, e2, e3, e4⟩
    · exact .inl h2
    · exact .inr ⟨g, cap, cur, e1, e2, (hk g (Array.getElem?_eq_some_iff.1 e3).1 (hv g (by rw [e1]; rfl))).trans e3, e4⟩
  exact { h with
    o := (hk p (Array.getElem?_eq_some_iff.1 h.o).1 (.inl rfl)).trans h.o
    n := row h.n (fun k hk => .inr (.inl hk))
    m := row h.m (fun k hk => .inr (.inr hk)) }
theorem StAt.below {B : Nat} {w w' : World} {p : Nat} {nv mv : Value} {s : St} (h : StAt B w p nv mv s) (hb : Below w.heap.size w w') : StAt B w' p nv mv s := h.keep fun k hk _ => hb.block k hk
theorem StAt.lt {B : Nat} {w : World} {p : Nat} {nv mv : Value} {s : St} (h : StAt B w p nv mv s) : p < w.heap.size := (Array.getElem?_eq_some_iff.1 h.o).1

/-- What is changed: the store's own blocks alone. -/
structure Stp (B p : Nat) (nv mv : Value) (w w' : World) : Prop where
  below : Below B w w'
  off : Off (Own p nv mv) w w'
theorem Stp.refl (B p : Nat) (nv mv : Value) (w : World) : Stp B p nv mv w w := ⟨Below.refl _ _, Off.refl _ _⟩
theorem Stp.of_below {B p : Nat} {nv mv : Value} {w w' : World} (h : Below w.heap.size w w') (hB : B ≤ w.heap.size) : Stp B p nv mv w w' := ⟨h.mono hB, Off.of_below h⟩
theorem Stp.next {B p : Nat} {nv mv : Value} {w w1 w2 : World} (h : Stp B p nv mv w w1) (hb : Below w1.heap.size w1 w2) (hB : B ≤ w.heap.size) : Stp B p nv mv w w2 := ⟨h.below.trans (hb.mono (Nat.le_trans hB h.off.size)), h.off.trans (Off.of_below hb)⟩
theorem StAt.size {B : Nat} {w : World} {p : Nat} {nv mv : Value} {s : St} (h : StAt B w p nv mv s) : B ≤ w.heap.size := Nat.le_of_lt (Nat.lt_of_le_of_lt h.p1 h.lt)
/-- A row of domains, as it is read. -/
theorem dm_form {B : Nat} {w : World} {v : Value} {L : List Dm} (h : w.ownsRow B 61 3 v L.length (dms L)) : ∃ a cap, v = .slice a L.length cap ∧ ∀ j (hj : j < L.length), ∃ g, a = some ⟨g, 0, none⟩ ∧ B ≤ g ∧ g < w.heap.size ∧ w.cell? ⟨g, j * 3, none⟩ = some (.int .i64 L[j].f) ∧ w.cell? ⟨g, j * 3 + 1, none⟩ = some (.int .u32 L[j].a) ∧ w.cell? ⟨g, j * 3 + 2, none⟩ = some (.int .u32 L[j].b) ∧ ∀ i, w.frozen? ⟨g, i, none⟩ = false := by
  obtain ⟨_, h2⟩ := h
  rcases h2 with ⟨rfl, h0⟩ | ⟨g, cap, cur, rfl, e2, e3, e4, e5, e6, e7⟩
  · exact ⟨none, 0, by rw [h0], fun j hj => absurd hj (by omega)⟩
  · refine ⟨_, cap, rfl, fun j hj => ⟨g, rfl, e2, (Array.getElem?_eq_some_iff.1 e3).1, ?_⟩⟩
    have key : ∀ i, i < L.length * 3 → w.cell? ⟨g, i, none⟩ = (dms L)[i]? := fun i hi => by
      rw [cell_of e3]
      have : (cur.toList.take (L.length * 3))[i]? = (dms L)[i]? := by rw [e7]
      rw [List.getElem?_take, if_pos hi] at this
      simpa using this
    have hg := dms_get L j hj
    refine ⟨?_, ?_, ?_, frozen_of e3⟩
    · rw [key _ (by omega)]; exact hg.1
    · rw [key _ (by omega)]; exact hg.2.1
    · rw [key _ (by omega)]; exact hg.2.2

def isB (n : Nat) (x : Int) : Bool := decide (0 ≤ x) && decide (x < (n : Int))
set_option maxRecDepth 10000 in
set_option maxHeartbeats 400000 in
theorem is_any (B p : Nat) (nv mv : Value) (s : St) (x : Int) (w : World) (h : StAt B w p nv mv s) : Calls Tryd.prog 27 #[.pointer (some ⟨p, 0, none⟩), .int .i64 x] w fun e w' => e = .returned (.bool (isB s.now.length x)) ∧ w' = w := by
  have c0 : w.cell? ⟨p, 0, none⟩ = some nv := cell_of h.o 0
  obtain ⟨a, cap, rfl, _⟩ := dm_form h.n
  clear h
  by_cases h0 : 0 ≤ x
  · go_enter Tryd.func27, Tryd.ntmps27
    go_wp2_with fail
    go_ret
    exact ⟨ret_bool (by simp [isB, h0]), rfl⟩
  · have e : isB s.now.length x = false := by simp [isB, h0]
    rw [e]
    clear e
    go_enter Tryd.func27, Tryd.ntmps27
    go_wp2_with fail
    go_ret
    exact ⟨rfl, rfl⟩
end Go.Proofs.YtdfbmfikhccajaaDoor

namespace Go.Proofs.YtdfbmfikhccajaaDoor
open Go.RowKit

set_option maxRecDepth 10000 in
set_option maxHeartbeats 400000 in
theorem lo_in (B p : Nat) (nv mv : Value) (s : St) (x : Nat) (hx : x < s.now.length) (w : World) (h : StAt B w p nv mv s) (hT : Tz w) : Calls Tryd.prog 19 #[.pointer (some ⟨p, 0, none⟩), .int .i64 (x : Int)] w fun e w' => e = .returned (.int .i64 (s.now[x].f + bLow s.now[x].a s.now[x].b)) ∧ Below w.heap.size w w' := by
  have c0 : w.cell? ⟨p, 0, none⟩ = some nv := cell_of h.o 0
  have HIs : Hid (Calls Tryd.prog 27 #[.pointer (some ⟨p, 0, none⟩), .int .i64 (x : Int)] w fun e w' => e = .returned (.bool true) ∧ w' = w) := by
    have := is_any B p nv mv s x w h
    have e : isB s.now.length (x : Int) = true := by simp [isB]; omega
    rw [e] at this
    exact this
  have hok := h.good s.now[x] (List.getElem_mem hx)
  have hs : 0 < w.heap.size := Nat.lt_of_le_of_lt (Nat.zero_le _) h.lt
  have hn := h.n32
  obtain ⟨a, cap, rfl, hc⟩ := dm_form h.n
  obtain ⟨g, rfl, _, _, k0, k1, k2, _⟩ := hc x hx
  obtain ⟨d, hd⟩ : ∃ d, s.now[x] = d := ⟨_, rfl⟩
  rw [hd] at k0 k1 k2 hok ⊢
  have HC : Hid (Calls Tryd.prog 29 #[dmVal d.f d.a d.b] w fun e w' => e = .returned (.int .i64 (d.f + bLow d.a d.b)) ∧ Below w.heap.size w w') := lo_any _ _ _ w hok.f1 hok.f2 hok.a hok.b hT hs
  have hxI : (x : Int) < (s.now.length : Int) := by omega
  clear h hc hd hok
  (try unfold dmVal at *); (try unfold btVal at *)
  go_enter Tryd.func19, Tryd.ntmps19
  go_wp2_with fail
  refine calls_at HIs.out (by with_reducible rfl) (by with_reducible rfl) ?_
  rintro e w1 ⟨rfl, rfl⟩
  go_wp2_with fail
  refine calls_at HC.out (by with_reducible rfl) (by with_reducible rfl) ?_
  rintro e w2 ⟨rfl, hb2⟩
  have HB2 : Hid (Below w1.heap.size w1 w2) := hb2
  clear hb2
  go_wp2_with fail
  go_ret
  exact ⟨rfl, HB2.out⟩

set_option maxRecDepth 10000 in
set_option maxHeartbeats 400000 in
theorem hi_in (B p : Nat) (nv mv : Value) (s : St) (x : Nat) (hx : x < s.now.length) (w : World) (h : StAt B w p nv mv s) : Calls Tryd.prog 18 #[.pointer (some ⟨p, 0, none⟩), .int .i64 (x : Int)] w fun e w' => e = .returned (.int .i64 (s.now[x].f + bHigh s.now[x].a s.now[x].b)) ∧ Below w.heap.size w w' := by
  have c0 : w.cell? ⟨p, 0, none⟩ = some nv := cell_of h.o 0
  have HIs : Hid (Calls Tryd.prog 27 #[.pointer (some ⟨p, 0, none⟩), .int .i64 (x : Int)] w fun e w' => e = .returned (.bool true) ∧ w' = w) := by
    have := is_any B p nv mv s x w h
    have e : isB s.now.length (x : Int) = true := by simp [isB]; omega
    rw [e] at this
    exact this
  have hok := h.good s.now[x] (List.getElem_mem hx)
  have hs : 0 < w.heap.size := Nat.lt_of_le_of_lt (Nat.zero_le _) h.lt
  have hn := h.n32
  obtain ⟨a, cap, rfl, hc⟩ := dm_form h.n
  obtain ⟨g, rfl, _, _, k0, k1, k2, _⟩ := hc x hx
  obtain ⟨d, hd⟩ : ∃ d, s.now[x] = d := ⟨_, rfl⟩
  rw [hd] at k0 k1 k2 hok ⊢
  have HC : Hid (Calls Tryd.prog 28 #[dmVal d.f d.a d.b] w fun e w' => e = .returned (.int .i64 (d.f + bHigh d.a d.b)) ∧ Below w.heap.size w w') := hi_any _ _ _ w hok.f1 hok.f2 hok.a hok.b
  have hxI : (x : Int) < (s.now.length : Int) := by omega
  clear h hc hd hok
  (try unfold dmVal at *); (try unfold btVal at *)
  go_enter Tryd.func18, Tryd.ntmps18
  go_wp2_with fail
  refine calls_at HIs.out (by with_reducible rfl) (by with_reducible rfl) ?_
  rintro e w1 ⟨rfl, rfl⟩
  go_wp2_with fail
  refine calls_at HC.out (by with_reducible rfl) (by with_reducible rfl) ?_
  rintro e w2 ⟨rfl, hb2⟩
  have HB2 : Hid (Below w1.heap.size w1 w2) := hb2
  clear hb2
  go_wp2_with fail
  go_ret
  exact ⟨rfl, HB2.out⟩

set_option maxRecDepth 10000 in
set_option maxHeartbeats 400000 in
theorem size_in (B p : Nat) (nv mv : Value) (s : St) (x : Nat) (hx : x < s.now.length) (w : World) (h : StAt B w p nv mv s) : Calls Tryd.prog 26 #[.pointer (some ⟨p, 0, none⟩), .int .i64 (x : Int)] w fun e w' => e = .returned (.int .i64 (bSize s.now[x].a s.now[x].b)) ∧ Below w.heap.size w w' := by
  have c0 : w.cell? ⟨p, 0, none⟩ = some nv := cell_of h.o 0
  have HIs : Hid (Calls Tryd.prog 27 #[.pointer (some ⟨p, 0, none⟩), .int .i64 (x : Int)] w fun e w' => e = .returned (.bool true) ∧ w' = w) := by
    have := is_any B p nv mv s x w h
    have e : isB s.now.length (x : Int) = true := by simp [isB]; omega
    rw [e] at this
    exact this
  have hok := h.good s.now[x] (List.getElem_mem hx)
  have hs : 0 < w.heap.size := Nat.lt_of_le_of_lt (Nat.zero_le _) h.lt
  have hn := h.n32
  obtain ⟨a, cap, rfl, hc⟩ := dm_form h.n
  obtain ⟨g, rfl, _, _, k0, k1, k2, _⟩ := hc x hx
  obtain ⟨d, hd⟩ : ∃ d, s.now[x] = d := ⟨_, rfl⟩
  rw [hd] at k0 k1 k2 hok ⊢
  have HC : Hid (Calls Tryd.prog 44 #[btVal d.a d.b] w fun e w' => e = .returned (.int .i64 (bSize d.a d.b)) ∧ Below w.heap.size w w') := size_any _ _ w hok.a hok.b
  have hxI : (x : Int) < (s.now.length : Int) := by omega
  clear h hc hd hok
  (try unfold dmVal at *); (try unfold btVal at *)
  go_enter Tryd.func26, Tryd.ntmps26
  go_wp2_with fail
  refine calls_at HIs.out (by with_reducible rfl) (by with_reducible rfl) ?_
  rintro e w1 ⟨rfl, rfl⟩
  go_wp2_with fail
  refine calls_at HC.out (by with_reducible rfl) (by with_reducible rfl) ?_
  rintro e w2 ⟨rfl, hb2⟩
  have HB2 : Hid (Below w1.heap.size w1 w2) := hb2
  clear hb2
  go_wp2_with fail
  go_ret
  exact ⟨rfl, HB2.out⟩

end Go.Proofs.YtdfbmfikhccajaaDoor

namespace Go.Proofs.YtdfbmfikhccajaaDoor

def Dm.lo (d : Dm) : Int := d.f + bLow d.a d.b
def Dm.hi (d : Dm) : Int := d.f + bHigh d.a d.b
def Dm.size (d : Dm) : Int := bSize d.a d.b
def Dm.has (d : Dm) (v : Int) : Bool := dHas d.f d.a d.b v
def Dm.all (d : Dm) : List Int := dAll d.f d.a d.b
def Dm.one (d : Dm) : Bool := decide (d.size ≤ 1)
structure Dm.Fine (d : Dm) : Prop where
  loIn : d.has d.lo = true
  hiIn : d.has d.hi = true
  least : ∀ v, d.has v = true → d.lo ≤ v
  most : ∀ v, d.has v = true → v ≤ d.hi
  one : d.one = true ↔ d.lo = d.hi
  sz : 1 ≤ d.size
  all : ∀ v, v ∈ d.all ↔ d.has v = true
  up : d.all.Pairwise (· < ·)
  b1 : -1000000000 ≤ d.lo
  b2 : d.hi ≤ 2000000000
end Go.Proofs.YtdfbmfikhccajaaDoor
