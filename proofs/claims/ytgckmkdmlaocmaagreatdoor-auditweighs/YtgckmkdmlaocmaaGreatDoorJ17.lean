/-
  Put together: RqA, RqB.
-/
import Derived.Test.YtgckmkdmlaocmaaGreatDoorJ13
import Derived.Lib.Strings
namespace Go.Proofs.YtgckmkdmlaocmaaGreatDoor
open Go.RowKit

abbrev RS := List (List UInt8) × Int
structure RrAt (G : Nat) (w : World) (b : Nat) (s : RS) : Prop where
  o : ∃ a c, w.heap[b]? = some (.cells #[.slice a s.1.length c, .int .i64 s.2] 59 (0, 0)) ∧ s.1.length ≤ c ∧ c ≤ 9223372036854775807 ∧ (0 < s.1.length → ∃ g off, a = some ⟨g, off, none⟩ ∧ g ≠ b ∧ g < G ∧ ∀ j x, s.1[j]? = some x → w.cell? ⟨g, off + j, none⟩ = some (.string (txtOf x)))
  n : ∀ x ∈ s.1, x.length ≤ 9000000
  gs : G ≤ w.heap.size
theorem RrAt.lt {w : World} {G b : Nat} {s : RS} (h : RrAt G w b s) : b < w.heap.size := by
  obtain ⟨a, c, h1, _⟩ := h.o
  exact (Array.getElem?_eq_some_iff.1 h1).1
theorem RrAt.off {w w' : World} {G b : Nat} {s : RS} (h : RrAt G w b s) (hb : w'.heap[b]? = w.heap[b]?) (ho : ∀ k, k < G → k ≠ b → w'.heap[k]? = w.heap[k]?) (hz : w.heap.size ≤ w'.heap.size) : RrAt G w' b s := by
  obtain ⟨a, c, h1, h2, h3, h4⟩ := h.o
  refine ⟨⟨a, c, hb.trans h1, h2, h3, fun h0 => ?_⟩, h.n, Nat.le_trans h.gs hz⟩
  obtain ⟨g, off, e1, e2, e3, e4⟩ := h4 h0
  refine ⟨g, off, e1, e2, e3, fun j x hx => ?_⟩
  have := e4 j x hx
  simp only [World.cell?] at this ⊢
  rw [ho g e3 e2]
  exact this
theorem RrAt.below {w w' : World} {G b : Nat} {s : RS} (h : RrAt G w b s) (hb : Below w.heap.size w w') : RrAt G w' b s := h.off (hb.block b h.lt) (fun k hk _ => hb.block k (Nat.lt_of_lt_of_le hk h.gs)) hb.size
/-- How a call on the reader ends. -/
def LR (G B b : Nat) (v : Value) (s' : RS) (w : World) (e : Ending) (w' : World) : Prop := e = .returned v ∧ RrAt G w' b s' ∧ SStp B (fun k => k = b) w w'

def failR (e : Int) (s : RS) : RS := if s.2 = 0 then (s.1, e) else s
def takeR (s : RS) : (List UInt8 × Bool) × RS := if s.2 = 0 then (match s.1 with
  | [] => (([], false), (s.1, 82))
  | x :: L => ((x, true), (L, s.2))) else (([], false), s)
def moreR (s : RS) : Bool := decide (s.2 = 0) && decide (0 < s.1.length)
def isR (x : List UInt8) (s : RS) : Bool := decide (s.2 = 0) && decide (s.1.head? = some x)
def oneR (x : List UInt8) (s : RS) : RS := if (takeR s).1.2 = true ∧ (takeR s).1.1 ≠ x then failR 80 (takeR s).2 else (takeR s).2
def restR (s : RS) : RS := if moreR s = true then failR 80 s else s

theorem qbeq (a c : List UInt8) : ((txtOf a).toList == (txtOf c).toList) = decide (a = c) := by
  rw [Lib.toList_data, Lib.toList_data, txt_list, txt_list]
  by_cases h : a = c
  · rw [h]; simp
  · simp [h]
theorem RrAt.put1 {w : World} {G b : Nat} {s : RS} (h : RrAt G w b s) (e : Int) : RrAt G (w.setCell ⟨b, 1, none⟩ (.int .i64 e)) b (s.1, e) := by
  obtain ⟨a, c, h1, h2, h3, h4⟩ := h.o
  refine ⟨⟨a, c, by rw [set_of h1]; rfl, h2, h3, fun h0 => ?_⟩, h.n, by simpa using h.gs⟩
  obtain ⟨g, off, e1, e2, e3, e4⟩ := h4 h0
  refine ⟨g, off, e1, e2, e3, fun j x hx => ?_⟩
  have := e4 j x hx
  simp only [World.cell?] at this ⊢
  rw [heap_setCell_other w ⟨b, 1, none⟩ g _ e2]
  exact this

set_option maxHeartbeats 1000000 in
theorem rfail_any {G B b : Nat} {s : RS} (e : Int) (w : World) (h : RrAt G w b s) (hB : B ≤ b) : Calls Tryz.prog 22 #[.pointer (some ⟨b, 0, none⟩), .int .i64 e] w (LR G B b (.tuple #[]) (failR e s) w) := by
  obtain ⟨a, c, h1, _⟩ := id h.o
  have c1 : w.cell? ⟨b, 1, none⟩ = some (.int .i64 s.2) := cell_of h1 1
  have z1 := frozen_of h1 1
  have HH : Hid (RrAt G w b s) := h
  clear h h1
  by_cases h0 : s.2 = 0
  · have HE : Hid (LR G B b (.tuple #[]) (failR e s) w (.returned (.tuple #[])) (w.setCell ⟨b, 1, none⟩ (.int .i64 e))) := by
      unfold failR; rw [if_pos h0]
      exact ⟨rfl, HH.out.put1 e, (Below.refl _ _).setCell hB _, Off.set _ rfl⟩
    rw [h0] at c1
    clear h0
    go_enter Tryz.func22, Tryz.ntmps22
    go_wp2_with fail
    go_end0
    exact HE.out
  · have HE : Hid (LR G B b (.tuple #[]) (failR e s) w (.returned (.tuple #[])) w) := by
      unfold failR; rw [if_neg h0]
      exact ⟨rfl, HH.out, SStp.refl _ _ _⟩
    obtain ⟨y, hy⟩ : ∃ y, s.2 = y := ⟨_, rfl⟩
    rw [hy] at c1 h0
    have h1 : (y == 0) = false := by simpa using h0
    clear hy h0
    go_enter Tryz.func22, Tryz.ntmps22
    go_wp2_with fail
    go_end0
    exact HE.out
end Go.Proofs.YtgckmkdmlaocmaaGreatDoor

namespace Go.Proofs.YtgckmkdmlaocmaaGreatDoor
open Go.RowKit

theorem RrAt.put0 {w : World} {G b g off c c' : Nat} {L : List (List UInt8)} {x : List UInt8} {e : Int} {a : Option Addr} (h : w.heap[b]? = some (.cells #[.slice (some ⟨g, off, none⟩) (L.length + 1) c, .int .i64 e] 59 (0, 0))) (hc : L.length ≤ c') (hc2 : c' ≤ 9223372036854775807) (hg : g ≠ b) (hgl : g < G) (hgs : G ≤ w.heap.size) (hx : ∀ j y, (x :: L)[j]? = some y → w.cell? ⟨g, off + j, none⟩ = some (.string (txtOf y))) (hn : ∀ y ∈ x :: L, y.length ≤ 9000000) (ha : 0 < L.length → a = some ⟨g, off + 1, none⟩) : RrAt G (w.setCell ⟨b, 0, none⟩ (.slice a L.length c')) b (L, e) := by
  refine ⟨⟨a, c', by rw [set_of h]; rfl, hc, hc2, fun h0 => ⟨g, off + 1, ha h0, hg, hgl, fun j y hy => ?_⟩⟩, fun y hy => hn y (List.mem_cons_of_mem _ hy), by simpa using hgs⟩
  have := hx (j + 1) y (by simpa using hy)
  rw [show off + (j + 1) = off + 1 + j by omega] at this
  simp only [World.cell?] at this ⊢
  rw [heap_setCell_other w ⟨b, 0, none⟩ g _ hg]
  exact this

set_option maxRecDepth 10000 in
set_option maxHeartbeats 1000000 in
theorem rtake_any {G B b : Nat} {s : RS} (w : World) (h : RrAt G w b s) (hB : B ≤ b) : Calls Tryz.prog 13 #[.pointer (some ⟨b, 0, none⟩)] w (LR G B b (.tuple #[.string (txtOf (takeR s).1.1), .bool (takeR s).1.2]) (takeR s).2 w) := by
  obtain ⟨a, c, h1, h2, h3, h4⟩ := id h.o
  have hn := h.n
  have c0 : w.cell? ⟨b, 0, none⟩ = some (.slice a s.1.length c) := cell_of h1 0
  have c1 : w.cell? ⟨b, 1, none⟩ = some (.int .i64 s.2) := cell_of h1 1
  have z0 := frozen_of h1 0
  have HH : Hid (RrAt G w b s) := h
  clear h
  obtain ⟨L, f⟩ := s
  by_cases h0 : f = 0
  · subst h0
    cases L with
    | nil =>
      have he : takeR ([], 0) = (([], false), ([], 82)) := rfl
      rw [he]
      have HF : Hid (Calls Tryz.prog 22 #[.pointer (some ⟨b, 0, none⟩), .int .i64 82] w (LR G B b (.tuple #[]) ([], 82) w)) := rfail_any (s := ([], 0)) 82 w HH.out hB
      simp only [List.length_nil] at c0
      clear h1 h2 h3 h4 he hn
      go_enter Tryz.func13, Tryz.ntmps13
      go_wp2_with fail
      refine calls_at HF.out (by with_reducible rfl) (by with_reducible rfl) ?_
      rintro e w1 ⟨rfl, q1, q2⟩
      have Q1 : Hid (RrAt G w1 b ([], 82)) := q1
      have Q2 : Hid (SStp B (fun k => k = b) w w1) := q2
      clear q1 q2
      go_wp2_with fail
      go_ret2
      exact ⟨rfl, Q1.out, Q2.out⟩
    | cons x L =>
      have he : takeR (x :: L, 0) = ((x, true), (L, 0)) := rfl
      rw [he]
      obtain ⟨g, off, rfl, e2, e3, e4⟩ := h4 (by simp)
      have cx : w.cell? ⟨g, off, none⟩ = some (.string (txtOf x)) := e4 0 x rfl
      simp only [List.length_cons] at c0 h1 h2 h3
      have hll : L.length + 1 ≤ 9223372036854775807 := by omega
      have HP : Hid (∀ (a' : Option Addr), (0 < L.length → a' = some ⟨g, off + 1, none⟩) → LR G B b (.tuple #[.string (txtOf x), .bool true]) (L, 0) w (.returned (.tuple #[.string (txtOf x), .bool true])) (w.setCell ⟨b, 0, none⟩ (.slice a' L.length (c - 1)))) := fun a' ha => ⟨rfl, RrAt.put0 h1 (by omega) (by omega) e2 e3 HH.out.gs e4 hn ha, (Below.refl _ _).setCell hB _, Off.set _ rfl⟩
      have HC : Hid (L.length + 1 ≤ c) := h2
      clear h1 h3 h4 he e4 hn h2
      go_enter Tryz.func13, Tryz.ntmps13
      go_wp2_with fail
      · have hc1 : c = 1 := by assumption
        go_ret2
        have hc := HC.out
        have := HP.out (some ⟨g, off, none⟩) (fun h0 => absurd h0 (by omega))
        rw [hc1] at this
        exact this
      · go_ret2
        exact HP.out (some ⟨g, off + 1, none⟩) (fun _ => rfl)
  · have he : takeR (L, f) = (([], false), (L, f)) := by unfold takeR; rw [if_neg h0]
    rw [he]
    have hf : (f != 0) = true := by simpa using h0
    clear h1 h2 h3 h4 he hn h0
    go_enter Tryz.func13, Tryz.ntmps13
    go_wp2_with fail
    go_ret2
    exact ⟨rfl, HH.out, SStp.refl _ _ _⟩

set_option maxRecDepth 10000 in
set_option maxHeartbeats 1000000 in
theorem rmore_any {G b : Nat} {s : RS} (w : World) (h : RrAt G w b s) : Calls Tryz.prog 27 #[.pointer (some ⟨b, 0, none⟩)] w fun e w' => e = .returned (.bool (moreR s)) ∧ w' = w := by
  obtain ⟨a, c, h1, _⟩ := id h.o
  have c0 : w.cell? ⟨b, 0, none⟩ = some (.slice a s.1.length c) := cell_of h1 0
  have c1 : w.cell? ⟨b, 1, none⟩ = some (.int .i64 s.2) := cell_of h1 1
  obtain ⟨L, f⟩ := s
  unfold moreR
  clear h h1
  obtain ⟨n, hn⟩ : ∃ n, L.length = n := ⟨_, rfl⟩
  simp only [hn] at c0 ⊢
  clear hn
  by_cases h0 : f = 0
  · subst h0
    go_enter Tryz.func27, Tryz.ntmps27
    go_wp2_with fail
    go_ret
    exact ⟨by simp, rfl⟩
  · have hf : (f == 0) = false := by simpa using h0
    rw [decide_eq_false h0, Bool.false_and]
    clear h0
    go_enter Tryz.func27, Tryz.ntmps27
    go_wp2_with fail
    go_ret
    exact ⟨rfl, rfl⟩

set_option maxRecDepth 10000 in
set_option maxHeartbeats 1000000 in
theorem ris_any {G b : Nat} {s : RS} (y : List UInt8) (w : World) (h : RrAt G w b s) : Calls Tryz.prog 46 #[.pointer (some ⟨b, 0, none⟩), .string (txtOf y)] w fun e w' => e = .returned (.bool (isR y s)) ∧ w' = w := by
  obtain ⟨a, c, h1, _, _, h4⟩ := id h.o
  have c0 : w.cell? ⟨b, 0, none⟩ = some (.slice a s.1.length c) := cell_of h1 0
  have c1 : w.cell? ⟨b, 1, none⟩ = some (.int .i64 s.2) := cell_of h1 1
  obtain ⟨L, f⟩ := s
  unfold isR
  clear h h1
  by_cases h0 : f = 0
  · subst h0
    cases L with
    | nil =>
      have e0 : (decide ((([] : List (List UInt8)), (0 : Int)).2 = 0) && decide ((([] : List (List UInt8)), (0 : Int)).1.head? = some y)) = false := by simp
      rw [e0]
      simp only [List.length_nil] at c0
      clear h4 e0
      go_enter Tryz.func46, Tryz.ntmps46
      go_wp2_with fail
      go_ret
      exact ⟨rfl, rfl⟩
    | cons x L =>
      obtain ⟨g, off, rfl, e2, e3, e4⟩ := h4 (by simp)
      have cx : w.cell? ⟨g, off, none⟩ = some (.string (txtOf x)) := e4 0 x rfl
      simp only [List.length_cons] at c0
      have hx := qbeq x y
      have e0 : (decide ((x :: L, (0 : Int)).2 = 0) && decide ((x :: L, (0 : Int)).1.head? = some y)) = decide (x = y) := by simp
      rw [e0]
      clear h4 e4 e0
      go_enter Tryz.func46, Tryz.ntmps46
      go_wp2_with fail
      go_ret
      exact ⟨by simp, rfl⟩
  · have hf : (f == 0) = false := by simpa using h0
    rw [decide_eq_false h0, Bool.false_and]
    clear h0 h4
    go_enter Tryz.func46, Tryz.ntmps46
    go_wp2_with fail
    go_ret
    exact ⟨rfl, rfl⟩

set_option maxRecDepth 10000 in
set_option maxHeartbeats 1000000 in
theorem rone_any {G B b : Nat} {s : RS} (y : List UInt8) (w : World) (h : RrAt G w b s) (hB : B ≤ b) : Calls Tryz.prog 29 #[.pointer (some ⟨b, 0, none⟩), .string (txtOf y)] w (LR G B b (.tuple #[]) (oneR y s) w) := by
  have HT : Hid (Calls Tryz.prog 13 #[.pointer (some ⟨b, 0, none⟩)] w (LR G B b (.tuple #[.string (txtOf (takeR s).1.1), .bool (takeR s).1.2]) (takeR s).2 w)) := rtake_any w h hB
  unfold oneR
  obtain ⟨r, hr⟩ : ∃ r, takeR s = r := ⟨_, rfl⟩
  rw [hr] at HT ⊢
  obtain ⟨⟨x, t⟩, s'⟩ := r
  have hx := qbeq x y
  have HF : Hid (∀ w1, RrAt G w1 b s' → Calls Tryz.prog 22 #[.pointer (some ⟨b, 0, none⟩), .int .i64 80] w1 (LR G B b (.tuple #[]) (failR 80 s') w1)) := fun w1 h1 => rfail_any 80 w1 h1 hB
  clear h hr
  simp only at HT ⊢
  cases t with
  | false =>
    rw [if_neg (by simp)]
    go_enter Tryz.func29, Tryz.ntmps29
    go_wp2_with fail
    refine calls_at HT.out (by with_reducible rfl) (by with_reducible rfl) ?_
    rintro e w1 ⟨rfl, q1, q2⟩
    have Q1 : Hid (RrAt G w1 b s') := q1
    have Q2 : Hid (SStp B (fun k => k = b) w w1) := q2
    clear q1 q2
    go_wp2_with fail
    go_end0
    exact ⟨rfl, Q1.out, Q2.out⟩
  | true =>
    by_cases hxy : x = y
    · rw [if_neg (by simp [hxy])]
      rw [decide_eq_true hxy] at hx
      clear hxy
      go_enter Tryz.func29, Tryz.ntmps29
      go_wp2_with fail
      refine calls_at HT.out (by with_reducible rfl) (by with_reducible rfl) ?_
      rintro e w1 ⟨rfl, q1, q2⟩
      have Q1 : Hid (RrAt G w1 b s') := q1
      have Q2 : Hid (SStp B (fun k => k = b) w w1) := q2
      clear q1 q2
      go_wp2_with fail
      go_end0
      exact ⟨rfl, Q1.out, Q2.out⟩
    · rw [if_pos ⟨rfl, hxy⟩]
      rw [decide_eq_false hxy] at hx
      clear hxy
      go_enter Tryz.func29, Tryz.ntmps29
      go_wp2_with fail
      refine calls_at HT.out (by with_reducible rfl) (by with_reducible rfl) ?_
      rintro e w1 ⟨rfl, q1, q2⟩
      have Q1 : Hid (RrAt G w1 b s') := q1
      have Q2 : Hid (SStp B (fun k => k = b) w w1) := q2
      clear q1 q2
      go_wp2_with fail
      refine calls_at (HF.out w1 Q1.out) (by with_reducible rfl) (by with_reducible rfl) ?_
      rintro e w2 ⟨rfl, q1, q2⟩
      have Q3 : Hid (RrAt G w2 b (failR 80 s')) := q1
      have Q4 : Hid (SStp B (fun k => k = b) w w2) := Q2.out.trans q2
      clear q1 q2
      go_wp2_with fail
      go_end0
      exact ⟨rfl, Q3.out, Q4.out⟩

set_option maxRecDepth 10000 in
set_option maxHeartbeats 1000000 in
theorem rrest_any {G B b : Nat} {s : RS} (w : World) (h : RrAt G w b s) (hB : B ≤ b) : Calls Tryz.prog 15 #[.pointer (some ⟨b, 0, none⟩)] w (LR G B b (.tuple #[]) (restR s) w) := by
  have HM : Hid (Calls Tryz.prog 27 #[.pointer (some ⟨b, 0, none⟩)] w fun e w' => e = .returned (.bool (moreR s)) ∧ w' = w) := rmore_any w h
  have HF : Hid (Calls Tryz.prog 22 #[.pointer (some ⟨b, 0, none⟩), .int .i64 80] w (LR G B b (.tuple #[]) (failR 80 s) w)) := rfail_any 80 w h hB
  have HH : Hid (RrAt G w b s) := h
  unfold restR
  cases hm : moreR s with
  | false =>
    rw [if_neg (by simp)]
    rw [hm] at HM
    clear h hm
    go_enter Tryz.func15, Tryz.ntmps15
    go_wp2_with fail
    refine calls_at HM.out (by with_reducible rfl) (by with_reducible rfl) ?_
    rintro e w1 ⟨rfl, hw⟩
    rw [hw]
    go_wp2_with fail
    go_end0
    exact ⟨rfl, HH.out, SStp.refl _ _ _⟩
  | true =>
    rw [if_pos rfl]
    rw [hm] at HM
    clear h hm
    go_enter Tryz.func15, Tryz.ntmps15
    go_wp2_with fail
    refine calls_at HM.out (by with_reducible rfl) (by with_reducible rfl) ?_
    rintro e w1 ⟨rfl, hw⟩
    rw [hw]
    go_wp2_with fail
    refine calls_at HF.out (by with_reducible rfl) (by with_reducible rfl) ?_
    rintro e w2 ⟨rfl, q1, q2⟩
    have Q3 : Hid (RrAt G w2 b (failR 80 s)) := q1
    have Q4 : Hid (SStp B (fun k => k = b) w w2) := q2
    clear q1 q2
    go_wp2_with fail
    go_end0
    exact ⟨rfl, Q3.out, Q4.out⟩
end Go.Proofs.YtgckmkdmlaocmaaGreatDoor
