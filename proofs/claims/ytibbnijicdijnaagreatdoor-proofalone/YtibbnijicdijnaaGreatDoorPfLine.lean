/-
  Package proof: a line that is read: fail, take, next, must, end.
-/
import Derived.Test.YtibbnijicdijnaaGreatDoorPfAny
namespace Go.Proofs.YtibbnijicdijnaaGreatDoor
open Go.RowKit

/-- What is left of a line, and its fault. -/
abbrev Ls := List UInt8 × Option Int
def fv : Option Int → Value
  | none => .nilIface
  | some e => .iface 35 (.int .i64 e)
structure LnAt (w : World) (b : Nat) (s : Ls) : Prop where
  o : w.heap[b]? = some (.cells #[.string (txtOf s.1), fv s.2] 135 (0, 0))
  n : s.1.length ≤ 1000000
theorem LnAt.lt {w : World} {b : Nat} {s : Ls} (h : LnAt w b s) : b < w.heap.size := (Array.getElem?_eq_some_iff.1 h.o).1
theorem LnAt.below {w w' : World} {b : Nat} {s : Ls} (h : LnAt w b s) (hb : Below w.heap.size w w') : LnAt w' b s := ⟨(hb.block b h.lt).trans h.o, h.n⟩
theorem LnAt.put0 {w : World} {b : Nat} {s : Ls} (h : LnAt w b s) (r : List UInt8) (hr : r.length ≤ 1000000) : LnAt (w.setCell ⟨b, 0, none⟩ (.string (txtOf r))) b (r, s.2) := ⟨set_of h.o 0 _, hr⟩
theorem LnAt.put1 {w : World} {b : Nat} {s : Ls} (h : LnAt w b s) (e : Option Int) : LnAt (w.setCell ⟨b, 1, none⟩ (fv e)) b (s.1, e) := ⟨set_of h.o 1 _, h.n⟩
/-- How a call ends that reads on. -/
def LO (B b : Nat) (v : Value) (s' : Ls) (w : World) (e : Ending) (w' : World) : Prop := e = .returned v ∧ LnAt w' b s' ∧ SStp B (fun k => k = b) w w'

def failP (e : Int) (s : Ls) : Ls := match s.2 with
  | none => (s.1, some e)
  | some _ => s
def takeP (s : Ls) : (List UInt8 × Bool) × Ls := if s.2.isSome ∨ s.1.dropWhile blk = [] then (([], false), s) else (((s.1.dropWhile blk).take (wlen (s.1.dropWhile blk)), true), ((s.1.dropWhile blk).drop (wlen (s.1.dropWhile blk)), s.2))
def nextP (s : Ls) : List UInt8 × Ls := if (takeP s).1.2 = true then ((takeP s).1.1, (takeP s).2) else ([], failP 82 (takeP s).2)
def mustP (x : List UInt8) (s : Ls) : Ls := if (nextP s).1 = x then (nextP s).2 else failP 80 (nextP s).2
def endP (s : Ls) : Ls := if (takeP s).1.2 = true then failP 80 (takeP s).2 else (takeP s).2

set_option maxHeartbeats 1000000 in
theorem fail_any {B b : Nat} {s : Ls} (e : Int) (w : World) (h : LnAt w b s) (hB : B ≤ b) : Calls Tryz.prog 112 #[.pointer (some ⟨b, 0, none⟩), .int .i64 e] w (LO B b (.tuple #[]) (failP e s) w) := by
  have c1 : w.cell? ⟨b, 1, none⟩ = some (fv s.2) := cell_of h.o 1
  have z1 := frozen_of h.o 1
  obtain ⟨r, f⟩ := s
  cases f with
  | none =>
    have HE : Hid (LO B b (.tuple #[]) (failP e (r, none)) w (.returned (.tuple #[])) (w.setCell ⟨b, 1, none⟩ (.iface 35 (.int .i64 e)))) := ⟨rfl, h.put1 (some e), (Below.refl _ _).setCell hB _, Off.set _ rfl⟩
    simp only [fv] at c1
    clear h
    go_enter Tryz.func112, Tryz.ntmps112
    go_wp2_with fail
    go_end0
    exact HE.out
  | some x =>
    have HE : Hid (LO B b (.tuple #[]) (failP e (r, some x)) w (.returned (.tuple #[])) w) := ⟨rfl, h, SStp.refl _ _ _⟩
    simp only [fv] at c1
    clear h
    go_enter Tryz.func112, Tryz.ntmps112
    go_wp2_with fail
    go_end0
    exact HE.out

set_option maxRecDepth 10000 in
set_option maxHeartbeats 2000000 in
theorem take_any {B b : Nat} {s : Ls} (w : World) (h : LnAt w b s) (hB : B ≤ b) : Calls Tryz.prog 113 #[.pointer (some ⟨b, 0, none⟩)] w (LO B b (.tuple #[.string (txtOf (takeP s).1.1), .bool (takeP s).1.2]) (takeP s).2 w) := by
  obtain ⟨l, f⟩ := s
  have hn := h.n
  have hBw : B ≤ w.heap.size := Nat.le_of_lt (Nat.lt_of_le_of_lt hB h.lt)
  have c0 : w.cell? ⟨b, 0, none⟩ = some (.string (txtOf l)) := cell_of h.o 0
  obtain ⟨r, hr⟩ : ∃ r, l.dropWhile blk = r := ⟨_, rfl⟩
  have hrl : r.length ≤ 1000000 := by rw [← hr]; exact Nat.le_trans (List.dropWhile_sublist _).length_le hn
  obtain ⟨L, hL⟩ : ∃ L, txtOf l = L := ⟨_, rfl⟩
  obtain ⟨R, hR⟩ : ∃ R, txtOf r = R := ⟨_, rfl⟩
  have HT : Hid (Calls Tryz.prog 140 #[.string L, .string ⟨#[32, 9]⟩] w fun e w' => e = .returned (.string R) ∧ Below w.heap.size w w') := by
    have := trimL_any (txtOf l) w
    rw [txt_list, hr, hL, hR] at this
    exact this
  have hRs : R.size = r.length := by rw [← hR]; exact txt_size r
  have hRl : R.data.toList = r := by rw [← hR]; exact txt_list r
  have HA : Hid (∀ w', Calls Tryz.prog 141 #[.string R, .string ⟨#[32, 9]⟩] w' fun e w2 => e = .returned (.int .i64 (if wlen r < r.length then (wlen r : Int) else -1)) ∧ Below w'.heap.size w' w2) := fun w' => by
    have := any_blank R w' (by omega)
    rw [hRl, hRs] at this
    exact this
  have HW : Hid (∀ w', Below w.heap.size w w' → w'.cell? ⟨b, 0, none⟩ = some (.string L) ∧ w'.cell? ⟨b, 1, none⟩ = some (fv f) ∧ w'.frozen? ⟨b, 0, none⟩ = false) := fun w' hb => by
    have h1 := (h.below hb).o
    exact ⟨by rw [← hL]; exact cell_of h1 0, cell_of h1 1, frozen_of h1 0⟩
  have HL : Hid (LnAt w b (l, f)) := h
  rw [hL] at c0
  cases f with
  | some x =>
    have he : takeP (l, some x) = (([], false), (l, some x)) := by unfold takeP; rw [if_pos (.inl rfl)]
    rw [he]
    clear h hL hR hRl hRs hr he
    go_enter Tryz.func113, Tryz.ntmps113
    go_wp2_with fail
    refine calls_at HT.out (by with_reducible rfl) (by with_reducible rfl) ?_
    rintro e w1 ⟨rfl, hb1⟩
    obtain ⟨_, y1, _⟩ := HW.out w1 hb1
    simp only [fv] at y1
    have HB1 : Hid (Below w.heap.size w w1) := hb1
    clear hb1
    go_wp2_with fail
    go_ret2
    exact ⟨rfl, HL.out.below HB1.out, SStp.of_below HB1.out hBw⟩
  | none =>
    by_cases h0 : r = []
    · have he : takeP (l, none) = (([], false), (l, none)) := by unfold takeP; rw [if_pos (.inr (hr.trans h0))]
      have hem : R.toList.isEmpty = true := by rw [Lib.toList_data, hRl, h0]; rfl
      rw [he]
      clear h hL hR hRl hRs hr he h0
      go_enter Tryz.func113, Tryz.ntmps113
      go_wp2_with fail
      refine calls_at HT.out (by with_reducible rfl) (by with_reducible rfl) ?_
      rintro e w1 ⟨rfl, hb1⟩
      obtain ⟨_, y1, _⟩ := HW.out w1 hb1
      simp only [fv] at y1
      have HB1 : Hid (Below w.heap.size w w1) := hb1
      clear hb1
      go_wp2_with fail
      go_ret2
      exact ⟨rfl, HL.out.below HB1.out, SStp.of_below HB1.out hBw⟩
    · have he : takeP (l, none) = ((r.take (wlen r), true), (r.drop (wlen r), none)) := by unfold takeP; rw [if_neg (fun e => e.elim (fun e => by cases e) (fun e => h0 (hr.symm.trans e))), hr]
      have hem : R.toList.isEmpty = false := by
        rw [Lib.toList_data, hRl]
        cases r with
        | nil => exact absurd rfl h0
        | cons _ _ => rfl
      rw [he]
      have hwl := wlen_le r
      obtain ⟨n, hn2⟩ : ∃ n, wlen r = n := ⟨_, rfl⟩
      rw [hn2] at HA hwl
      have x1 : R.extract n r.length = txtOf (r.drop n) := by rw [← hR, ext_txt, List.take_of_length_le (by simp)]
      have x2 : R.extract 0 n = txtOf (r.take n) := by rw [← hR, ext_txt]; simp
      have hnI : (n : Int) ≤ (R.size : Int) := by omega
      have HE : Hid (∀ w2, Below w.heap.size w w2 → LO B b (.tuple #[.string (txtOf (r.take n)), .bool true]) (r.drop n, none) w (.returned (.tuple #[.string (txtOf (r.take n)), .bool true])) (w2.setCell ⟨b, 0, none⟩ (.string (txtOf (r.drop n))))) := fun w2 hb => ⟨rfl, (HL.out.below hb).put0 (r.drop n) (by simp; omega), (hb.mono hBw).setCell hB _, (Off.of_below hb).trans (Off.set _ rfl)⟩
      rw [hn2]
      by_cases hlt : n < r.length
      · rw [if_pos hlt] at HA
        have hn0 : ¬ (n : Int) < 0 := by omega
        clear h hL hR hRl hr he h0 hn2
        go_enter Tryz.func113, Tryz.ntmps113
        go_wp2_with fail
        refine calls_at HT.out (by with_reducible rfl) (by with_reducible rfl) ?_
        rintro e w1 ⟨rfl, hb1⟩
        obtain ⟨_, y1, _⟩ := HW.out w1 hb1
        simp only [fv] at y1
        have HB1 : Hid (Below w.heap.size w w1) := hb1
        clear hb1
        go_wp2_with fail
        refine calls_at (HA.out w1) (by with_reducible rfl) (by with_reducible rfl) ?_
        rintro e w2 ⟨rfl, hb2⟩
        have HB2 : Hid (Below w.heap.size w w2) := bl_next HB1.out hb2
        obtain ⟨y0, _, z0⟩ := HW.out w2 HB2.out
        clear hb2 y1
        go_wp2_with fail
        go_ret2
        obtain ⟨_, q2, q3⟩ := HE.out w2 HB2.out
        exact ⟨rfl, q2, q3⟩
      · rw [if_neg hlt] at HA
        have hnR : n = R.size := by omega
        have X5 : Hid (txtOf (r.drop n) = ByteArray.empty) := by show _ = _; rw [List.drop_eq_nil_of_le (by omega)]; rfl
        have x4 : R.extract 0 r.length = txtOf (r.take n) := by rw [← x2, ← hRs, hnR]
        clear h hL hR hRl hr he h0 hn2 x1 x2 hnI hnR
        go_enter Tryz.func113, Tryz.ntmps113
        go_wp2_with fail
        refine calls_at HT.out (by with_reducible rfl) (by with_reducible rfl) ?_
        rintro e w1 ⟨rfl, hb1⟩
        obtain ⟨_, y1, _⟩ := HW.out w1 hb1
        simp only [fv] at y1
        have HB1 : Hid (Below w.heap.size w w1) := hb1
        clear hb1
        go_wp2_with fail
        refine calls_at (HA.out w1) (by with_reducible rfl) (by with_reducible rfl) ?_
        rintro e w2 ⟨rfl, hb2⟩
        have HB2 : Hid (Below w.heap.size w w2) := bl_next HB1.out hb2
        obtain ⟨y0, _, z0⟩ := HW.out w2 HB2.out
        clear hb2 y1
        go_wp2_with fail
        go_ret2
        obtain ⟨_, q2, q3⟩ := HE.out w2 HB2.out
        rw [X5.out] at q2 q3
        exact ⟨rfl, q2, q3⟩
theorem take_none {s : Ls} (h : (takeP s).1.2 = false) : (takeP s).1.1 = [] := by
  unfold takeP at h ⊢
  split
  · rfl
  · rename_i h1
    rw [if_neg h1] at h
    cases h

set_option maxHeartbeats 1000000 in
theorem next_any {B b : Nat} {s : Ls} (w : World) (h : LnAt w b s) (hB : B ≤ b) : Calls Tryz.prog 108 #[.pointer (some ⟨b, 0, none⟩)] w (LO B b (.string (txtOf (nextP s).1)) (nextP s).2 w) := by
  have HT : Hid (Calls Tryz.prog 113 #[.pointer (some ⟨b, 0, none⟩)] w (LO B b (.tuple #[.string (txtOf (takeP s).1.1), .bool (takeP s).1.2]) (takeP s).2 w)) := take_any w h hB
  have HF : Hid (∀ w', LnAt w' b (takeP s).2 → Calls Tryz.prog 112 #[.pointer (some ⟨b, 0, none⟩), .int .i64 82] w' (LO B b (.tuple #[]) (failP 82 (takeP s).2) w')) := fun w' h' => fail_any 82 w' h' hB
  unfold nextP
  cases hk : (takeP s).1.2 with
  | true =>
    rw [hk] at HT
    simp only [if_true]
    clear h
    go_enter Tryz.func108, Tryz.ntmps108
    go_wp2_with fail
    refine calls_at HT.out (by with_reducible rfl) (by with_reducible rfl) ?_
    rintro e w1 ⟨rfl, h1, h2⟩
    have H1 : Hid (LnAt w1 b (takeP s).2 ∧ SStp B (fun k => k = b) w w1) := ⟨h1, h2⟩
    clear h1 h2
    go_wp2_with fail
    go_ret
    exact ⟨rfl, H1.out.1, H1.out.2⟩
  | false =>
    rw [hk, take_none hk] at HT
    simp only [Bool.false_eq_true, if_false]
    clear h
    go_enter Tryz.func108, Tryz.ntmps108
    go_wp2_with fail
    refine calls_at HT.out (by with_reducible rfl) (by with_reducible rfl) ?_
    rintro e w1 ⟨rfl, h1, h2⟩
    have H1 : Hid (LnAt w1 b (takeP s).2 ∧ SStp B (fun k => k = b) w w1) := ⟨h1, h2⟩
    clear h1 h2
    go_wp2_with fail
    refine calls_at (HF.out w1 H1.out.1) (by with_reducible rfl) (by with_reducible rfl) ?_
    rintro e w2 ⟨rfl, h3, h4⟩
    have H2 : Hid (LnAt w2 b (failP 82 (takeP s).2) ∧ SStp B (fun k => k = b) w w2) := ⟨h3, H1.out.2.trans h4⟩
    clear h3 h4
    go_wp2_with fail
    go_ret
    exact ⟨rfl, H2.out.1, H2.out.2⟩
theorem txt_inj {a c : List UInt8} (h : txtOf a = txtOf c) : a = c := by
  have := congrArg (fun s : ByteArray => s.data.toList) h
  simpa [txtOf] using this
theorem txt_beq (a c : List UInt8) : ((txtOf a).toList == (txtOf c).toList) = decide (a = c) := by
  rw [Lib.toList_data, Lib.toList_data, txt_list, txt_list]
  by_cases h : a = c
  · rw [h]; simp
  · simp [h]

set_option maxHeartbeats 1000000 in
theorem must_any {B b : Nat} {s : Ls} (x : List UInt8) (w : World) (h : LnAt w b s) (hB : B ≤ b) : Calls Tryz.prog 111 #[.pointer (some ⟨b, 0, none⟩), .string (txtOf x)] w (LO B b (.tuple #[]) (mustP x s) w) := by
  have HT : Hid (Calls Tryz.prog 108 #[.pointer (some ⟨b, 0, none⟩)] w (LO B b (.string (txtOf (nextP s).1)) (nextP s).2 w)) := next_any w h hB
  have HF : Hid (∀ w', LnAt w' b (nextP s).2 → Calls Tryz.prog 112 #[.pointer (some ⟨b, 0, none⟩), .int .i64 80] w' (LO B b (.tuple #[]) (failP 80 (nextP s).2) w')) := fun w' h' => fail_any 80 w' h' hB
  have hq := txt_beq (nextP s).1 x
  unfold mustP
  by_cases hk : (nextP s).1 = x
  · rw [decide_eq_true hk] at hq
    rw [if_pos hk]
    clear h hk
    go_enter Tryz.func111, Tryz.ntmps111
    go_wp2_with fail
    refine calls_at HT.out (by with_reducible rfl) (by with_reducible rfl) ?_
    rintro e w1 ⟨rfl, h1, h2⟩
    have H1 : Hid (LnAt w1 b (nextP s).2 ∧ SStp B (fun k => k = b) w w1) := ⟨h1, h2⟩
    clear h1 h2
    go_wp2_with fail
    go_end0
    exact ⟨rfl, H1.out.1, H1.out.2⟩
  · rw [decide_eq_false hk] at hq
    rw [if_neg hk]
    clear h hk
    go_enter Tryz.func111, Tryz.ntmps111
    go_wp2_with fail
    refine calls_at HT.out (by with_reducible rfl) (by with_reducible rfl) ?_
    rintro e w1 ⟨rfl, h1, h2⟩
    have H1 : Hid (LnAt w1 b (nextP s).2 ∧ SStp B (fun k => k = b) w w1) := ⟨h1, h2⟩
    clear h1 h2
    go_wp2_with fail
    refine calls_at (HF.out w1 H1.out.1) (by with_reducible rfl) (by with_reducible rfl) ?_
    rintro e w2 ⟨rfl, h3, h4⟩
    have H2 : Hid (LnAt w2 b (failP 80 (nextP s).2) ∧ SStp B (fun k => k = b) w w2) := ⟨h3, H1.out.2.trans h4⟩
    clear h3 h4
    go_wp2_with fail
    go_end0
    exact ⟨rfl, H2.out.1, H2.out.2⟩

set_option maxHeartbeats 1000000 in
theorem end_any {B b : Nat} {s : Ls} (w : World) (h : LnAt w b s) (hB : B ≤ b) : Calls Tryz.prog 72 #[.pointer (some ⟨b, 0, none⟩)] w (LO B b (.tuple #[]) (endP s) w) := by
  have HT : Hid (Calls Tryz.prog 113 #[.pointer (some ⟨b, 0, none⟩)] w (LO B b (.tuple #[.string (txtOf (takeP s).1.1), .bool (takeP s).1.2]) (takeP s).2 w)) := take_any w h hB
  have HF : Hid (∀ w', LnAt w' b (takeP s).2 → Calls Tryz.prog 112 #[.pointer (some ⟨b, 0, none⟩), .int .i64 80] w' (LO B b (.tuple #[]) (failP 80 (takeP s).2) w')) := fun w' h' => fail_any 80 w' h' hB
  unfold endP
  cases hk : (takeP s).1.2 with
  | false =>
    rw [hk] at HT
    simp only [Bool.false_eq_true, if_false]
    clear h
    go_enter Tryz.func72, Tryz.ntmps72
    go_wp2_with fail
    refine calls_at HT.out (by with_reducible rfl) (by with_reducible rfl) ?_
    rintro e w1 ⟨rfl, h1, h2⟩
    have H1 : Hid (LnAt w1 b (takeP s).2 ∧ SStp B (fun k => k = b) w w1) := ⟨h1, h2⟩
    clear h1 h2
    go_wp2_with fail
    go_end0
    exact ⟨rfl, H1.out.1, H1.out.2⟩
  | true =>
    rw [hk] at HT
    simp only [if_true]
    clear h
    go_enter Tryz.func72, Tryz.ntmps72
    go_wp2_with fail
    refine calls_at HT.out (by with_reducible rfl) (by with_reducible rfl) ?_
    rintro e w1 ⟨rfl, h1, h2⟩
    have H1 : Hid (LnAt w1 b (takeP s).2 ∧ SStp B (fun k => k = b) w w1) := ⟨h1, h2⟩
    clear h1 h2
    go_wp2_with fail
    refine calls_at (HF.out w1 H1.out.1) (by with_reducible rfl) (by with_reducible rfl) ?_
    rintro e w2 ⟨rfl, h3, h4⟩
    have H2 : Hid (LnAt w2 b (failP 80 (takeP s).2) ∧ SStp B (fun k => k = b) w w2) := ⟨h3, H1.out.2.trans h4⟩
    clear h3 h4
    go_wp2_with fail
    go_end0
    exact ⟨rfl, H2.out.1, H2.out.2⟩
end Go.Proofs.YtibbnijicdijnaaGreatDoor
