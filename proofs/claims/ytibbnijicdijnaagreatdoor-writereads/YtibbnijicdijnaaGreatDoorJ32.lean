/-
  Put together: PfWords, PfLits, PfPRow.
-/
import Derived.Test.YtibbnijicdijnaaGreatDoorJ07
import Derived.Test.YtibbnijicdijnaaGreatDoorPfSame
namespace Go.Proofs.YtibbnijicdijnaaGreatDoor
open Go.RowKit

/-- A block that no page writes. -/
def Ext (B : Nat) (w : World) (g : Nat) : Prop := g < B ∨ ∃ c ty fz, w.heap[g]? = some (.cells c ty fz) ∧ ty ≠ 5 ∧ ty ≠ 125
theorem Ext.keep {B g : Nat} {w w' : World} (h : Ext B w g) (k : Kq B w w') : w'.heap[g]? = w.heap[g]? := by
  rcases h with h | ⟨c, ty, fz, h1, h2, h3⟩
  · exact k.low.block g h
  · exact (k.other g c ty fz h1 h2 h3).trans h1.symm
theorem Ext.next {B g : Nat} {w w' : World} (h : Ext B w g) (k : Kq B w w') : Ext B w' g := by
  have hk := h.keep k
  rcases h with h | ⟨c, ty, fz, h1, h2, h3⟩
  · exact .inl h
  · exact .inr ⟨c, ty, fz, hk.trans h1, h2, h3⟩
/-- A row of values in such a block. -/
def RdE (B : Nat) (w : World) (v : Value) (n : Nat) (xs : List Value) : Prop := ∃ a cap, v = .slice a n cap ∧ n ≤ 9223372036854775807 ∧ (0 < n → ∃ g off, a = some ⟨g, off, none⟩ ∧ Ext B w g ∧ g < w.heap.size ∧ ∀ j u, xs[j]? = some u → w.cell? ⟨g, off + j, none⟩ = some u)
theorem RdE.next {B : Nat} {w w' : World} {v : Value} {n : Nat} {xs : List Value} (h : RdE B w v n xs) (k : Kq B w w') : RdE B w' v n xs := by
  obtain ⟨a, cap, h1, h2, h3⟩ := h
  refine ⟨a, cap, h1, h2, fun h0 => ?_⟩
  obtain ⟨g, off, e1, e2, e3, e4⟩ := h3 h0
  refine ⟨g, off, e1, e2.next k, Nat.lt_of_lt_of_le e3 k.low.size, fun j u hu => ?_⟩
  have := e4 j u hu
  simp only [World.cell?] at this ⊢
  rw [e2.keep k]
  exact this
theorem RdE.cell {B : Nat} {w : World} {a : Option Addr} {n cap : Nat} {xs : List Value} (h : RdE B w (.slice a n cap) n xs) (j : Nat) (hj : j < n) : ∃ g off, a = some ⟨g, off, none⟩ ∧ ∀ i u, xs[i]? = some u → w.cell? ⟨g, off + i, none⟩ = some u := by
  obtain ⟨a', cap', h1, h2, h3⟩ := h
  injection h1 with q1 q2 q3
  subst q1
  obtain ⟨g, off, e1, _, _, e4⟩ := h3 (by omega)
  exact ⟨g, off, e1, e4⟩
/-- A word more. -/
def wordP (l x : List UInt8) : List UInt8 := if 0 < l.length then l ++ 32 :: x else l ++ x
def wordsP (L : List (List UInt8)) (l : List UInt8) : List UInt8 := L.foldl wordP l
def tot (L : List (List UInt8)) : Nat := (L.map fun x => x.length + 1).sum
theorem word_len (l x : List UInt8) : (wordP l x).length ≤ l.length + x.length + 1 := by unfold wordP; split <;> simp <;> omega
theorem words_len (L : List (List UInt8)) (l : List UInt8) : (wordsP L l).length ≤ l.length + tot L := by
  induction L generalizing l with
  | nil => simp [wordsP, tot]
  | cons x L ih =>
    have h1 := ih (wordP l x)
    have h2 := word_len l x
    have e1 : wordsP (x :: L) l = wordsP L (wordP l x) := rfl
    have e2 : tot (x :: L) = x.length + 1 + tot L := by simp [tot]
    rw [e1, e2]
    omega
theorem tot_take (L : List (List UInt8)) (i : Nat) (hi : i < L.length) : tot (L.take i) + (L[i].length + 1) ≤ tot L := by
  have h : tot L = tot (L.take i) + tot (L.drop i) := by
    unfold tot
    rw [← List.sum_append, ← List.map_append, List.take_append_drop]
  have h2 : tot (L.drop i) = L[i].length + 1 + tot (L.drop (i + 1)) := by
    rw [List.drop_eq_getElem_cons hi]
    simp only [tot, List.map_cons, List.sum_cons]
  omega

set_option maxRecDepth 10000 in
set_option maxHeartbeats 2000000 in
theorem words_any {B b : Nat} {l : List UInt8} (L : List (List UInt8)) (v : Value) (w : World) (h : PageAt B b l w) (hR : RdE B w v L.length (L.map fun x => .string (txtOf x))) (hl : l.length + tot L ≤ 900000000) (hBw : B ≤ w.heap.size) : Calls Tryz.prog 80 #[.pointer (some ⟨b, 0, none⟩), v] w fun e w' => e = .returned (.pointer (some ⟨b, 0, none⟩)) ∧ PageAt B b (wordsP L l) w' ∧ Kq B w w' := by
  have HR : Hid (RdE B w v L.length (L.map fun x => .string (txtOf x))) := hR
  obtain ⟨a, cap, rfl, hn, _⟩ := hR
  have H0 : Hid (PageAt B b l w) := h
  clear h
  go_enter Tryz.func80, Tryz.ntmps80
  go_wp2_with fail
  go_loopw [9] (fun iv wr => ∃ i : Nat, iv = .int .i64 (i : Int) ∧ i ≤ L.length ∧ Hid (PageAt B b (wordsP (L.take i) l) wr ∧ Kq B w wr)) (fun iv _ => L.length - (intOf iv).toNat)
  case atStart => exact ⟨0, rfl, Nat.zero_le _, H0.out, Kq.refl _ _⟩
  case round =>
    obtain ⟨i, rfl, hi, HP⟩ := hrel
    by_cases hin : i < L.length
    · have hiI : (i : Int) < (L.length : Int) := by omega
      obtain ⟨g, off, rfl, hce⟩ := (HR.out.next HP.out.2).cell i hin
      have c0 := hce i (.string (txtOf L[i])) (by simp [hin])
      obtain ⟨y, hy⟩ : ∃ y, L[i] = y := ⟨_, rfl⟩
      rw [hy] at c0
      obtain ⟨m, hm⟩ : ∃ m, wordsP (L.take i) l = m := ⟨_, rfl⟩
      have HN : Hid (wordsP (L.take (i + 1)) l = wordP m y) := by
        show _ = _
        rw [List.take_succ_eq_append_getElem hin, hy, ← hm]
        simp [wordsP, List.foldl_append]
      have hml : m.length + y.length + 1 ≤ 900000000 := by
        have h1 := words_len (L.take i) l
        have h2 := tot_take L i hin
        rw [hm] at h1
        rw [hy] at h2
        omega
      have HPm : Hid (PageAt B b m wr ∧ Kq B w wr) := by rw [← hm]; exact HP.out
      have hBr : B ≤ wr.heap.size := Nat.le_trans hBw HP.out.2.low.size
      have HLn : Hid (Calls Tryz.prog 118 #[.pointer (some ⟨b, 0, none⟩)] wr fun e w' => e = .returned (.int .i64 (m.length : Int)) ∧ w' = wr) := len_any B b m wr HPm.out.1
      clear hce hy hm
      by_cases h0 : 0 < m.length
      · have h0I : (0 : Int) < (m.length : Int) := by omega
        have HW1 : Hid (Calls Tryz.prog 38 #[.pointer (some ⟨b, 0, none⟩), .int .u8 32] wr fun e w' => e = .returned .nilIface ∧ PageAt B b (m ++ [32]) w' ∧ Kq B wr w') := writeByte_any B b m 32 32 rfl wr HPm.out.1 (by omega) hBr
        go_wp2_with fail
        refine calls_at HLn.out (by with_reducible rfl) (by with_reducible rfl) ?_
        rintro e w1 ⟨rfl, rfl⟩
        go_wp2_with fail
        refine calls_at HW1.out (by with_reducible rfl) (by with_reducible rfl) ?_
        rintro e w2 ⟨rfl, hp2, hk2⟩
        have HW2 : Hid (Calls Tryz.prog 37 #[.pointer (some ⟨b, 0, none⟩), .string (txtOf y)] w2 fun e w' => e = .returned (.tuple #[.int .i64 (txtOf y).size, .nilIface]) ∧ PageAt B b (wordP m y) w' ∧ Kq B w2 w') := by
          have := writeString_any B b (m ++ [32]) (txtOf y) w2 hp2 (by rw [txt_size]; simp; omega) (Nat.le_trans hBr hk2.low.size)
          rw [txt_list, List.append_assoc] at this
          have e : wordP m y = m ++ ([32] ++ y) := by unfold wordP; rw [if_pos h0]; rfl
          rw [e]
          exact this
        have HK2 : Hid (Kq B w w2) := HPm.out.2.trans hk2
        clear hp2 hk2
        go_wp2_with fail
        refine calls_at HW2.out (by with_reducible rfl) (by with_reducible rfl) ?_
        rintro e w3 ⟨rfl, hp3, hk3⟩
        have H3 : Hid (PageAt B b (wordsP (L.take (i + 1)) l) w3 ∧ Kq B w w3) := by rw [HN.out]; exact ⟨hp3, HK2.out.trans hk3⟩
        clear hp3 hk3
        go_wp2_with fail
        go_roundw
        case rel => exact ⟨i + 1, by go_num, hin, H3⟩
        case measure => simp [intOf]; omega
      · have h0I : ¬ (0 : Int) < (m.length : Int) := by omega
        have HW2 : Hid (Calls Tryz.prog 37 #[.pointer (some ⟨b, 0, none⟩), .string (txtOf y)] wr fun e w' => e = .returned (.tuple #[.int .i64 (txtOf y).size, .nilIface]) ∧ PageAt B b (wordP m y) w' ∧ Kq B wr w') := by
          have := writeString_any B b m (txtOf y) wr HPm.out.1 (by rw [txt_size]; omega) hBr
          rw [txt_list] at this
          have e : wordP m y = m ++ y := by unfold wordP; rw [if_neg h0]
          rw [e]
          exact this
        go_wp2_with fail
        refine calls_at HLn.out (by with_reducible rfl) (by with_reducible rfl) ?_
        rintro e w1 ⟨rfl, rfl⟩
        go_wp2_with fail
        refine calls_at HW2.out (by with_reducible rfl) (by with_reducible rfl) ?_
        rintro e w3 ⟨rfl, hp3, hk3⟩
        have H3 : Hid (PageAt B b (wordsP (L.take (i + 1)) l) w3 ∧ Kq B w w3) := by rw [HN.out]; exact ⟨hp3, HPm.out.2.trans hk3⟩
        clear hp3 hk3
        go_wp2_with fail
        go_roundw
        case rel => exact ⟨i + 1, by go_num, hin, H3⟩
        case measure => simp [intOf]; omega
    · have hiI : ¬ (i : Int) < (L.length : Int) := by omega
      have HE : Hid (PageAt B b (wordsP L l) wr ∧ Kq B w wr) := by
        have := HP.out
        rw [List.take_of_length_le (by omega)] at this
        exact this
      go_wp2_with fail
      go_ret
      exact ⟨rfl, HE.out⟩
end Go.Proofs.YtibbnijicdijnaaGreatDoor

namespace Go.Proofs.YtibbnijicdijnaaGreatDoor
open Go.RowKit

theorem Gl.kq {B : Nat} {w w' : World} (h : Gl w) (k : Kq B w w') (hB : 12 ≤ B) : Gl w' := h.below k.low hB

theorem below_grow (w : World) (q : Nat) (os : Array Obj) : Below w.heap.size w (Sort.grow (w.drewN q) os) :=
  ⟨rfl, rfl, rfl, by simp [Sort.grow], fun i hi => by
    show ((w.drewN q).heap ++ os)[i]? = _
    rw [Array.getElem?_append_left (by show i < w.heap.size; omega)]
    rfl⟩
theorem txt_app (a b : List UInt8) : txtOf a ++ txtOf b = txtOf (a ++ b) := by
  unfold txtOf
  apply ByteArray.ext
  simp
/-- A literal's text. -/
def litT (n : Int) : List UInt8 := if Lib.hasPrefix (Lib.itoa n) [45] = true then 126 :: 120 :: Lib.trimPrefix (Lib.itoa n) [45] else 120 :: Lib.trimPrefix (Lib.itoa n) [45]
theorem itoa_any (n : Int) (w : World) (h0 : -9223372036854775808 ≤ n) (h1 : n ≤ 9223372036854775807) (hg : Gl w) : Calls Tryz.prog 52 #[.int .i64 n] w fun e w' => e = .returned (.string (txtOf (Lib.itoa n))) ∧ Below w.heap.size w w' := by
  refine (Tryz.strconv_Itoa n h0 h1 w hg.pow).mono ?_
  rintro e w' ⟨rfl, k, os, rfl⟩
  exact ⟨rfl, below_grow _ _ _⟩
/-- A text in a new block. -/
theorem one_text {B : Nat} (w : World) (y : List UInt8) : RdE B (w.alloc (.cells #[.string (txtOf y)] 9)) (.slice (some ⟨w.heap.size, 0, none⟩) 1 1) 1 ([y].map fun x => .string (txtOf x)) := by
  have hg := heap_alloc_new w (.cells #[.string (txtOf y)] 9)
  refine ⟨_, _, rfl, by omega, fun _ => ⟨w.heap.size, 0, rfl, .inr ⟨_, _, _, hg, by decide, by decide⟩, (Array.getElem?_eq_some_iff.1 hg).1, fun j u hu => ?_⟩⟩
  rw [Nat.zero_add, cell_of hg]
  simpa using hu
theorem words_one {B b : Nat} {l : List UInt8} (y : List UInt8) (w : World) (h : PageAt B b l w) (hl : l.length + (y.length + 1) ≤ 900000000) (hBw : B ≤ w.heap.size) : Calls Tryz.prog 80 #[.pointer (some ⟨b, 0, none⟩), .slice (some ⟨w.heap.size, 0, none⟩) 1 1] (w.alloc (.cells #[.string (txtOf y)] 9)) fun e w' => e = .returned (.pointer (some ⟨b, 0, none⟩)) ∧ PageAt B b (wordP l y) w' ∧ Kq B w w' := by
  have hb : Below w.heap.size w (w.alloc (.cells #[.string (txtOf y)] 9)) := (Below.refl _ _).alloc (Nat.le_refl _) _
  refine (words_any [y] _ _ (page_below h hb) (one_text w y) (by simpa [tot] using hl) (Nat.le_trans hBw hb.size)).mono fun e w' hq => ?_
  exact ⟨hq.1, hq.2.1, (Kq.of_below hb hBw).trans hq.2.2⟩

set_option maxRecDepth 10000 in
set_option maxHeartbeats 2000000 in
theorem literals_any {B b : Nat} {l : List UInt8} (L : List Int) (v : Value) (w : World) (h : PageAt B b l w) (hR : RdE B w v L.length (L.map (.int .i64))) (hl : l.length + tot (L.map litT) ≤ 900000000) (hr : ∀ x ∈ L, -9223372036854775808 ≤ x ∧ x ≤ 9223372036854775807) (hBw : B ≤ w.heap.size) (hg : Gl w) (hB : 12 ≤ B) : Calls Tryz.prog 128 #[.pointer (some ⟨b, 0, none⟩), v] w fun e w' => e = .returned (.pointer (some ⟨b, 0, none⟩)) ∧ PageAt B b (wordsP (L.map litT) l) w' ∧ Kq B w w' := by
  have HR : Hid (RdE B w v L.length (L.map (.int .i64))) := hR
  obtain ⟨a, cap, rfl, hn, _⟩ := hR
  have H0 : Hid (PageAt B b l w) := h
  have HG : Hid (Gl w) := hg
  have HRg : Hid (∀ x ∈ L, -9223372036854775808 ≤ x ∧ x ≤ 9223372036854775807) := hr
  clear h hg hr
  go_enter Tryz.func128, Tryz.ntmps128
  go_wp2_with fail
  go_loopw [11] (fun iv wr => ∃ i : Nat, iv = .int .i64 (i : Int) ∧ i ≤ L.length ∧ Hid (PageAt B b (wordsP ((L.map litT).take i) l) wr ∧ Kq B w wr)) (fun iv _ => L.length - (intOf iv).toNat)
  case atStart => exact ⟨0, rfl, Nat.zero_le _, H0.out, Kq.refl _ _⟩
  case round =>
    obtain ⟨i, rfl, hi, HP⟩ := hrel
    by_cases hin : i < L.length
    · have hiI : (i : Int) < (L.length : Int) := by omega
      have hin2 : i < (L.map litT).length := by simpa using hin
      obtain ⟨g, off, rfl, hce⟩ := (HR.out.next HP.out.2).cell i hin
      have c0 := hce i (.int .i64 L[i]) (by simp [hin])
      have hrg := HRg.out L[i] (List.getElem_mem hin)
      obtain ⟨n, hn2⟩ : ∃ n, L[i] = n := ⟨_, rfl⟩
      rw [hn2] at c0 hrg
      obtain ⟨m, hm⟩ : ∃ m, wordsP ((L.map litT).take i) l = m := ⟨_, rfl⟩
      have HN : Hid (wordsP ((L.map litT).take (i + 1)) l = wordP m (litT n)) := by
        show _ = _
        rw [List.take_succ_eq_append_getElem hin2, ← hm]
        simp [wordsP, List.foldl_append, hn2]
      have hml : m.length + ((litT n).length + 1) ≤ 900000000 := by
        have h1 := words_len ((L.map litT).take i) l
        have h2 := tot_take (L.map litT) i hin2
        rw [hm] at h1
        simp only [List.getElem_map, hn2] at h2
        omega
      have HPm : Hid (PageAt B b m wr ∧ Kq B w wr) := by rw [← hm]; exact HP.out
      have hBr : B ≤ wr.heap.size := Nat.le_trans hBw HP.out.2.low.size
      have HIt : Hid (Calls Tryz.prog 52 #[.int .i64 n] wr fun e w' => e = .returned (.string (txtOf (Lib.itoa n))) ∧ Below wr.heap.size wr w') := itoa_any n wr hrg.1 hrg.2 (HG.out.kq HPm.out.2 hB)
      have HCt : Hid (∀ w', Calls Tryz.prog 151 #[.string (txtOf (Lib.itoa n)), .string ⟨#[45]⟩] w' fun e w2 => e = .returned (.tuple #[.string (txtOf (Lib.trimPrefix (Lib.itoa n) [45])), .bool (Lib.hasPrefix (Lib.itoa n) [45])]) ∧ w2 = w') := fun w' => by
        have := Tryz.strings_CutPrefix (txtOf (Lib.itoa n)) ⟨#[45]⟩ w'
        rw [txt_list] at this
        exact this
      have HLt : Hid (litT n = if Lib.hasPrefix (Lib.itoa n) [45] = true then 126 :: 120 :: Lib.trimPrefix (Lib.itoa n) [45] else 120 :: Lib.trimPrefix (Lib.itoa n) [45]) := rfl
      obtain ⟨y, hy⟩ : ∃ y, litT n = y := ⟨_, rfl⟩
      obtain ⟨t, ht⟩ : ∃ t, Lib.trimPrefix (Lib.itoa n) [45] = t := ⟨_, rfl⟩
      obtain ⟨hp, hhp⟩ : ∃ t, Lib.hasPrefix (Lib.itoa n) [45] = t := ⟨_, rfl⟩
      rw [hy, ht, hhp] at HLt
      rw [ht, hhp] at HCt
      rw [hy] at HN hml
      clear hce hn2 hm hy ht hhp
      go_wp2_with fail
      refine calls_at HIt.out (by with_reducible rfl) (by with_reducible rfl) ?_
      rintro e w1 ⟨rfl, hb1⟩
      have HP1 : Hid (PageAt B b m w1 ∧ Kq B w w1) := ⟨page_below HPm.out.1 hb1, HPm.out.2.trans (Kq.of_below hb1 hBr)⟩
      clear hb1
      go_wp2_with fail
      refine calls_at (HCt.out _) (by with_reducible rfl) (by with_reducible rfl) ?_
      rintro e w2 ⟨rfl, rfl⟩
      cases hp with
      | true =>
        have hy : y = 126 :: 120 :: t := HLt.out
        have hcat : (⟨#[126, 120]⟩ : ByteArray) ++ txtOf t = txtOf y := by rw [hy]; exact txt_app [126, 120] t
        have hts : (txtOf t).size ≤ 900000000 := by rw [txt_size]; rw [hy] at hml; simp at hml; omega
        have HWd : Hid (Calls Tryz.prog 80 #[.pointer (some ⟨b, 0, none⟩), .slice (some ⟨w2.heap.size, 0, none⟩) 1 1] (w2.alloc (.cells #[.string (txtOf y)] 9)) fun e w' => e = .returned (.pointer (some ⟨b, 0, none⟩)) ∧ PageAt B b (wordP m y) w' ∧ Kq B w2 w') := words_one y w2 HP1.out.1 (by omega) (Nat.le_trans hBw HP1.out.2.low.size)
        clear hy
        go_wp2_with fail
        refine calls_at HWd.out (by with_reducible rfl) (by with_reducible rfl) ?_
        rintro e w3 ⟨rfl, hp3, hk3⟩
        have H3 : Hid (PageAt B b (wordsP ((L.map litT).take (i + 1)) l) w3 ∧ Kq B w w3) := by rw [HN.out]; exact ⟨hp3, HP1.out.2.trans hk3⟩
        clear hp3 hk3
        go_wp2_with fail
        go_roundw
        case rel => exact ⟨i + 1, by go_num, hin, H3⟩
        case measure => simp [intOf]; omega
      | false =>
        have hy : y = 120 :: t := HLt.out
        have hcat : (⟨#[120]⟩ : ByteArray) ++ txtOf t = txtOf y := by rw [hy]; exact txt_app [120] t
        have hts : (txtOf t).size ≤ 900000000 := by rw [txt_size]; rw [hy] at hml; simp at hml; omega
        have HWd : Hid (Calls Tryz.prog 80 #[.pointer (some ⟨b, 0, none⟩), .slice (some ⟨w2.heap.size, 0, none⟩) 1 1] (w2.alloc (.cells #[.string (txtOf y)] 9)) fun e w' => e = .returned (.pointer (some ⟨b, 0, none⟩)) ∧ PageAt B b (wordP m y) w' ∧ Kq B w2 w') := words_one y w2 HP1.out.1 (by omega) (Nat.le_trans hBw HP1.out.2.low.size)
        clear hy
        go_wp2_with fail
        refine calls_at HWd.out (by with_reducible rfl) (by with_reducible rfl) ?_
        rintro e w3 ⟨rfl, hp3, hk3⟩
        have H3 : Hid (PageAt B b (wordsP ((L.map litT).take (i + 1)) l) w3 ∧ Kq B w w3) := by rw [HN.out]; exact ⟨hp3, HP1.out.2.trans hk3⟩
        clear hp3 hk3
        go_wp2_with fail
        go_roundw
        case rel => exact ⟨i + 1, by go_num, hin, H3⟩
        case measure => simp [intOf]; omega
    · have hiI : ¬ (i : Int) < (L.length : Int) := by omega
      have HE : Hid (PageAt B b (wordsP (L.map litT) l) wr ∧ Kq B w wr) := by
        have := HP.out
        rw [List.take_of_length_le (by simp; omega)] at this
        exact this
      go_wp2_with fail
      go_ret
      exact ⟨rfl, HE.out⟩
end Go.Proofs.YtibbnijicdijnaaGreatDoor

namespace Go.Proofs.YtibbnijicdijnaaGreatDoor
open Go.RowKit

def pcsT (L : List PcL) : List (List UInt8) := L.flatMap fun o => [o.1, litT o.2]
def rowT (L : List PcL) (deg : List UInt8) : List (List UInt8) := pcsT L ++ [[62, 61], deg, [59]]
theorem words_app (K L : List (List UInt8)) (l : List UInt8) : wordsP (K ++ L) l = wordsP L (wordsP K l) := by simp [wordsP, List.foldl_append]
theorem tot_app (K L : List (List UInt8)) : tot (K ++ L) = tot K + tot L := by simp [tot]
theorem pcsT_take (L : List PcL) (i : Nat) (hi : i < L.length) : pcsT (L.take (i + 1)) = pcsT (L.take i) ++ [L[i].1, litT L[i].2] := by
  unfold pcsT
  rw [List.take_succ_eq_append_getElem hi, List.flatMap_append]
  simp
theorem pcsT_le (L : List PcL) (i : Nat) (hi : i < L.length) : tot (pcsT (L.take i)) + (L[i].1.length + 1) + ((litT L[i].2).length + 1) ≤ tot (pcsT L) := by
  have e : pcsT L = pcsT (L.take (i + 1)) ++ pcsT (L.drop (i + 1)) := by
    unfold pcsT
    rw [← List.flatMap_append, List.take_append_drop]
  rw [e, pcsT_take L i hi, tot_app, tot_app]
  simp [tot]
  omega
/-- An int in a new block. -/
theorem one_int {B : Nat} (w : World) (n : Int) : RdE B (w.alloc (.cells #[.int .i64 n] 3)) (.slice (some ⟨w.heap.size, 0, none⟩) 1 1) 1 ([n].map (.int .i64)) := by
  have hg := heap_alloc_new w (.cells #[.int .i64 n] 3)
  refine ⟨_, _, rfl, by omega, fun _ => ⟨w.heap.size, 0, rfl, .inr ⟨_, _, _, hg, by decide, by decide⟩, (Array.getElem?_eq_some_iff.1 hg).1, fun j u hu => ?_⟩⟩
  rw [Nat.zero_add, cell_of hg]
  simpa using hu
theorem lits_one {B b : Nat} {l : List UInt8} (n : Int) (w : World) (h : PageAt B b l w) (hl : l.length + ((litT n).length + 1) ≤ 900000000) (hr : -9223372036854775808 ≤ n ∧ n ≤ 9223372036854775807) (hBw : B ≤ w.heap.size) (hg : Gl w) (hB : 12 ≤ B) : Calls Tryz.prog 128 #[.pointer (some ⟨b, 0, none⟩), .slice (some ⟨w.heap.size, 0, none⟩) 1 1] (w.alloc (.cells #[.int .i64 n] 3)) fun e w' => e = .returned (.pointer (some ⟨b, 0, none⟩)) ∧ PageAt B b (wordP l (litT n)) w' ∧ Kq B w w' := by
  have hb : Below w.heap.size w (w.alloc (.cells #[.int .i64 n] 3)) := (Below.refl _ _).alloc (Nat.le_refl _) _
  refine (literals_any [n] _ _ (page_below h hb) (one_int w n) (by simpa [tot] using hl) (fun x hx => by rw [List.mem_singleton.1 hx]; exact hr) (Nat.le_trans hBw hb.size) (hg.next hb) hB).mono fun e w' hq => ?_
  exact ⟨hq.1, hq.2.1, (Kq.of_below hb hBw).trans hq.2.2⟩
theorem three_texts {B : Nat} (w : World) (x y z : List UInt8) : RdE B (w.alloc (.cells #[.string (txtOf x), .string (txtOf y), .string (txtOf z)] 9)) (.slice (some ⟨w.heap.size, 0, none⟩) 3 3) 3 ([x, y, z].map fun x => .string (txtOf x)) := by
  have hg := heap_alloc_new w (.cells #[.string (txtOf x), .string (txtOf y), .string (txtOf z)] 9)
  refine ⟨_, _, rfl, by omega, fun _ => ⟨w.heap.size, 0, rfl, .inr ⟨_, _, _, hg, by decide, by decide⟩, (Array.getElem?_eq_some_iff.1 hg).1, fun j u hu => ?_⟩⟩
  rw [Nat.zero_add, cell_of hg]
  simpa using hu
theorem words_three {B b : Nat} {l : List UInt8} (x y z : List UInt8) (w : World) (h : PageAt B b l w) (hl : l.length + tot [x, y, z] ≤ 900000000) (hBw : B ≤ w.heap.size) : Calls Tryz.prog 80 #[.pointer (some ⟨b, 0, none⟩), .slice (some ⟨w.heap.size, 0, none⟩) 3 3] (w.alloc (.cells #[.string (txtOf x), .string (txtOf y), .string (txtOf z)] 9)) fun e w' => e = .returned (.pointer (some ⟨b, 0, none⟩)) ∧ PageAt B b (wordsP [x, y, z] l) w' ∧ Kq B w w' := by
  have hb : Below w.heap.size w (w.alloc (.cells #[.string (txtOf x), .string (txtOf y), .string (txtOf z)] 9)) := (Below.refl _ _).alloc (Nat.le_refl _) _
  refine (words_any [x, y, z] _ _ (page_below h hb) (three_texts w x y z) hl (Nat.le_trans hBw hb.size)).mono fun e w' hq => ?_
  exact ⟨hq.1, hq.2.1, (Kq.of_below hb hBw).trans hq.2.2⟩

set_option maxRecDepth 10000 in
set_option maxHeartbeats 2000000 in
theorem prow_any {B b : Nat} {l : List UInt8} (L : List PcL) (deg : List UInt8) (v : Value) (w : World) (h : PageAt B b l w) (hR : RdE B w v L.length (pcsC L)) (hl : l.length + tot (rowT L deg) ≤ 900000000) (hr : ∀ x ∈ L, -9223372036854775808 ≤ x.2 ∧ x.2 ≤ 9223372036854775807) (hBw : B ≤ w.heap.size) (hg : Gl w) (hB : 12 ≤ B) : Calls Tryz.prog 125 #[.pointer (some ⟨b, 0, none⟩), .agg #[v, .string (txtOf deg)]] w fun e w' => e = .returned (.pointer (some ⟨b, 0, none⟩)) ∧ PageAt B b (wordsP (rowT L deg) l) w' ∧ Kq B w w' := by
  have HR : Hid (RdE B w v L.length (pcsC L)) := hR
  obtain ⟨a, cap, rfl, hn, _⟩ := hR
  have H0 : Hid (PageAt B b l w) := h
  have HG : Hid (Gl w) := hg
  have HRg : Hid (∀ x ∈ L, -9223372036854775808 ≤ x.2 ∧ x.2 ≤ 9223372036854775807) := hr
  clear h hg hr
  obtain ⟨W, hW⟩ : ∃ W, w.alloc (.cells #[.slice a L.length cap, .string (txtOf deg)] 41) = W := ⟨_, rfl⟩
  have hbW : Below w.heap.size w W := by rw [← hW]; exact (Below.refl _ _).alloc (Nat.le_refl _) _
  have gW : W.heap[w.heap.size]? = some (.cells #[.slice a L.length cap, .string (txtOf deg)] 41 (0, 0)) := by rw [← hW]; exact heap_alloc_new w _
  have HW : Hid (Below w.heap.size w W) := hbW
  have HgW : Hid (W.heap[w.heap.size]? = some (.cells #[.slice a L.length cap, .string (txtOf deg)] 41 (0, 0))) := gW
  have c0 : W.cell? ⟨w.heap.size, 0, none⟩ = some (.slice a L.length cap) := cell_of gW 0
  clear hbW gW
  go_enter Tryz.func125, Tryz.ntmps125
  go_wp2_with fail
  go_loopw [10] (fun iv wr => ∃ i : Nat, iv = .int .i64 (i : Int) ∧ i ≤ L.length ∧ Hid (PageAt B b (wordsP (pcsT (L.take i)) l) wr ∧ Kq B w wr ∧ Kq B W wr)) (fun iv _ => L.length - (intOf iv).toNat)
  case atStart => exact ⟨0, rfl, Nat.zero_le _, page_below H0.out HW.out, Kq.of_below HW.out hBw, Kq.refl _ _⟩
  case round =>
    obtain ⟨i, rfl, hi, HP⟩ := hrel
    by_cases hin : i < L.length
    · have hiI : (i : Int) < (L.length : Int) := by omega
      obtain ⟨g, off, rfl, hce⟩ := (HR.out.next HP.out.2.1).cell i hin
      obtain ⟨p0, p1⟩ := pcs_get L i hin
      have d0 : wr.cell? ⟨g, off + i * 2, none⟩ = some (.string (txtOf L[i].1)) := hce _ _ p0
      have d1 : wr.cell? ⟨g, off + i * 2 + 1, none⟩ = some (.int .i64 L[i].2) := hce _ _ p1
      have hrg := HRg.out L[i] (List.getElem_mem hin)
      have HN0 := pcsT_take L i hin
      have hle := pcsT_le L i hin
      obtain ⟨x, hx⟩ : ∃ x, L[i].1 = x := ⟨_, rfl⟩
      obtain ⟨n, hn2⟩ : ∃ n, L[i].2 = n := ⟨_, rfl⟩
      rw [hx] at d0 HN0 hle
      rw [hn2] at d1 hrg HN0 hle
      obtain ⟨m, hm⟩ : ∃ m, wordsP (pcsT (L.take i)) l = m := ⟨_, rfl⟩
      have HN : Hid (wordsP (pcsT (L.take (i + 1))) l = wordP (wordP m x) (litT n)) := by
        show _ = _
        rw [HN0, words_app, hm]
        rfl
      have hml : m.length + (x.length + 1) + ((litT n).length + 1) ≤ 900000000 := by
        have h1 := words_len (pcsT (L.take i)) l
        have h2 : tot (rowT L deg) = tot (pcsT L) + tot [[62, 61], deg, [59]] := tot_app _ _
        rw [hm] at h1
        omega
      have hmx : (wordP m x).length + ((litT n).length + 1) ≤ 900000000 := by
        have := word_len m x
        omega
      have HPm : Hid (PageAt B b m wr ∧ Kq B w wr ∧ Kq B W wr) := by rw [← hm]; exact HP.out
      have hBr : B ≤ wr.heap.size := Nat.le_trans hBw HP.out.2.1.low.size
      obtain ⟨V, hV⟩ : ∃ V, wr.alloc (.cells #[.string (txtOf x), .int .i64 n] 82) = V := ⟨_, rfl⟩
      have hbV : Below wr.heap.size wr V := by rw [← hV]; exact (Below.refl _ _).alloc (Nat.le_refl _) _
      have gV : V.heap[wr.heap.size]? = some (.cells #[.string (txtOf x), .int .i64 n] 82 (0, 0)) := by rw [← hV]; exact heap_alloc_new wr _
      have HPV : Hid (PageAt B b m V.drew ∧ Kq B w V.drew ∧ Kq B W V.drew) := ⟨page_below HPm.out.1 hbV.drew, HPm.out.2.1.trans (Kq.of_below hbV.drew hBr), HPm.out.2.2.trans (Kq.of_below hbV.drew hBr)⟩
      have hBV : B ≤ V.drew.heap.size := Nat.le_trans hBr hbV.drew.size
      have HKV : Hid (∀ w', Kq B V.drew w' → w'.cell? ⟨wr.heap.size, 0, none⟩ = some (.string (txtOf x)) ∧ w'.cell? ⟨wr.heap.size, 1, none⟩ = some (.int .i64 n)) := fun w' k => by
        have := k.other _ _ _ _ (show V.drew.heap[wr.heap.size]? = _ from gV) (by decide) (by decide)
        exact ⟨cell_of this 0, cell_of this 1⟩
      have HC : Hid (∀ U' v, Kq B V.drew U' → PageAt B b m U' → RdE B U' v 1 ([x].map fun x => .string (txtOf x)) → Calls Tryz.prog 80 #[.pointer (some ⟨b, 0, none⟩), v] U' fun e w' => e = .returned (.pointer (some ⟨b, 0, none⟩)) ∧ PageAt B b (wordP m x) w' ∧ Kq B U' w') := fun U' v k hp hv =>
        words_any [x] v U' hp hv (by show _ + tot [x] ≤ _; simp [tot]; omega) (Nat.le_trans hBV k.low.size)
      have HD : Hid (∀ U' v, Kq B V.drew U' → PageAt B b (wordP m x) U' → RdE B U' v 1 ([n].map (.int .i64)) → Calls Tryz.prog 128 #[.pointer (some ⟨b, 0, none⟩), v] U' fun e w' => e = .returned (.pointer (some ⟨b, 0, none⟩)) ∧ PageAt B b (wordP (wordP m x) (litT n)) w' ∧ Kq B U' w') := fun U' v k hp hv =>
        literals_any [n] v U' hp hv (by show _ + tot [litT n] ≤ _; simp [tot]; omega) (fun y hy => by rw [List.mem_singleton.1 hy]; exact hrg) (Nat.le_trans hBV k.low.size) (HG.out.kq (HPV.out.2.1.trans k) hB) hB
      have HVd : Hid (V.heap[wr.heap.size]? = some (.cells #[.string (txtOf x), .int .i64 n] 82 (0, 0)) ∧ wr.heap.size < V.heap.size) := ⟨gV, (Array.getElem?_eq_some_iff.1 gV).1⟩
      clear hce p0 p1 hx hn2 hm HN0 hle hbV gV HVd hml hmx
      go_wp2_with fail
      refine wp_region_T (fun w' => w'.cell? ⟨wr.heap.size, 0, none⟩ = some (.string (txtOf x)) ∧ w'.cell? ⟨wr.heap.size, 1, none⟩ = some (.int .i64 n)) (fun _ => True) [] (by kernel_rfl) ⟨HKV.out _ (Kq.refl _ _), trivial⟩ (fun hHeld => ?_)
      clear hV d0 d1
      generalize V.drew = U at hHeld HKV HC HD HPV hBV ⊢
      refine wpAnyT_takeB (i := 0) (oi := ⟨some 14, .move (.tmp 0), _, _, _, _⟩) (v := ?v0) rfl (by kernel_rfl) (by kernel_rfl) (by kernel_rfl) (by kernel_rfl) (fun _ _ _ h => h) (Or.inl ⟨by rfl, ?hy0⟩) (by assumption) ?rest0
      case hy0 => (intro w hSw; (try dsimp only at hSw); obtain ⟨s0, s1⟩ := hSw; go_simp; try (with_reducible rfl))
      try simp only [Act.put, List.setIfInBounds_toArray, List.set_cons_zero, List.set_cons_succ]
      refine wpAnyT_takeB (i := 1) (oi := ⟨some 15, .fieldAddr 82 (.tmp 6) 0, _, _, _, _⟩) (v := ?v1) rfl (by kernel_rfl) (by kernel_rfl) (by kernel_rfl) (by kernel_rfl) (fun _ _ _ h => h) (Or.inl ⟨by rfl, ?hy1⟩) (by assumption) ?rest1
      case hy1 => (intro w hSw; (try dsimp only at hSw); obtain ⟨s0, s1⟩ := hSw; go_simp; try (with_reducible rfl))
      try simp only [Act.put, List.setIfInBounds_toArray, List.set_cons_zero, List.set_cons_succ]
      refine wpAnyT_takeB (i := 2) (oi := ⟨some 16, .load 9 (.tmp 15), _, _, _, _⟩) (v := ?v2) rfl (by kernel_rfl) (by kernel_rfl) (by kernel_rfl) (by kernel_rfl) (fun _ _ _ h => h) (Or.inl ⟨by rfl, ?hy2⟩) (by assumption) ?rest2
      case hy2 => (intro w hSw; (try dsimp only at hSw); obtain ⟨s0, s1⟩ := hSw; go_simp; try (with_reducible rfl))
      try simp only [Act.put, List.setIfInBounds_toArray, List.set_cons_zero, List.set_cons_succ]
      refine wpAnyT_takeB (i := 5) (oi := ⟨some 19, .fieldAddr 82 (.tmp 6) 1, _, _, _, _⟩) (v := ?v5) rfl (by kernel_rfl) (by kernel_rfl) (by kernel_rfl) (by kernel_rfl) (fun _ _ _ h => h) (Or.inl ⟨by rfl, ?hy5⟩) (by assumption) ?rest5
      case hy5 => (intro w hSw; (try dsimp only at hSw); obtain ⟨s0, s1⟩ := hSw; go_simp; try (with_reducible rfl))
      try simp only [Act.put, List.setIfInBounds_toArray, List.set_cons_zero, List.set_cons_succ]
      refine wpAnyT_takeB (i := 6) (oi := ⟨some 20, .load 3 (.tmp 19), _, _, _, _⟩) (v := ?v6) rfl (by kernel_rfl) (by kernel_rfl) (by kernel_rfl) (by kernel_rfl) (fun _ _ _ h => h) (Or.inl ⟨by rfl, ?hy6⟩) (by assumption) ?rest6
      case hy6 => (intro w hSw; (try dsimp only at hSw); obtain ⟨s0, s1⟩ := hSw; go_simp; try (with_reducible rfl))
      try simp only [Act.put, List.setIfInBounds_toArray, List.set_cons_zero, List.set_cons_succ]
      have HKU : Hid (Kq B U U) := Kq.refl _ _
      have HPgU : Hid (PageAt B b (m) U) := HPV.out.1
      clear hHeld
      refine wpAnyT_two (i := 3) (j := 7) (o := ⟨some 17, .buildSlice 43 1 #[(0, (.tmp 16))], _, _, _, _⟩) (o' := ⟨some 21, .buildSlice 42 1 #[(0, (.tmp 20))], _, _, _, _⟩) (by kernel_rfl) rfl rfl (fun K hK => ?_) (fun K hK => ?_)
      · skip
        go_simp
        obtain ⟨U3, hU3⟩ : ∃ X, U.alloc (.cells #[.string (txtOf x)] 9) = X := ⟨_, rfl⟩
        have hbU3 : Below U.heap.size U U3 := by rw [← hU3]; exact (Below.refl _ _).alloc (Nat.le_refl _) _
        have HKU3 : Hid (Kq B U U3) := HKU.out.trans (Kq.of_below hbU3 (Nat.le_trans hBV HKU.out.low.size))
        have HPgU3 : Hid (PageAt B b (m) U3) := page_below HPgU.out hbU3
        have HR3U3 : Hid (RdE B U3 (.slice (some ⟨U.heap.size, 0, none⟩) 1 1) 1 ([x].map fun x => .string (txtOf x))) := by rw [← hU3]; exact one_text U x
        rw [hU3]
        clear hU3 hbU3
        refine hK.out _ _ ⟨HKV.out _ HKU3.out, fun _ => trivial⟩ ?_
        clear hK K
        try simp only [Act.put, List.setIfInBounds_toArray, List.set_cons_zero, List.set_cons_succ]
        refine wpAnyT_two (i := 4) (j := 7) (o := ⟨some 18, .call { callee := .value (.func 80), args := #[(.tmp 14), (.tmp 17)], argTypes := #[123, 43] }, _, _, _, _⟩) (o' := ⟨some 21, .buildSlice 42 1 #[(0, (.tmp 20))], _, _, _, _⟩) (by kernel_rfl) rfl rfl (fun K hK => ?_) (fun K hK => ?_)
        · skip
          go_simp
          refine calls_at (HC.out U3 _ HKU3.out HPgU3.out HR3U3.out) (by with_reducible rfl) (by with_reducible rfl) ?_
          rintro e U34 ⟨rfl, hp, hk⟩
          have HKU34 : Hid (Kq B U U34) := HKU3.out.trans hk
          have HPgU34 : Hid (PageAt B b (wordP m x) U34) := hp
          have HR3U34 : Hid (RdE B U34 (.slice (some ⟨U.heap.size, 0, none⟩) 1 1) 1 ([x].map fun x => .string (txtOf x))) := HR3U3.out.next hk
          clear hp hk
          go_wp2_with fail
          refine hK.out _ _ ⟨HKV.out _ HKU34.out, fun _ => trivial⟩ ?_
          clear hK K
          try simp only [Act.put, List.setIfInBounds_toArray, List.set_cons_zero, List.set_cons_succ]
          refine wpAnyT_one (i := 7) (o := ⟨some 21, .buildSlice 42 1 #[(0, (.tmp 20))], _, _, _, _⟩) (by kernel_rfl) rfl (fun K hK => ?_)
          go_simp
          obtain ⟨U347, hU347⟩ : ∃ X, U34.alloc (.cells #[.int .i64 n] 3) = X := ⟨_, rfl⟩
          have hbU347 : Below U34.heap.size U34 U347 := by rw [← hU347]; exact (Below.refl _ _).alloc (Nat.le_refl _) _
          have HKU347 : Hid (Kq B U U347) := HKU34.out.trans (Kq.of_below hbU347 (Nat.le_trans hBV HKU34.out.low.size))
          have HPgU347 : Hid (PageAt B b (wordP m x) U347) := page_below HPgU34.out hbU347
          have HR3U347 : Hid (RdE B U347 (.slice (some ⟨U.heap.size, 0, none⟩) 1 1) 1 ([x].map fun x => .string (txtOf x))) := HR3U34.out.next (Kq.of_below hbU347 (Nat.le_trans hBV HKU34.out.low.size))
          have HR7U347 : Hid (RdE B U347 (.slice (some ⟨U34.heap.size, 0, none⟩) 1 1) 1 ([n].map (.int .i64))) := by rw [← hU347]; exact one_int U34 n
          rw [hU347]
          clear hU347 hbU347
          refine hK.out _ _ ⟨HKV.out _ HKU347.out, fun _ => trivial⟩ ?_
          clear hK K
          try simp only [Act.put, List.setIfInBounds_toArray, List.set_cons_zero, List.set_cons_succ]
          refine wpAnyT_one (i := 8) (o := ⟨some 22, .call { callee := .value (.func 128), args := #[(.tmp 18), (.tmp 21)], argTypes := #[123, 42] }, _, _, _, _⟩) (by kernel_rfl) rfl (fun K hK => ?_)
          go_simp
          refine calls_at (HD.out U347 _ HKU347.out HPgU347.out HR7U347.out) (by with_reducible rfl) (by with_reducible rfl) ?_
          rintro e U3478 ⟨rfl, hp, hk⟩
          have HKU3478 : Hid (Kq B U U3478) := HKU347.out.trans hk
          have HPgU3478 : Hid (PageAt B b (wordP (wordP m x) (litT n)) U3478) := hp
          have HR3U3478 : Hid (RdE B U3478 (.slice (some ⟨U.heap.size, 0, none⟩) 1 1) 1 ([x].map fun x => .string (txtOf x))) := HR3U347.out.next hk
          have HR7U3478 : Hid (RdE B U3478 (.slice (some ⟨U34.heap.size, 0, none⟩) 1 1) 1 ([n].map (.int .i64))) := HR7U347.out.next hk
          clear hp hk
          go_wp2_with fail
          refine hK.out _ _ ⟨HKV.out _ HKU3478.out, fun _ => trivial⟩ ?_
          clear hK K
          try simp only [Act.put, List.setIfInBounds_toArray, List.set_cons_zero, List.set_cons_succ]
          have H9 : Hid (PageAt B b (wordsP (pcsT (L.take (i + 1))) l) U3478 ∧ Kq B w U3478 ∧ Kq B W U3478) := ⟨by rw [HN.out]; exact HPgU3478.out, HPV.out.2.1.trans HKU3478.out, HPV.out.2.2.trans HKU3478.out⟩
          refine wpAnyT_done (by kernel_rfl) ?_ _
          go_wp2_with fail
          go_roundw
          case rel => exact ⟨i + 1, by go_num, hin, H9⟩
          case measure => simp [intOf]; omega
        · skip
          go_simp
          obtain ⟨U37, hU37⟩ : ∃ X, U3.alloc (.cells #[.int .i64 n] 3) = X := ⟨_, rfl⟩
          have hbU37 : Below U3.heap.size U3 U37 := by rw [← hU37]; exact (Below.refl _ _).alloc (Nat.le_refl _) _
          have HKU37 : Hid (Kq B U U37) := HKU3.out.trans (Kq.of_below hbU37 (Nat.le_trans hBV HKU3.out.low.size))
          have HPgU37 : Hid (PageAt B b (m) U37) := page_below HPgU3.out hbU37
          have HR3U37 : Hid (RdE B U37 (.slice (some ⟨U.heap.size, 0, none⟩) 1 1) 1 ([x].map fun x => .string (txtOf x))) := HR3U3.out.next (Kq.of_below hbU37 (Nat.le_trans hBV HKU3.out.low.size))
          have HR7U37 : Hid (RdE B U37 (.slice (some ⟨U3.heap.size, 0, none⟩) 1 1) 1 ([n].map (.int .i64))) := by rw [← hU37]; exact one_int U3 n
          rw [hU37]
          clear hU37 hbU37
          refine hK.out _ _ ⟨HKV.out _ HKU37.out, fun _ => trivial⟩ ?_
          clear hK K
          try simp only [Act.put, List.setIfInBounds_toArray, List.set_cons_zero, List.set_cons_succ]
          refine wpAnyT_one (i := 4) (o := ⟨some 18, .call { callee := .value (.func 80), args := #[(.tmp 14), (.tmp 17)], argTypes := #[123, 43] }, _, _, _, _⟩) (by kernel_rfl) rfl (fun K hK => ?_)
          go_simp
          refine calls_at (HC.out U37 _ HKU37.out HPgU37.out HR3U37.out) (by with_reducible rfl) (by with_reducible rfl) ?_
          rintro e U374 ⟨rfl, hp, hk⟩
          have HKU374 : Hid (Kq B U U374) := HKU37.out.trans hk
          have HPgU374 : Hid (PageAt B b (wordP m x) U374) := hp
          have HR3U374 : Hid (RdE B U374 (.slice (some ⟨U.heap.size, 0, none⟩) 1 1) 1 ([x].map fun x => .string (txtOf x))) := HR3U37.out.next hk
          have HR7U374 : Hid (RdE B U374 (.slice (some ⟨U3.heap.size, 0, none⟩) 1 1) 1 ([n].map (.int .i64))) := HR7U37.out.next hk
          clear hp hk
          go_wp2_with fail
          refine hK.out _ _ ⟨HKV.out _ HKU374.out, fun _ => trivial⟩ ?_
          clear hK K
          try simp only [Act.put, List.setIfInBounds_toArray, List.set_cons_zero, List.set_cons_succ]
          refine wpAnyT_one (i := 8) (o := ⟨some 22, .call { callee := .value (.func 128), args := #[(.tmp 18), (.tmp 21)], argTypes := #[123, 42] }, _, _, _, _⟩) (by kernel_rfl) rfl (fun K hK => ?_)
          go_simp
          refine calls_at (HD.out U374 _ HKU374.out HPgU374.out HR7U374.out) (by with_reducible rfl) (by with_reducible rfl) ?_
          rintro e U3748 ⟨rfl, hp, hk⟩
          have HKU3748 : Hid (Kq B U U3748) := HKU374.out.trans hk
          have HPgU3748 : Hid (PageAt B b (wordP (wordP m x) (litT n)) U3748) := hp
          have HR3U3748 : Hid (RdE B U3748 (.slice (some ⟨U.heap.size, 0, none⟩) 1 1) 1 ([x].map fun x => .string (txtOf x))) := HR3U374.out.next hk
          have HR7U3748 : Hid (RdE B U3748 (.slice (some ⟨U3.heap.size, 0, none⟩) 1 1) 1 ([n].map (.int .i64))) := HR7U374.out.next hk
          clear hp hk
          go_wp2_with fail
          refine hK.out _ _ ⟨HKV.out _ HKU3748.out, fun _ => trivial⟩ ?_
          clear hK K
          try simp only [Act.put, List.setIfInBounds_toArray, List.set_cons_zero, List.set_cons_succ]
          have H9 : Hid (PageAt B b (wordsP (pcsT (L.take (i + 1))) l) U3748 ∧ Kq B w U3748 ∧ Kq B W U3748) := ⟨by rw [HN.out]; exact HPgU3748.out, HPV.out.2.1.trans HKU3748.out, HPV.out.2.2.trans HKU3748.out⟩
          refine wpAnyT_done (by kernel_rfl) ?_ _
          go_wp2_with fail
          go_roundw
          case rel => exact ⟨i + 1, by go_num, hin, H9⟩
          case measure => simp [intOf]; omega
      · skip
        go_simp
        obtain ⟨U7, hU7⟩ : ∃ X, U.alloc (.cells #[.int .i64 n] 3) = X := ⟨_, rfl⟩
        have hbU7 : Below U.heap.size U U7 := by rw [← hU7]; exact (Below.refl _ _).alloc (Nat.le_refl _) _
        have HKU7 : Hid (Kq B U U7) := HKU.out.trans (Kq.of_below hbU7 (Nat.le_trans hBV HKU.out.low.size))
        have HPgU7 : Hid (PageAt B b (m) U7) := page_below HPgU.out hbU7
        have HR7U7 : Hid (RdE B U7 (.slice (some ⟨U.heap.size, 0, none⟩) 1 1) 1 ([n].map (.int .i64))) := by rw [← hU7]; exact one_int U n
        rw [hU7]
        clear hU7 hbU7
        refine hK.out _ _ ⟨HKV.out _ HKU7.out, fun _ => trivial⟩ ?_
        clear hK K
        try simp only [Act.put, List.setIfInBounds_toArray, List.set_cons_zero, List.set_cons_succ]
        refine wpAnyT_one (i := 3) (o := ⟨some 17, .buildSlice 43 1 #[(0, (.tmp 16))], _, _, _, _⟩) (by kernel_rfl) rfl (fun K hK => ?_)
        go_simp
        obtain ⟨U73, hU73⟩ : ∃ X, U7.alloc (.cells #[.string (txtOf x)] 9) = X := ⟨_, rfl⟩
        have hbU73 : Below U7.heap.size U7 U73 := by rw [← hU73]; exact (Below.refl _ _).alloc (Nat.le_refl _) _
        have HKU73 : Hid (Kq B U U73) := HKU7.out.trans (Kq.of_below hbU73 (Nat.le_trans hBV HKU7.out.low.size))
        have HPgU73 : Hid (PageAt B b (m) U73) := page_below HPgU7.out hbU73
        have HR7U73 : Hid (RdE B U73 (.slice (some ⟨U.heap.size, 0, none⟩) 1 1) 1 ([n].map (.int .i64))) := HR7U7.out.next (Kq.of_below hbU73 (Nat.le_trans hBV HKU7.out.low.size))
        have HR3U73 : Hid (RdE B U73 (.slice (some ⟨U7.heap.size, 0, none⟩) 1 1) 1 ([x].map fun x => .string (txtOf x))) := by rw [← hU73]; exact one_text U7 x
        rw [hU73]
        clear hU73 hbU73
        refine hK.out _ _ ⟨HKV.out _ HKU73.out, fun _ => trivial⟩ ?_
        clear hK K
        try simp only [Act.put, List.setIfInBounds_toArray, List.set_cons_zero, List.set_cons_succ]
        refine wpAnyT_one (i := 4) (o := ⟨some 18, .call { callee := .value (.func 80), args := #[(.tmp 14), (.tmp 17)], argTypes := #[123, 43] }, _, _, _, _⟩) (by kernel_rfl) rfl (fun K hK => ?_)
        go_simp
        refine calls_at (HC.out U73 _ HKU73.out HPgU73.out HR3U73.out) (by with_reducible rfl) (by with_reducible rfl) ?_
        rintro e U734 ⟨rfl, hp, hk⟩
        have HKU734 : Hid (Kq B U U734) := HKU73.out.trans hk
        have HPgU734 : Hid (PageAt B b (wordP m x) U734) := hp
        have HR7U734 : Hid (RdE B U734 (.slice (some ⟨U.heap.size, 0, none⟩) 1 1) 1 ([n].map (.int .i64))) := HR7U73.out.next hk
        have HR3U734 : Hid (RdE B U734 (.slice (some ⟨U7.heap.size, 0, none⟩) 1 1) 1 ([x].map fun x => .string (txtOf x))) := HR3U73.out.next hk
        clear hp hk
        go_wp2_with fail
        refine hK.out _ _ ⟨HKV.out _ HKU734.out, fun _ => trivial⟩ ?_
        clear hK K
        try simp only [Act.put, List.setIfInBounds_toArray, List.set_cons_zero, List.set_cons_succ]
        refine wpAnyT_one (i := 8) (o := ⟨some 22, .call { callee := .value (.func 128), args := #[(.tmp 18), (.tmp 21)], argTypes := #[123, 42] }, _, _, _, _⟩) (by kernel_rfl) rfl (fun K hK => ?_)
        go_simp
        refine calls_at (HD.out U734 _ HKU734.out HPgU734.out HR7U734.out) (by with_reducible rfl) (by with_reducible rfl) ?_
        rintro e U7348 ⟨rfl, hp, hk⟩
        have HKU7348 : Hid (Kq B U U7348) := HKU734.out.trans hk
        have HPgU7348 : Hid (PageAt B b (wordP (wordP m x) (litT n)) U7348) := hp
        have HR7U7348 : Hid (RdE B U7348 (.slice (some ⟨U.heap.size, 0, none⟩) 1 1) 1 ([n].map (.int .i64))) := HR7U734.out.next hk
        have HR3U7348 : Hid (RdE B U7348 (.slice (some ⟨U7.heap.size, 0, none⟩) 1 1) 1 ([x].map fun x => .string (txtOf x))) := HR3U734.out.next hk
        clear hp hk
        go_wp2_with fail
        refine hK.out _ _ ⟨HKV.out _ HKU7348.out, fun _ => trivial⟩ ?_
        clear hK K
        try simp only [Act.put, List.setIfInBounds_toArray, List.set_cons_zero, List.set_cons_succ]
        have H9 : Hid (PageAt B b (wordsP (pcsT (L.take (i + 1))) l) U7348 ∧ Kq B w U7348 ∧ Kq B W U7348) := ⟨by rw [HN.out]; exact HPgU7348.out, HPV.out.2.1.trans HKU7348.out, HPV.out.2.2.trans HKU7348.out⟩
        refine wpAnyT_done (by kernel_rfl) ?_ _
        go_wp2_with fail
        go_roundw
        case rel => exact ⟨i + 1, by go_num, hin, H9⟩
        case measure => simp [intOf]; omega
    · have hiI : ¬ (i : Int) < (L.length : Int) := by omega
      have HE : Hid (PageAt B b (wordsP (pcsT L) l) wr ∧ Kq B w wr ∧ Kq B W wr) := by
        have := HP.out
        rw [List.take_of_length_le (by omega)] at this
        exact this
      have c1 : wr.cell? ⟨w.heap.size, 1, none⟩ = some (.string (txtOf deg)) := cell_of (HE.out.2.2.other _ _ _ _ HgW.out (by decide) (by decide)) 1
      have hlq : (wordsP (pcsT L) l).length + tot [[62, 61], deg, [59]] ≤ 900000000 := by
        have h1 := words_len (pcsT L) l
        have h2 : tot (rowT L deg) = tot (pcsT L) + tot [[62, 61], deg, [59]] := tot_app _ _
        omega
      have HWd : Hid (Calls Tryz.prog 80 #[.pointer (some ⟨b, 0, none⟩), .slice (some ⟨wr.heap.size, 0, none⟩) 3 3] (wr.alloc (.cells #[.string ⟨#[62, 61]⟩, .string (txtOf deg), .string ⟨#[59]⟩] 9)) fun e w' => e = .returned (.pointer (some ⟨b, 0, none⟩)) ∧ PageAt B b (wordsP (rowT L deg) l) w' ∧ Kq B w w') := by
        refine (words_three [62, 61] deg [59] wr HE.out.1 hlq (Nat.le_trans hBw HE.out.2.1.low.size)).mono fun e w' hq => ⟨hq.1, ?_, HE.out.2.1.trans hq.2.2⟩
        unfold rowT
        rw [words_app]
        exact hq.2.1
      clear hlq
      go_wp2_with fail
      refine calls_at HWd.out (by with_reducible rfl) (by with_reducible rfl) ?_
      rintro e w3 ⟨rfl, hp3, hk3⟩
      have H3 : Hid (PageAt B b (wordsP (rowT L deg) l) w3 ∧ Kq B w w3) := ⟨hp3, hk3⟩
      clear hp3 hk3
      go_wp2_with fail
      go_ret
      exact ⟨rfl, H3.out⟩
end Go.Proofs.YtibbnijicdijnaaGreatDoor
