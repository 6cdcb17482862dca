/-
  Put together: PfWords, PfLits.
-/
import Derived.Test.YtibbnijicdijnaaGreatDoorJ07
import Derived.Test.YtibbnijicdijnaaGreatDoorPfSame
namespace Go.Proofs.YtibbnijicdijnaaGreatDoor
open Go.RowKit

/-- A block that no page writes. -/
def Ext (B : Nat) (w : World) (g : Nat) : Prop := g < B ∨ ∃ c ty fz, w.heap[g]? = some (.cells c ty fz) ∧ ty ≠ 5 ∧ ty ≠ 125
theorem Ext.keep {B g : Nat} {w w' : World} (h : Ext B w g) (k : Kq B w w') : w'.heap[g]? = w.heap[g]? := by
  rcases h with h | ⟨c, ty, fz, h1, h2, h3⟩
  · exact k.low.block g h
  · exact (k.other g c ty fz h1 h2 h3).trans h1.symm
theorem Ext.next {B g : Nat} {w w' : World} (h : Ext B w g) (k : Kq B w w') : Ext B w' g := by
  have hk := h.keep k
  rcases h with h | ⟨c, ty, fz, h1, h2, h3⟩
  · exact .inl h
  · exact .inr ⟨c, ty, fz, hk.trans h1, h2, h3⟩
/-- A row of values in such a block. -/
def RdE (B : Nat) (w : World) (v : Value) (n : Nat) (xs : List Value) : Prop := ∃ a cap, v = .slice a n cap ∧ n ≤ 9223372036854775807 ∧ (0 < n → ∃ g off, a = some ⟨g, off, none⟩ ∧ Ext B w g ∧ g < w.heap.size ∧ ∀ j u, xs[j]? = some u → w.cell? ⟨g, off + j, none⟩ = some u)
theorem RdE.next {B : Nat} {w w' : World} {v : Value} {n : Nat} {xs : List Value} (h : RdE B w v n xs) (k : Kq B w w') : RdE B w' v n xs := by
  obtain ⟨a, cap, h1, h2, h3⟩ := h
  refine ⟨a, cap, h1, h2, fun h0 => ?_⟩
  obtain ⟨g, off, e1, e2, e3, e4⟩ := h3 h0
  refine ⟨g, off, e1, e2.next k, Nat.lt_of_lt_of_le e3 k.low.size, fun j u hu => ?_⟩
  have := e4 j u hu
  simp only [World.cell?] at this ⊢
  rw [e2.keep k]
  exact this
theorem RdE.cell {B : Nat} {w : World} {a : Option Addr} {n cap : Nat} {xs : List Value} (h : RdE B w (.slice a n cap) n xs) (j : Nat) (hj : j < n) : ∃ g off, a = some ⟨g, off, none⟩ ∧ ∀ i u, xs[i]? = some u → w.cell? ⟨g, off + i, none⟩ = some u := by
  obtain ⟨a', cap', h1, h2, h3⟩ := h
  injection h1 with q1 q2 q3
  subst q1
  obtain ⟨g, off, e1, _, _, e4⟩ := h3 (by omega)
  exact ⟨g, off, e1, e4⟩
/-- A word more. -/
def wordP (l x : List UInt8) : List UInt8 := if 0 < l.length then l ++ 32 :: x else l ++ x
def wordsP (L : List (List UInt8)) (l : List UInt8) : List UInt8 := L.foldl wordP l
def tot (L : List (List UInt8)) : Nat := (L.map fun x => x.length + 1).sum
theorem word_len (l x : List UInt8) : (wordP l x).length ≤ l.length + x.length + 1 := by unfold wordP; split <;> simp <;> omega
theorem words_len (L : List (List UInt8)) (l : List UInt8) : (wordsP L l).length ≤ l.length + tot L := by
  induction L generalizing l with
  | nil => simp [wordsP, tot]
  | cons x L ih =>
    have h1 := ih (wordP l x)
    have h2 := word_len l x
    have e1 : wordsP (x :: L) l = wordsP L (wordP l x) := rfl
    have e2 : tot (x :: L) = x.length + 1 + tot L := by simp [tot]
    rw [e1, e2]
    omega
theorem tot_take (L : List (List UInt8)) (i : Nat) (hi : i < L.length) : tot (L.take i) + (L[i].length + 1) ≤ tot L := by
  have h : tot L = tot (L.take i) + tot (L.drop i) := by
    unfold tot
    rw [← List.sum_append, ← List.map_append, List.take_append_drop]
  have h2 : tot (L.drop i) = L[i].length + 1 + tot (L.drop (i + 1)) := by
    rw [List.drop_eq_getElem_cons hi]
    simp only [tot, List.map_cons, List.sum_cons]
  omega

set_option maxRecDepth 10000 in
set_option maxHeartbeats 2000000 in
theorem words_any {B b : Nat} {l : List UInt8} (L : List (List UInt8)) (v : Value) (w : World) (h : PageAt B b l w) (hR : RdE B w v L.length (L.map fun x => .string (txtOf x))) (hl : l.length + tot L ≤ 900000000) (hBw : B ≤ w.heap.size) : Calls Tryz.prog 80 #[.pointer (some ⟨b, 0, none⟩), v] w fun e w' => e = .returned (.pointer (some ⟨b, 0, none⟩)) ∧ PageAt B b (wordsP L l) w' ∧ Kq B w w' := by
  have HR : Hid (RdE B w v L.length (L.map fun x => .string (txtOf x))) := hR
  obtain ⟨a, cap, rfl, hn, _⟩ := hR
  have H0 : Hid (PageAt B b l w) := h
  clear h
  go_enter Tryz.func80, Tryz.ntmps80
  go_wp2_with fail
  go_loopw [9] (fun iv wr => ∃ i : Nat, iv = .int .i64 (i : Int) ∧ i ≤ L.length ∧ Hid (PageAt B b (wordsP (L.take i) l) wr ∧ Kq B w wr)) (fun iv _ => L.length - (intOf iv).toNat)
  case atStart => exact ⟨0, rfl, Nat.zero_le _, H0.out, Kq.refl _ _⟩
  case round =>
    obtain ⟨i, rfl, hi, HP⟩ := hrel
    by_cases hin : i < L.length
    · have hiI : (i : Int) < (L.length : Int) := by omega
      obtain ⟨g, off, rfl, hce⟩ := (HR.out.next HP.out.2).cell i hin
      have c0 := hce i (.string (txtOf L[i])) (by simp [hin])
      obtain ⟨y, hy⟩ : ∃ y, L[i] = y := ⟨_, rfl⟩
      rw [hy] at c0
      obtain ⟨m, hm⟩ : ∃ m, wordsP (L.take i) l = m := ⟨_, rfl⟩
      have HN : Hid (wordsP (L.take (i + 1)) l = wordP m y) := by
        show _ = _
        rw [List.take_succ_eq_append_getElem hin, hy, ← hm]
        simp [wordsP, List.foldl_append]
      have hml : m.length + y.length + 1 ≤ 900000000 := by
        have h1 := words_len (L.take i) l
        have h2 := tot_take L i hin
        rw [hm] at h1
        rw [hy] at h2
        omega
      have HPm : Hid (PageAt B b m wr ∧ Kq B w wr) := by rw [← hm]; exact HP.out
      have hBr : B ≤ wr.heap.size := Nat.le_trans hBw HP.out.2.low.size
      have HLn : Hid (Calls Tryz.prog 118 #[.pointer (some ⟨b, 0, none⟩)] wr fun e w' => e = .returned (.int .i64 (m.length : Int)) ∧ w' = wr) := len_any B b m wr HPm.out.1
      clear hce hy hm
      by_cases h0 : 0 < m.length
      · have h0I : (0 : Int) < (m.length : Int) := by omega
        have HW1 : Hid (Calls Tryz.prog 38 #[.pointer (some ⟨b, 0, none⟩), .int .u8 32] wr fun e w' => e = .returned .nilIface ∧ PageAt B b (m ++ [32]) w' ∧ Kq B wr w') := writeByte_any B b m 32 32 rfl wr HPm.out.1 (by omega) hBr
        go_wp2_with fail
        refine calls_at HLn.out (by with_reducible rfl) (by with_reducible rfl) ?_
        rintro e w1 ⟨rfl, rfl⟩
        go_wp2_with fail
        refine calls_at HW1.out (by with_reducible rfl) (by with_reducible rfl) ?_
        rintro e w2 ⟨rfl, hp2, hk2⟩
        have HW2 : Hid (Calls Tryz.prog 37 #[.pointer (some ⟨b, 0, none⟩), .string (txtOf y)] w2 fun e w' => e = .returned (.tuple #[.int .i64 (txtOf y).size, .nilIface]) ∧ PageAt B b (wordP m y) w' ∧ Kq B w2 w') := by
          have := writeString_any B b (m ++ [32]) (txtOf y) w2 hp2 (by rw [txt_size]; simp; omega) (Nat.le_trans hBr hk2.low.size)
          rw [txt_list, List.append_assoc] at this
          have e : wordP m y = m ++ ([32] ++ y) := by unfold wordP; rw [if_pos h0]; rfl
          rw [e]
          exact this
        have HK2 : Hid (Kq B w w2) := HPm.out.2.trans hk2
        clear hp2 hk2
        go_wp2_with fail
        refine calls_at HW2.out (by with_reducible rfl) (by with_reducible rfl) ?_
        rintro e w3 ⟨rfl, hp3, hk3⟩
        have H3 : Hid (PageAt B b (wordsP (L.take (i + 1)) l) w3 ∧ Kq B w w3) := by rw [HN.out]; exact ⟨hp3, HK2.out.trans hk3⟩
        clear hp3 hk3
        go_wp2_with fail
        go_roundw
        case rel => exact ⟨i + 1, by go_num, hin, H3⟩
        case measure => simp [intOf]; omega
      · have h0I : ¬ (0 : Int) < (m.length : Int) := by omega
        have HW2 : Hid (Calls Tryz.prog 37 #[.pointer (some ⟨b, 0, none⟩), .string (txtOf y)] wr fun e w' => e = .returned (.tuple #[.int .i64 (txtOf y).size, .nilIface]) ∧ PageAt B b (wordP m y) w' ∧ Kq B wr w') := by
          have := writeString_any B b m (txtOf y) wr HPm.out.1 (by rw [txt_size]; omega) hBr
          rw [txt_list] at this
          have e : wordP m y = m ++ y := by unfold wordP; rw [if_neg h0]
          rw [e]
          exact this
        go_wp2_with fail
        refine calls_at HLn.out (by with_reducible rfl) (by with_reducible rfl) ?_
        rintro e w1 ⟨rfl, rfl⟩
        go_wp2_with fail
        refine calls_at HW2.out (by with_reducible rfl) (by with_reducible rfl) ?_
        rintro e w3 ⟨rfl, hp3, hk3⟩
        have H3 : Hid (PageAt B b (wordsP (L.take (i + 1)) l) w3 ∧ Kq B w w3) := by rw [HN.out]; exact ⟨hp3, HPm.out.2.trans hk3⟩
        clear hp3 hk3
        go_wp2_with fail
        go_roundw
        case rel => exact ⟨i + 1, by go_num, hin, H3⟩
        case measure => simp [intOf]; omega
    · have hiI : ¬ (i : Int) < (L.length : Int) := by omega
      have HE : Hid (PageAt B b (wordsP L l) wr ∧ Kq B w wr) := by
        have := HP.out
        rw [List.take_of_length_le (by omega)] at this
        exact this
      go_wp2_with fail
      go_ret
      exact ⟨rfl, HE.out⟩
end Go.Proofs.YtibbnijicdijnaaGreatDoor

namespace Go.Proofs.YtibbnijicdijnaaGreatDoor
open Go.RowKit

theorem Gl.kq {B : Nat} {w w' : World} (h : Gl w) (k : Kq B w w') (hB : 12 ≤ B) : Gl w' := h.below k.low hB

theorem below_grow (w : World) (q : Nat) (os : Array Obj) : Below w.heap.size w (Sort.grow (w.drewN q) os) :=
  ⟨rfl, rfl, rfl, by simp [Sort.grow], fun i hi => by
    show ((w.drewN q).heap ++ os)[i]? = _
    rw [Array.getElem?_append_left (by show i < w.heap.size; omega)]
    rfl⟩
theorem txt_app (a b : List UInt8) : txtOf a ++ txtOf b = txtOf (a ++ b) := by
  unfold txtOf
  apply ByteArray.ext
  simp
/-- A literal's text. -/
def litT (n : Int) : List UInt8 := if Lib.hasPrefix (Lib.itoa n) [45] = true then 126 :: 120 :: Lib.trimPrefix (Lib.itoa n) [45] else 120 :: Lib.trimPrefix (Lib.itoa n) [45]
theorem itoa_any (n : Int) (w : World) (h0 : -9223372036854775808 ≤ n) (h1 : n ≤ 9223372036854775807) (hg : Gl w) : Calls Tryz.prog 52 #[.int .i64 n] w fun e w' => e = .returned (.string (txtOf (Lib.itoa n))) ∧ Below w.heap.size w w' := by
  refine (Tryz.strconv_Itoa n h0 h1 w hg.pow).mono ?_
  rintro e w' ⟨rfl, k, os, rfl⟩
  exact ⟨rfl, below_grow _ _ _⟩
/-- A text in a new block. -/
theorem one_text {B : Nat} (w : World) (y : List UInt8) : RdE B (w.alloc (.cells #[.string (txtOf y)] 9)) (.slice (some ⟨w.heap.size, 0, none⟩) 1 1) 1 ([y].map fun x => .string (txtOf x)) := by
  have hg := heap_alloc_new w (.cells #[.string (txtOf y)] 9)
  refine ⟨_, _, rfl, by omega, fun _ => ⟨w.heap.size, 0, rfl, .inr ⟨_, _, _, hg, by decide, by decide⟩, (Array.getElem?_eq_some_iff.1 hg).1, fun j u hu => ?_⟩⟩
  rw [Nat.zero_add, cell_of hg]
  simpa using hu
theorem words_one {B b : Nat} {l : List UInt8} (y : List UInt8) (w : World) (h : PageAt B b l w) (hl : l.length + (y.length + 1) ≤ 900000000) (hBw : B ≤ w.heap.size) : Calls Tryz.prog 80 #[.pointer (some ⟨b, 0, none⟩), .slice (some ⟨w.heap.size, 0, none⟩) 1 1] (w.alloc (.cells #[.string (txtOf y)] 9)) fun e w' => e = .returned (.pointer (some ⟨b, 0, none⟩)) ∧ PageAt B b (wordP l y) w' ∧ Kq B w w' := by
  have hb : Below w.heap.size w (w.alloc (.cells #[.string (txtOf y)] 9)) := (Below.refl _ _).alloc (Nat.le_refl _) _
  refine (words_any [y] _ _ (page_below h hb) (one_text w y) (by simpa [tot] using hl) (Nat.le_trans hBw hb.size)).mono fun e w' hq => ?_
  exact ⟨hq.1, hq.2.1, (Kq.of_below hb hBw).trans hq.2.2⟩

set_option maxRecDepth 10000 in
set_option maxHeartbeats 2000000 in
theorem literals_any {B b : Nat} {l : List UInt8} (L : List Int) (v : Value) (w : World) (h : PageAt B b l w) (hR : RdE B w v L.length (L.map (.int .i64))) (hl : l.length + tot (L.map litT) ≤ 900000000) (hr : ∀ x ∈ L, -9223372036854775808 ≤ x ∧ x ≤ 9223372036854775807) (hBw : B ≤ w.heap.size) (hg : Gl w) (hB : 12 ≤ B) : Calls Tryz.prog 128 #[.pointer (some ⟨b, 0, none⟩), v] w fun e w' => e = .returned (.pointer (some ⟨b, 0, none⟩)) ∧ PageAt B b (wordsP (L.map litT) l) w' ∧ Kq B w w' := by
  have HR : Hid (RdE B w v L.length (L.map (.int .i64))) := hR
  obtain ⟨a, cap, rfl, hn, _⟩ := hR
  have H0 : Hid (PageAt B b l w) := h
  have HG : Hid (Gl w) := hg
  have HRg : Hid (∀ x ∈ L, -9223372036854775808 ≤ x ∧ x ≤ 9223372036854775807) := hr
  clear h hg hr
  go_enter Tryz.func128, Tryz.ntmps128
  go_wp2_with fail
  go_loopw [11] (fun iv wr => ∃ i : Nat, iv = .int .i64 (i : Int) ∧ i ≤ L.length ∧ Hid (PageAt B b (wordsP ((L.map litT).take i) l) wr ∧ Kq B w wr)) (fun iv _ => L.length - (intOf iv).toNat)
  case atStart => exact ⟨0, rfl, Nat.zero_le _, H0.out, Kq.refl _ _⟩
  case round =>
    obtain ⟨i, rfl, hi, HP⟩ := hrel
    by_cases hin : i < L.length
    · have hiI : (i : Int) < (L.length : Int) := by omega
      have hin2 : i < (L.map litT).length := by simpa using hin
      obtain ⟨g, off, rfl, hce⟩ := (HR.out.next HP.out.2).cell i hin
      have c0 := hce i (.int .i64 L[i]) (by simp [hin])
      have hrg := HRg.out L[i] (List.getElem_mem hin)
      obtain ⟨n, hn2⟩ : ∃ n, L[i] = n := ⟨_, rfl⟩
      rw [hn2] at c0 hrg
      obtain ⟨m, hm⟩ : ∃ m, wordsP ((L.map litT).take i) l = m := ⟨_, rfl⟩
      have HN : Hid (wordsP ((L.map litT).take (i + 1)) l = wordP m (litT n)) := by
        show _ = _
        rw [List.take_succ_eq_append_getElem hin2, ← hm]
        simp [wordsP, List.foldl_append, hn2]
      have hml : m.length + ((litT n).length + 1) ≤ 900000000 := by
        have h1 := words_len ((L.map litT).take i) l
        have h2 := tot_take (L.map litT) i hin2
        rw [hm] at h1
        simp only [List.getElem_map, hn2] at h2
        omega
      have HPm : Hid (PageAt B b m wr ∧ Kq B w wr) := by rw [← hm]; exact HP.out
      have hBr : B ≤ wr.heap.size := Nat.le_trans hBw HP.out.2.low.size
      have HIt : Hid (Calls Tryz.prog 52 #[.int .i64 n] wr fun e w' => e = .returned (.string (txtOf (Lib.itoa n))) ∧ Below wr.heap.size wr w') := itoa_any n wr hrg.1 hrg.2 (HG.out.kq HPm.out.2 hB)
      have HCt : Hid (∀ w', Calls Tryz.prog 151 #[.string (txtOf (Lib.itoa n)), .string ⟨#[45]⟩] w' fun e w2 => e = .returned (.tuple #[.string (txtOf (Lib.trimPrefix (Lib.itoa n) [45])), .bool (Lib.hasPrefix (Lib.itoa n) [45])]) ∧ w2 = w') := fun w' => by
        have := Tryz.strings_CutPrefix (txtOf (Lib.itoa n)) ⟨#[45]⟩ w'
        rw [txt_list] at this
        exact this
      have HLt : Hid (litT n = if Lib.hasPrefix (Lib.itoa n) [45] = true then 126 :: 120 :: Lib.trimPrefix (Lib.itoa n) [45] else 120 :: Lib.trimPrefix (Lib.itoa n) [45]) := rfl
      obtain ⟨y, hy⟩ : ∃ y, litT n = y := ⟨_, rfl⟩
      obtain ⟨t, ht⟩ : ∃ t, Lib.trimPrefix (Lib.itoa n) [45] = t := ⟨_, rfl⟩
      obtain ⟨hp, hhp⟩ : ∃ t, Lib.hasPrefix (Lib.itoa n) [45] = t := ⟨_, rfl⟩
      rw [hy, ht, hhp] at HLt
      rw [ht, hhp] at HCt
      rw [hy] at HN hml
      clear hce hn2 hm hy ht hhp
      go_wp2_with fail
      refine calls_at HIt.out (by with_reducible rfl) (by with_reducible rfl) ?_
      rintro e w1 ⟨rfl, hb1⟩
      have HP1 : Hid (PageAt B b m w1 ∧ Kq B w w1) := ⟨page_below HPm.out.1 hb1, HPm.out.2.trans (Kq.of_below hb1 hBr)⟩
      clear hb1
      go_wp2_with fail
      refine calls_at (HCt.out _) (by with_reducible rfl) (by with_reducible rfl) ?_
      rintro e w2 ⟨rfl, rfl⟩
      cases hp with
      | true =>
        have hy : y = 126 :: 120 :: t := HLt.out
        have hcat : (⟨#[126, 120]⟩ : ByteArray) ++ txtOf t = txtOf y := by rw [hy]; exact txt_app [126, 120] t
        have hts : (txtOf t).size ≤ 900000000 := by rw [txt_size]; rw [hy] at hml; simp at hml; omega
        have HWd : Hid (Calls Tryz.prog 80 #[.pointer (some ⟨b, 0, none⟩), .slice (some ⟨w2.heap.size, 0, none⟩) 1 1] (w2.alloc (.cells #[.string (txtOf y)] 9)) fun e w' => e = .returned (.pointer (some ⟨b, 0, none⟩)) ∧ PageAt B b (wordP m y) w' ∧ Kq B w2 w') := words_one y w2 HP1.out.1 (by omega) (Nat.le_trans hBw HP1.out.2.low.size)
        clear hy
        go_wp2_with fail
        refine calls_at HWd.out (by with_reducible rfl) (by with_reducible rfl) ?_
        rintro e w3 ⟨rfl, hp3, hk3⟩
        have H3 : Hid (PageAt B b (wordsP ((L.map litT).take (i + 1)) l) w3 ∧ Kq B w w3) := by rw [HN.out]; exact ⟨hp3, HP1.out.2.trans hk3⟩
        clear hp3 hk3
        go_wp2_with fail
        go_roundw
        case rel => exact ⟨i + 1, by go_num, hin, H3⟩
        case measure => simp [intOf]; omega
      | false =>
        have hy : y = 120 :: t := HLt.out
        have hcat : (⟨#[120]⟩ : ByteArray) ++ txtOf t = txtOf y := by rw [hy]; exact txt_app [120] t
        have hts : (txtOf t).size ≤ 900000000 := by rw [txt_size]; rw [hy] at hml; simp at hml; omega
        have HWd : Hid (Calls Tryz.prog 80 #[.pointer (some ⟨b, 0, none⟩), .slice (some ⟨w2.heap.size, 0, none⟩) 1 1] (w2.alloc (.cells #[.string (txtOf y)] 9)) fun e w' => e = .returned (.pointer (some ⟨b, 0, none⟩)) ∧ PageAt B b (wordP m y) w' ∧ Kq B w2 w') := words_one y w2 HP1.out.1 (by omega) (Nat.le_trans hBw HP1.out.2.low.size)
        clear hy
        go_wp2_with fail
        refine calls_at HWd.out (by with_reducible rfl) (by with_reducible rfl) ?_
        rintro e w3 ⟨rfl, hp3, hk3⟩
        have H3 : Hid (PageAt B b (wordsP ((L.map litT).take (i + 1)) l) w3 ∧ Kq B w w3) := by rw [HN.out]; exact ⟨hp3, HP1.out.2.trans hk3⟩
        clear hp3 hk3
        go_wp2_with fail
        go_roundw
        case rel => exact ⟨i + 1, by go_num, hin, H3⟩
        case measure => simp [intOf]; omega
    · have hiI : ¬ (i : Int) < (L.length : Int) := by omega
      have HE : Hid (PageAt B b (wordsP (L.map litT) l) wr ∧ Kq B w wr) := by
        have := HP.out
        rw [List.take_of_length_le (by simp; omega)] at this
        exact this
      go_wp2_with fail
      go_ret
      exact ⟨rfl, HE.out⟩
end Go.Proofs.YtibbnijicdijnaaGreatDoor
