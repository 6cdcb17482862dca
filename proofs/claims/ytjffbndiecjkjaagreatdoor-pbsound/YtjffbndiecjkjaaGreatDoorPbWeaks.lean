/-
  Put together: PbWeak, PbWeaken.
-/
import Derived.Test.YtjffbndiecjkjaaGreatDoorPbAllMW
import Derived.Lib.AppendZeros
namespace Go.Proofs.YtjffbndiecjkjaaGreatDoor
open Go.Shelf Go.RowKit Go.Lib Go.Sort
open Bn (limbs)

set_option maxRecDepth 100000 in
set_option maxHeartbeats 1000000 in
theorem weakCmp_any (m : Int) (q : Option Addr) (l v : Int) (w : World) : Calls Tryz.prog 52 #[.agg #[.int .i64 m, .pointer q, .int .i64 l], .int .i64 v] w fun e w' => ∃ c, e = .returned (.int .i64 c) ∧ RowKit.Below w.heap.size w w' := by
  have HX : Hid (∀ w, Calls Tryz.prog 48 #[.int .i64 l] w fun e w' => e = .returned (.int .i64 (vv l)) ∧ w' = w) := fun w => variable_vv l w
  have HC : Hid (∀ x w, Calls Tryz.prog 53 #[.int .i64 x, .int .i64 v] w fun e w' => e = .returned (.int .i64 (Lib.compareInt x v)) ∧ w' = w) := fun x w => Tryz.cmp_Compare_int x v w
  generalize vv l = y at *
  go_enter Tryz.func52, Tryz.ntmps52
  go_wp2_with (first
    | (go_at_call 48; refine calls_at (HX.out _) (by with_reducible rfl) (by with_reducible rfl) ?_; rintro e w' ⟨rfl, rfl⟩)
    | (go_at_call 53; refine calls_at (HC.out y _) (by with_reducible rfl) (by with_reducible rfl) ?_; rintro e w' ⟨rfl, rfl⟩))
  go_ret
  exact ⟨_, rfl, (Below.refl _ _).alloc (Nat.le_refl _) _⟩

theorem mid_is (i j : Nat) (h : i + j ≤ 2000000) : wrap64 ((i : Int) + (j : Int)) = ((i + j : Nat) : Int) := by unfold wrap64; omega

set_option maxRecDepth 100000 in
set_option maxHeartbeats 2000000 in
theorem search_any (a : Option Addr) (N c : Nat) (K : List (Int × Int)) (v : Int) (w : World) (h : PiAt w (.slice a N c) K) (hN : K.length = N) (hn : N ≤ 1000000) :
    Calls Tryz.prog 51 #[.slice a N c, .int .i64 v, .func (.func 52) #[] #[]] w fun e w' => ∃ (i : Nat) (b : Bool), e = .returned (.tuple #[.int .i64 i, .bool b]) ∧ i ≤ N ∧ (b = true → i < N) ∧ RowKit.Below w.heap.size w w' := by
  have HP : Hid (PiAt w (.slice a N c) K) := h
  have HN : Hid (K.length = N) := hN
  have HCl : Hid (∀ m q l w, Calls Tryz.prog 52 #[.agg #[.int .i64 m, .pointer q, .int .i64 l], .int .i64 v] w fun e w' => ∃ c, e = .returned (.int .i64 c) ∧ RowKit.Below w.heap.size w w') := fun m q l w => weakCmp_any m q l v w
  have he := enters_of Tryz.func52 (by kernel_rfl) rfl
  unfold Enters at he
  have Hb0 : Hid (RowKit.Below w.heap.size w w) := Below.refl _ _
  clear h hN
  go_enter Tryz.func51, Tryz.ntmps51
  go_wp2_with fail
  go_loopw [9, 10] (fun iv jv wr => ∃ (i j : Nat), iv = .int .i64 (i : Int) ∧ jv = .int .i64 (j : Int) ∧ i ≤ j ∧ j ≤ N ∧ Hid (RowKit.Below w.heap.size w wr)) (fun iv jv _ => (intOf jv).toNat - (intOf iv).toNat)
  case atStart => exact ⟨0, N, rfl, rfl, Nat.zero_le _, Nat.le_refl _, Hb0⟩
  case round =>
    obtain ⟨i, j, rfl, rfl, hij, hjN, hb⟩ := hrel
    clear Hb0
    by_cases hlt : i < j
    · have hI : (i : Int) < (j : Int) := by omega
      have hm1 := mid_is i j (by omega)
      obtain ⟨k, hk⟩ : ∃ k, (i + j) / 2 = k := ⟨_, rfl⟩
      have hkl : k < K.length := by have := HN.out; omega
      obtain ⟨b, m, q, ha, hbl, e0, e1, e2, _⟩ := (HP.out.below hb.out).cell k hkl
      subst ha
      go_wp2_with fail
      refine (HCl.out m q _ wr).mono ?_
      rintro e w1 ⟨r, rfl, hb1⟩
      have Hb1 : Hid (RowKit.Below w.heap.size w w1) := hb.out.trans (hb1.mono hb.out.size)
      clear hb1 e0 e1 e2 hm1
      by_cases hr : r < 0
      · go_wp2_with fail
        go_roundw
        case rel => exact ⟨(i + j) / 2 + 1, j, by rw [show ((i : Int) + (j : Int)) / 2 + 1 = (((i + j) / 2 + 1 : Nat) : Int) by omega], rfl, by omega, hjN, Hb1⟩
        case measure => simp [intOf]; omega
      · go_wp2_with fail
        go_roundw
        case rel => exact ⟨i, (i + j) / 2, rfl, by rw [show ((i : Int) + (j : Int)) / 2 = (((i + j) / 2 : Nat) : Int) by omega], by omega, by omega, Hb1⟩
        case measure => simp [intOf]; omega
    · have hI : ¬ (i : Int) < (j : Int) := by omega
      by_cases hiN : i < N
      · have hJ : (i : Int) < (N : Int) := by omega
        have hkl : i < K.length := by have := HN.out; omega
        obtain ⟨b, m, q, ha, hbl, e0, e1, e2, _⟩ := (HP.out.below hb.out).cell i hkl
        subst ha
        go_wp2_with fail
        refine (HCl.out m q _ wr).mono ?_
        rintro e w1 ⟨r, rfl, hb1⟩
        have Hb1 : Hid (RowKit.Below w.heap.size w w1) := hb.out.trans (hb1.mono hb.out.size)
        clear hb1 e0 e1 e2
        go_wp2_with fail
        exact bodyPost_ret (by simp [results, Tryz.results51, go_sem]; try rfl) rfl ⟨i, _, rfl, by omega, fun _ => hiN, Hb1.out⟩
      · have hJ : ¬ (i : Int) < (N : Int) := by omega
        go_wp2_with fail
        exact bodyPost_ret (by simp [results, Tryz.results51, go_sem]; try rfl) rfl ⟨i, .inl ⟨rfl, by omega, hb.out⟩⟩

/-- Grow of nothing. -/
theorem zero_pc : (Value.agg #[.int .i64 0, .pointer none, .int .i64 0]).cells = #[.int .i64 0, .pointer none, .int .i64 0] := rfl
set_option maxRecDepth 100000 in
set_option maxHeartbeats 2000000 in
theorem grow_any (n : Nat) (w : World) (hn : n ≤ 1000000) : Calls Tryz.prog 81 #[.slice none 0 0, .int .i64 n] w fun e w' => ∃ v, e = .returned v ∧ KeptAt w' w.heap.size v [] [] ∧ RowKit.Below w.heap.size w w' := by
  rcases Nat.eq_zero_or_pos n with rfl | h0
  · go_enter Tryz.func81, Tryz.ntmps81
    go_wp2_with fail
    go_ret
    exact ⟨_, rfl, ⟨⟨⟨rfl, .inl ⟨rfl, rfl⟩⟩, fun g cur f hg => by simp [Value.ownBlock] at hg⟩, rfl, fun i h => by simp at h⟩, Below.refl _ _⟩
  · obtain ⟨i0, hi, hz0, hz1, hz2⟩ := info_parts Tryz.info67
    have hrun := fun ty => run_append_nil_zeros w 30 3 ty 67 i0 _ .i64 .i64 pieceSlice Tryz.underlying3 hi hz0 n h0 (by rw [hz1]; decide) (by omega) (by rw [hz2]; omega)
    have hG := grownCap_ge w n 0 67
    have hGm := grownCap_le_maxLen w n 0 67 (by unfold maxLen; omega)
    generalize grownCap w n 0 67 = G at *
    obtain ⟨V, hV⟩ : ∃ V, (w.drew.alloc (.cells (Builtin.zeroCells (Value.agg #[.int .i64 0, .pointer none, .int .i64 0]).cells n ++ Builtin.zeroCells (Value.agg #[.int .i64 0, .pointer none, .int .i64 0]).cells (G - n)) 67)) = V := ⟨_, rfl⟩
    rw [hV] at hrun
    have HV : Hid (KeptAt V w.heap.size (.slice (some ⟨w.heap.size, 0, none⟩) 0 G) [] [] ∧ RowKit.Below w.heap.size w V) := by
      have hbV : RowKit.Below w.heap.size w V := by rw [← hV]; exact (Below.refl _ _).drew.alloc (Nat.le_refl _) _
      have hOV : V.heap[w.heap.size]? = some (.cells (Builtin.zeroCells (Value.agg #[.int .i64 0, .pointer none, .int .i64 0]).cells n ++ Builtin.zeroCells (Value.agg #[.int .i64 0, .pointer none, .int .i64 0]).cells (G - n)) 67) := by rw [← hV]; exact World.alloc_heap_new w.drew _
      have hpl : ∀ u ∈ (Value.agg #[.int .i64 0, .pointer none, .int .i64 0]).cells.toList, Plain1 u := fun u hu => by
        rw [zero_pc] at hu
        simp only [List.mem_cons, List.not_mem_nil, or_false] at hu
        rcases hu with rfl | rfl | rfl
        · exact plain_int 0
        · exact plain_ptr none
        · exact plain_int 0
      refine ⟨⟨⟨⟨rfl, .inr ⟨w.heap.size, G, _, rfl, Nat.le_refl _, hOV, Nat.zero_le _, hGm, ?_, by simp [pcCells]⟩⟩, fun g cur f hg hc => ?_⟩, rfl, fun i h => by simp at h⟩, hbV⟩
      · rw [Array.size_append, size_zeroCells, size_zeroCells, zero_pc]
        show n * 3 + (G - n) * 3 = G * 3
        omega
      · simp [Value.ownBlock] at hg
        subst hg
        rw [hOV] at hc
        injection hc with hc
        injection hc with e1 _ _
        subst e1
        intro u hu
        rw [Array.toList_append] at hu
        rcases List.mem_append.1 hu with hu | hu
        · exact zeroCells_f hpl u hu
        · exact zeroCells_f hpl u hu
    have hnI : (0 : Int) < (n : Int) := by omega
    have hnJ : ¬ (n : Int) < 0 := by omega
    have hGI : (0 : Int) ≤ (G : Int) := by omega
    go_enter Tryz.func81, Tryz.ntmps81
    go_wp2_with (at_builtin; refine Lib.wpList_append_run _ rfl _ _ _ _ rfl _ _ rfl rfl _ _ (hrun _) ?_)
    go_ret
    exact ⟨_, rfl, HV.out⟩

/-- What the first k of two have. -/
def upTo {α : Type} (k : Nat) (a b : List α) : List α := if k = 0 then [] else if k = 1 then a else a ++ b

set_option maxRecDepth 100000 in
set_option maxHeartbeats 4000000 in
theorem concat_any (B : Nat) (u1 u2 : Value) (L1 L2 : List PcV) (K1 K2 : List (Int × Int)) (w : World) (hO : w.heap[B]? = some (.cells #[u1, u2] 30)) (h1 : PartP w u1 L1 K1) (h2 : PartP w u2 L2 K2) (hn1 : L1.length ≤ 400000) (hn2 : L2.length ≤ 400000) :
    Calls Tryz.prog 54 #[.slice (some ⟨B, 0, none⟩) 2 2] w fun e w' => ∃ v, e = .returned v ∧ PiAt w' v (K1 ++ K2) ∧ RowKit.Below w.heap.size w w' := by
  have H1 : Hid (PartP w u1 L1 K1) := h1
  have H2 : Hid (PartP w u2 L2 K2) := h2
  obtain ⟨a1, c1, rfl, _, _⟩ := h1.form
  obtain ⟨a2, c2, rfl, _, _⟩ := h2.form
  obtain ⟨n1, hl1⟩ : ∃ n, L1.length = n := ⟨_, rfl⟩
  obtain ⟨n2, hl2⟩ : ∃ n, L2.length = n := ⟨_, rfl⟩
  rw [hl1] at H1 hn1 hO
  rw [hl2] at H2 hn2 hO
  have Hl : Hid (L1.length = n1 ∧ L2.length = n2) := ⟨hl1, hl2⟩
  have HO : Hid (∀ w', RowKit.Below w.heap.size w w' → w'.cell? ⟨B, 0, none⟩ = some (.slice a1 n1 c1) ∧ w'.cell? ⟨B, 1, none⟩ = some (.slice a2 n2 c2)) := fun w' hb => by
    have h := (hb.block _ (Array.getElem?_eq_some_iff.1 hO).1).trans hO
    exact ⟨by simp [World.cell?, h], by simp [World.cell?, h]⟩
  have HGr : Hid (∀ w', Calls Tryz.prog 81 #[.slice none 0 0, .int .i64 ((n1 + n2 : Nat) : Int)] w' fun e w'' => ∃ v, e = .returned v ∧ KeptAt w'' w'.heap.size v [] [] ∧ RowKit.Below w'.heap.size w' w'') := fun w' => grow_any (n1 + n2) w' (by omega)
  have Hb0 : Hid (RowKit.Below w.heap.size w w) := Below.refl _ _
  clear hO h1 h2 hl1 hl2
  go_enter Tryz.func54, Tryz.ntmps54
  go_wp2_with fail
  go_loopw [3, 11] (fun sv iv wr => ∃ k : Nat, iv = .int .i64 (k : Int) ∧ k ≤ 2 ∧ sv = .int .i64 ((if k = 0 then 0 else if k = 1 then n1 else n1 + n2 : Nat) : Int) ∧ Hid (RowKit.Below w.heap.size w wr)) (fun _ iv _ => 2 - (intOf iv).toNat)
  case atStart => exact ⟨0, rfl, by omega, rfl, Hb0⟩
  case round =>
    obtain ⟨k, rfl, hk, rfl, hb⟩ := hrel
    clear Hb0
    obtain ⟨c0, c1'⟩ := HO.out wr hb.out
    obtain rfl | rfl | rfl : k = 0 ∨ k = 1 ∨ k = 2 := by omega
    · simp only [if_true]
      have hw1 : wrap64 ((0 : Int) + (n1 : Int)) = (n1 : Int) := by unfold wrap64; omega
      have hw2 : ¬ (n1 : Int) < 0 := by omega
      go_wp2_with fail
      go_roundw
      case rel => exact ⟨1, rfl, by omega, by simp, hb⟩
      case measure => simp [intOf]
    · simp only [if_neg (show ¬ (1 : Nat) = 0 by decide), if_true]
      have hw1 : wrap64 ((n1 : Int) + (n2 : Int)) = ((n1 + n2 : Nat) : Int) := by unfold wrap64; omega
      have hw2 : ¬ ((n1 + n2 : Nat) : Int) < 0 := by omega
      go_wp2_with fail
      go_roundw
      case rel => exact ⟨2, rfl, by omega, by simp, hb⟩
      case measure => simp [intOf]
    · simp only [if_neg (show ¬ (2 : Nat) = 0 by decide), if_neg (show ¬ (2 : Nat) = 1 by decide)]
      clear c0 c1'
      go_wp2_with fail
      refine (HGr.out wr).mono ?_
      rintro e wg ⟨v, rfl, hK, hbg⟩
      have Hbase : Hid (w.heap.size ≤ wr.heap.size) := hb.out.size
      obtain ⟨base, hbase⟩ : ∃ b, wr.heap.size = b := ⟨_, rfl⟩
      rw [hbase] at hK Hbase
      have HK0 : Hid (KeptAt wg base v [] [] ∧ base ≤ wg.heap.size ∧ RowKit.Below w.heap.size w wg) := ⟨hK, by rw [← hbase]; exact hbg.size, hb.out.trans (hbg.mono hb.out.size)⟩
      clear hK hbg hbase
      go_wp2_with fail
      go_loopw [6, 27] (fun gv iv wx => ∃ k : Nat, iv = .int .i64 (k : Int) ∧ k ≤ 2 ∧ Hid (KeptAt wx base gv (upTo k L1 L2) (upTo k K1 K2) ∧ base ≤ wx.heap.size ∧ RowKit.Below w.heap.size w wx)) (fun _ iv _ => 2 - (intOf iv).toNat)
      case atStart => exact ⟨0, rfl, by omega, HK0⟩
      case round =>
        obtain ⟨k, rfl, hk, hF⟩ := hrel
        clear HK0
        rename World => wx
        obtain ⟨c0, c1'⟩ := HO.out wx hF.out.2.2
        obtain rfl | rfl | rfl : k = 0 ∨ k = 1 ∨ k = 2 := by omega
        · have hP := H1.out.below hF.out.2.2
          have Hnx : Hid (∀ v' w', KeptAt w' base v' ([] ++ L1) ([] ++ K1) → RowKit.Below base wx w' → KeptAt w' base v' (upTo 1 L1 L2) (upTo 1 K1 K2) ∧ base ≤ w'.heap.size ∧ RowKit.Below w.heap.size w w') := fun v' w' h h' => ⟨h, Nat.le_trans hF.out.2.1 h'.size, hF.out.2.2.trans (h'.mono Hbase.out)⟩
          have hlen : ([] : List PcV).length + L1.length ≤ 2000000 := by have := Hl.out.1; simp; omega
          go_wp2_with (first | (at_builtin; refine append_pieces wx rfl (.tmp 31) (.tmp 32) rfl base _ _ [] L1 [] K1 (by rfl) (by rfl) hF.out.1 hP hlen hF.out.2.1 ?_; intro v' w' hK' hB'; have HN := Hnx.out v' w' hK' hB'; clear hK' hB'))
          go_roundw
          case rel => exact ⟨1, rfl, by omega, HN⟩
          case measure => simp [intOf]
        · have hP := H2.out.below hF.out.2.2
          have Hnx : Hid (∀ v' w', KeptAt w' base v' (L1 ++ L2) (K1 ++ K2) → RowKit.Below base wx w' → KeptAt w' base v' (upTo 2 L1 L2) (upTo 2 K1 K2) ∧ base ≤ w'.heap.size ∧ RowKit.Below w.heap.size w w') := fun v' w' h h' => ⟨h, Nat.le_trans hF.out.2.1 h'.size, hF.out.2.2.trans (h'.mono Hbase.out)⟩
          have hlen : L1.length + L2.length ≤ 2000000 := by have := Hl.out; omega
          go_wp2_with (first | (at_builtin; refine append_pieces wx rfl (.tmp 31) (.tmp 32) rfl base _ _ L1 L2 K1 K2 (by rfl) (by rfl) hF.out.1 hP hlen hF.out.2.1 ?_; intro v' w' hK' hB'; have HN := Hnx.out v' w' hK' hB'; clear hK' hB'))
          go_roundw
          case rel => exact ⟨2, rfl, by omega, HN⟩
          case measure => simp [intOf]
        · go_wp2_with fail
          go_ret
          exact ⟨_, rfl, KeptAt.pi (K := K1 ++ K2) hF.out.1, hF.out.2.2⟩
end Go.Proofs.YtjffbndiecjkjaaGreatDoor

namespace Go.Proofs.YtjffbndiecjkjaaGreatDoor
open Go.Shelf Go.RowKit Go.Lib Go.Sort
open Bn (limbs)

theorem pc_split (L : List PcV) (i : Nat) : pcCells L = pcCells (L.take i) ++ pcCells (L.drop i) := by
  conv => lhs; rw [← List.take_append_drop i L]
  simp only [pcCells, List.flatMap_append]
theorem Says.take {w : World} {L : List PcV} {K : List (Int × Int)} (h : Says w L K) (i : Nat) : Says w (L.take i) (K.take i) :=
  ⟨by rw [List.length_take, List.length_take, h.1], fun j h1 h2 => by
    have := h.2 j (by rw [List.length_take] at h1; omega) (by rw [List.length_take] at h2; omega)
    simpa using this⟩
theorem Says.drop {w : World} {L : List PcV} {K : List (Int × Int)} (h : Says w L K) (i : Nat) : Says w (L.drop i) (K.drop i) :=
  ⟨by rw [List.length_drop, List.length_drop, h.1], fun j h1 h2 => by
    have := h.2 (i + j) (by rw [List.length_drop] at h1; omega) (by rw [List.length_drop] at h2; omega)
    simpa using this⟩
theorem PartP.take {w : World} {b N c : Nat} {L : List PcV} {K : List (Int × Int)} (h : PartP w (.slice (some ⟨b, 0, none⟩) N c) L K) (i : Nat) (hi : i ≤ N) : PartP w (.slice (some ⟨b, 0, none⟩) i c) (L.take i) (K.take i) := by
  obtain ⟨a2, c2, hf, hl, hm⟩ := h.form
  injection hf with e1 e2 e3
  subst e3
  have hlt : (L.take i).length = i := by rw [List.length_take]; omega
  refine ⟨⟨_, c, by rw [hlt], by omega, hm⟩, ?_, h.says.take i⟩
  rcases h.src with ⟨h0, _⟩ | ⟨b', off', c', hu, hb, hc⟩
  · cases h0
  · injection hu with e1 _ _
    injection e1 with e1
    injection e1 with e1 e4 _
    subst e1
    subst e4
    refine .inr ⟨b, 0, c, by rw [hlt], hb, fun j t hj => hc j t ?_⟩
    rw [pc_split L i, List.getElem?_append_left (List.getElem?_eq_some_iff.1 hj).1]
    exact hj
theorem PartP.drop {w : World} {b N c : Nat} {L : List PcV} {K : List (Int × Int)} (h : PartP w (.slice (some ⟨b, 0, none⟩) N c) L K) (i : Nat) (hi : i ≤ N) (a' : Option Addr) (ha : a' = if c = i then some ⟨b, 0, none⟩ else some ⟨b, i * 3, none⟩) : PartP w (.slice a' (N - i) (c - i)) (L.drop i) (K.drop i) := by
  obtain ⟨a2, c2, hf, hl, hm⟩ := h.form
  injection hf with e1 e2 e3
  subst e3
  have hlt : (L.drop i).length = N - i := by rw [List.length_drop]; omega
  refine ⟨⟨_, c - i, by rw [hlt], by omega, by omega⟩, ?_, h.says.drop i⟩
  rcases h.src with ⟨h0, _⟩ | ⟨b', off', c', hu, hb, hc⟩
  · cases h0
  · injection hu with e1 _ _
    injection e1 with e1
    injection e1 with e1 e4 _
    subst e1
    subst e4
    split at ha
    · subst ha
      have h0 : L.drop i = [] := List.eq_nil_of_length_eq_zero (by omega)
      refine .inr ⟨b, 0, c - i, by rw [hlt], hb, fun j t hj => ?_⟩
      rw [h0] at hj
      simp [pcCells] at hj
    · subst ha
      refine .inr ⟨b, i * 3, c - i, by rw [hlt], hb, fun j t hj => ?_⟩
      have := hc (i * 3 + j) t (by
        rw [pc_split L i, List.getElem?_append_right (by rw [pcCells_length, List.length_take]; omega), pcCells_length, List.length_take, Nat.min_eq_left (by omega), Nat.add_sub_cancel_left]
        exact hj)
      simpa using this

/-- A row without one of its pieces, or as it was. -/
def Weak (K : List (Int × Int)) (D : Int) (K' : List (Int × Int)) (D' : Int) : Prop := (K' = K ∧ D' = D) ∨ ∃ (i : Nat) (h : i < K.length), K' = K.take i ++ K.drop (i + 1) ∧ D' = max 0 (D - K[i].1)

theorem next_is (i : Nat) (h : i ≤ 1000000) : IntKind.i64.wrap ((i : Int) + 1) = ((i + 1 : Nat) : Int) := by rw [IntKind.wrap_i64]; omega

set_option maxRecDepth 100000 in
set_option maxHeartbeats 4000000 in
theorem weaken_any (u : Value) (Kl : List (Int × Int)) (D v : Int) (w : World) (h : PbAt w u Kl D) (hn : Kl.length ≤ 400000) (hkl : ∀ p ∈ Kl, (limbs p.1.natAbs).length ≤ 1000000) (hDl : (limbs D.natAbs).length ≤ 1000000) :
    Calls Tryz.prog 22 #[u, .int .i64 v] w fun e w' => ∃ r Kl' D', e = .returned r ∧ PbAt w' r Kl' D' ∧ Weak Kl D Kl' D' ∧ RowKit.Below w.heap.size w w' := by
  obtain ⟨a, c, n, q, rfl, hpi, hB⟩ := h
  obtain ⟨N, hN⟩ : ∃ N : Nat, Kl.length = N := ⟨_, rfl⟩
  rw [hN] at hpi ⊢
  have HPi : Hid (PiAt w (.slice a N c) Kl) := hpi
  have HB : Hid (BigAt w (.agg #[.int .i64 n, .pointer q]) D) := hB
  have HN : Hid (Kl.length = N) := hN
  have hN4 : N ≤ 400000 := by omega
  have Hkl : Hid ((∀ p ∈ Kl, (limbs p.1.natAbs).length ≤ 1000000) ∧ (limbs D.natAbs).length ≤ 1000000) := ⟨hkl, hDl⟩
  obtain ⟨W, hW⟩ : ∃ W, (w.alloc (.cells #[.slice a N c, .int .i64 n, .pointer q] 35)).alloc (.cells #[.slice none 0 0, .int .i64 0, .pointer none] 35) = W := ⟨_, rfl⟩
  obtain ⟨hO1, hO2, hbW, _⟩ := two_objs w _ _ hW
  have HbW : Hid (RowKit.Below w.heap.size w W) := hbW
  have HO1 : Hid (∀ w', RowKit.Below W.heap.size W w' → w'.heap[w.heap.size]? = some (.cells #[.slice a N c, .int .i64 n, .pointer q] 35)) := fun w' hb => (hb.block _ (Array.getElem?_eq_some_iff.1 hO1).1).trans hO1
  have HO2 : Hid (∀ w', RowKit.Below W.heap.size W w' → Box0 w' (w.heap.size + 1)) := fun w' hb => (hb.block _ (Array.getElem?_eq_some_iff.1 hO2).1).trans hO2
  have HVw : Hid (∀ w', RowKit.Below W.heap.size W w' → RowKit.Below w.heap.size w w') := fun w' hb => HbW.out.trans (hb.mono HbW.out.size)
  obtain ⟨k0, k1, k2, _, _, _⟩ := box3_facts hO1
  clear hpi hB hN hn hkl hDl hO1 hO2 hbW
  go_enter Tryz.func22, Tryz.ntmps22
  go_wp2_with fail
  refine (search_any a N c Kl v W (HPi.out.below HbW.out) HN.out (by omega)).mono ?_
  rintro e w1 ⟨i, b, rfl, hi, hbi, hb1⟩
  have HW : Hid (RowKit.Below W.heap.size W w1) := hb1
  clear k0 k1 k2 hb1
  cases b with
  | false =>
    obtain ⟨k0, k1, k2, _, _, _⟩ := box3_facts (HO1.out w1 HW.out)
    obtain ⟨r0, r1, r2, t0, t1, t2⟩ := (HO2.out w1 HW.out).cells
    obtain ⟨X, hX⟩ : ∃ X, ((w1.setCell ⟨w.heap.size + 1, 0, none⟩ (.slice a N c)).setCell ⟨w.heap.size + 1, 1, none⟩ (.int .i64 n)).setCell ⟨w.heap.size + 1, 2, none⟩ (.pointer q) = X := ⟨_, rfl⟩
    have HR := row_ret (HO2.out w1 HW.out) (HPi.out.below (HVw.out w1 HW.out)) (HB.out.below (HVw.out w1 HW.out)) hX
    have HX : Hid (((w1.setCell ⟨w.heap.size + 1, 0, none⟩ (.slice a N c)).setCell ⟨w.heap.size + 1, 1, none⟩ (.int .i64 n)).setCell ⟨w.heap.size + 1, 2, none⟩ (.pointer q) = X) := hX
    obtain ⟨x0, x1, x2, hPb, hbX⟩ := HR
    have HPb : Hid (PbAt X (.agg #[.slice a N c, .int .i64 n, .pointer q]) Kl D) := hPb
    have HbX : Hid (RowKit.Below w.heap.size w X) := hbX _ _ (by omega) (HVw.out w1 HW.out)
    clear hX hPb hbX
    go_wp2_with fail
    rw [HX.out]
    exact bodyPost_ret (by simp [results, Tryz.results22, go_sem, x0, x1, x2]; try rfl) rfl ⟨_, Kl, D, rfl, HPb.out, .inl ⟨rfl, rfl⟩, HbX.out⟩
  | true =>
    have hiN : i < N := hbi rfl
    clear hbi hi
    have hkK : i < Kl.length := by have := HN.out; omega
    obtain ⟨b, m, qi, ha, hbl, e0, e1, e2, hBi⟩ := HPi.out.cell i hkK
    subst ha
    obtain ⟨L, hPart⟩ := HPi.out.part
    obtain ⟨aq, cq, hcq, hlc, hcm⟩ := HPi.out.form
    injection hcq with eq1 eq2 eq3
    subst eq3
    have hNc : N ≤ c := by have := HN.out; omega
    have HPart : Hid (PartP w (.slice (some ⟨b, 0, none⟩) N c) L Kl) := hPart
    have HPc : Hid (∀ w', RowKit.Below W.heap.size W w' → w'.cell? ⟨b, i * 3, none⟩ = some (.int .i64 m) ∧ w'.cell? ⟨b, i * 3 + 1, none⟩ = some (.pointer qi)) := fun w' hb => ⟨((HVw.out w' hb).cell (p := ⟨b, _, none⟩) hbl).trans e0, ((HVw.out w' hb).cell (p := ⟨b, _, none⟩) hbl).trans e1⟩
    have HBi : Hid (BigAt w (.agg #[.int .i64 m, .pointer qi]) Kl[i].1) := hBi
    have Hkz : Hid ((limbs Kl[i].1.natAbs).length ≤ 1000000) := Hkl.out.1 _ (List.getElem_mem hkK)
    have Hlen : Hid (L.length = N) := hPart.says.1.trans HN.out
    clear e0 e1 e2 hBi hPart hlc eq1 eq2
    have HAl : Hid (∀ w', RowKit.Below W.heap.size W w' → w'.cell? ⟨w.heap.size, 0, none⟩ = some (.slice (some ⟨b, 0, none⟩) N c) ∧ w'.cell? ⟨w.heap.size, 1, none⟩ = some (.int .i64 n) ∧ w'.cell? ⟨w.heap.size, 2, none⟩ = some (.pointer q) ∧ w'.cell? ⟨b, i * 3, none⟩ = some (.int .i64 m) ∧ w'.cell? ⟨b, i * 3 + 1, none⟩ = some (.pointer qi)) := fun w' hb => by
      obtain ⟨z0, z1, z2, _, _, _⟩ := box3_facts (HO1.out w' hb)
      exact ⟨z0, z1, z2, HPc.out w' hb⟩
    have hJ1 : (i : Int) ≤ (c : Int) := by omega
    have hJ2 : (i : Int) + 1 ≤ (N : Int) := by omega
    have hJ3 : (0 : Int) ≤ (i : Int) + 1 := by omega
    have hnx := next_is i (by omega)
    have hiI : (i : Int) < (N : Int) := by omega
    go_wp2_with fail
    have HW : Hid (RowKit.Below W.heap.size W w1.drew) := HW.out.trans ((Below.refl _ _).drew.mono HW.out.size)
    refine wp_region_T (fun w' => w'.cell? ⟨w.heap.size, 0, none⟩ = some (.slice (some ⟨b, 0, none⟩) N c) ∧ w'.cell? ⟨w.heap.size, 1, none⟩ = some (.int .i64 n) ∧ w'.cell? ⟨w.heap.size, 2, none⟩ = some (.pointer q) ∧ w'.cell? ⟨b, i * 3, none⟩ = some (.int .i64 m) ∧ w'.cell? ⟨b, i * 3 + 1, none⟩ = some (.pointer qi)) (fun _ => True) [11] (by kernel_rfl) ⟨HAl.out _ HW.out, trivial⟩ (fun hHeld => ?_)
    generalize w1.drew = U at HW hHeld ⊢
    refine wpAnyT_takeB (i := 0) (oi := ⟨some 18, .fieldAddr 35 (.tmp 2) 0, _, _, _, _⟩) (v := ?vR4c1x0) rfl (by kernel_rfl) (by kernel_rfl) (by kernel_rfl) (by kernel_rfl) (fun _ _ _ h => h) (Or.inl ⟨by rfl, ?hyR4c1x0⟩) (by assumption) ?restR4c1x0
    case hyR4c1x0 => (intro w hSw; (try dsimp only at hSw); go_simp; try (with_reducible rfl))
    try simp only [Act.put, List.setIfInBounds_toArray, List.set_cons_zero, List.set_cons_succ]
    refine wpAnyT_takeB (i := 1) (oi := ⟨some 19, .load 30 (.tmp 18), _, _, _, _⟩) (v := ?vR4c1x1) rfl (by kernel_rfl) (by kernel_rfl) (by kernel_rfl) (by kernel_rfl) (fun _ _ _ h => h) (Or.inl ⟨by rfl, ?hyR4c1x1⟩) (by assumption) ?restR4c1x1
    case hyR4c1x1 => (intro w hSw; (try dsimp only at hSw); go_simp; try (with_reducible rfl))
    try simp only [Act.put, List.setIfInBounds_toArray, List.set_cons_zero, List.set_cons_succ]
    refine wpAnyT_takeB (i := 2) (oi := ⟨some 20, .move (.tmp 5), _, _, _, _⟩) (v := ?vR4c1x2) rfl (by kernel_rfl) (by kernel_rfl) (by kernel_rfl) (by kernel_rfl) (fun _ _ _ h => h) (Or.inl ⟨by rfl, ?hyR4c1x2⟩) (by assumption) ?restR4c1x2
    case hyR4c1x2 => (intro w hSw; (try dsimp only at hSw); go_simp; try (with_reducible rfl))
    try simp only [Act.put, List.setIfInBounds_toArray, List.set_cons_zero, List.set_cons_succ]
    refine wpAnyT_takeB (i := 3) (oi := ⟨some 21, .slice 30 (.tmp 19) none (some (.tmp 20)) none, _, _, _, _⟩) (v := ?vR4c1x3) rfl (by kernel_rfl) (by kernel_rfl) (by kernel_rfl) (by kernel_rfl) (fun _ _ _ h => h) (Or.inl ⟨by rfl, ?hyR4c1x3⟩) (by assumption) ?restR4c1x3
    case hyR4c1x3 => (intro w hSw; (try dsimp only at hSw); go_simp; try (with_reducible rfl))
    try simp only [Act.put, List.setIfInBounds_toArray, List.set_cons_zero, List.set_cons_succ]
    refine wpAnyT_takeB (i := 4) (oi := ⟨some 22, .fieldAddr 35 (.tmp 2) 0, _, _, _, _⟩) (v := ?vR4c1x4) rfl (by kernel_rfl) (by kernel_rfl) (by kernel_rfl) (by kernel_rfl) (fun _ _ _ h => h) (Or.inl ⟨by rfl, ?hyR4c1x4⟩) (by assumption) ?restR4c1x4
    case hyR4c1x4 => (intro w hSw; (try dsimp only at hSw); go_simp; try (with_reducible rfl))
    try simp only [Act.put, List.setIfInBounds_toArray, List.set_cons_zero, List.set_cons_succ]
    refine wpAnyT_takeB (i := 5) (oi := ⟨some 23, .load 30 (.tmp 22), _, _, _, _⟩) (v := ?vR4c1x5) rfl (by kernel_rfl) (by kernel_rfl) (by kernel_rfl) (by kernel_rfl) (fun _ _ _ h => h) (Or.inl ⟨by rfl, ?hyR4c1x5⟩) (by assumption) ?restR4c1x5
    case hyR4c1x5 => (intro w hSw; (try dsimp only at hSw); go_simp; try (with_reducible rfl))
    try simp only [Act.put, List.setIfInBounds_toArray, List.set_cons_zero, List.set_cons_succ]
    refine wpAnyT_takeB (i := 6) (oi := ⟨some 24, .move (.tmp 5), _, _, _, _⟩) (v := ?vR4c1x6) rfl (by kernel_rfl) (by kernel_rfl) (by kernel_rfl) (by kernel_rfl) (fun _ _ _ h => h) (Or.inl ⟨by rfl, ?hyR4c1x6⟩) (by assumption) ?restR4c1x6
    case hyR4c1x6 => (intro w hSw; (try dsimp only at hSw); go_simp; try (with_reducible rfl))
    try simp only [Act.put, List.setIfInBounds_toArray, List.set_cons_zero, List.set_cons_succ]
    refine wpAnyT_takeB (i := 7) (oi := ⟨some 25, .binOp .add 3 (.tmp 24) ((.const (.int .i64 1))) 3, _, _, _, _⟩) (v := ?vR4c1x7) rfl (by kernel_rfl) (by kernel_rfl) (by kernel_rfl) (by kernel_rfl) (fun _ _ _ h => h) (Or.inl ⟨by rfl, ?hyR4c1x7⟩) (by assumption) ?restR4c1x7
    case hyR4c1x7 => (intro w hSw; (try dsimp only at hSw); go_simp; try (with_reducible rfl))
    try simp only [Act.put, List.setIfInBounds_toArray, List.set_cons_zero, List.set_cons_succ]
    refine wpAnyT_takeB (i := 8) (oi := ⟨some 26, .slice 30 (.tmp 23) (some (.tmp 25)) none none, _, _, _, _⟩) (v := ?vR4c1x8) rfl (by kernel_rfl) (by kernel_rfl) (by kernel_rfl) (by kernel_rfl) (fun _ _ _ h => h) (Or.inl ⟨by rfl, ?hyR4c1x8⟩) (by assumption) ?restR4c1x8
    case hyR4c1x8 => (intro w hSw; (try dsimp only at hSw); go_simp; try (with_reducible rfl))
    try simp only [Act.put, List.setIfInBounds_toArray, List.set_cons_zero, List.set_cons_succ]
    refine wpAnyT_one (i := 9) (o := ⟨some 27, .buildSlice 114 2 #[(0, (.tmp 21)), (1, (.tmp 26))], _, _, _, _⟩) (by kernel_rfl) rfl (fun K hK => ?_)
    go_simp
    obtain ⟨V, hV⟩ : ∃ V, U.alloc (.cells #[.slice (some ⟨b, 0, none⟩) i c, .slice (if c = i + 1 then some ⟨b, 0, none⟩ else some ⟨b, (i + 1) * 3, none⟩) (N - (i + 1)) (c - (i + 1))] 30) = V := ⟨_, rfl⟩
    obtain ⟨hO, hb⟩ := new_obj U _ hV
    rw [hV]
    have HW : Hid (RowKit.Below W.heap.size W V) := HW.out.trans (hb.mono HW.out.size)
    have HCo : Hid (Calls Tryz.prog 54 #[.slice (some ⟨U.heap.size, 0, none⟩) 2 2] V fun e w' => ∃ v, e = .returned v ∧ PiAt w' v (Kl.take i ++ Kl.drop (i + 1)) ∧ RowKit.Below V.heap.size V w') := concat_any U.heap.size _ _ (L.take i) (L.drop (i + 1)) (Kl.take i) (Kl.drop (i + 1)) V hO ((HPart.out.take i (by omega)).below (HVw.out V HW.out)) ((HPart.out.drop (i + 1) (by omega) _ rfl).below (HVw.out V HW.out)) (by have := Hlen.out; rw [List.length_take]; omega) (by have := Hlen.out; rw [List.length_drop]; omega)
    clear hO hb hV
    generalize (if c = i + 1 then (some ⟨b, 0, none⟩ : Option Addr) else some ⟨b, (i + 1) * 3, none⟩) = a'
    refine hK.out _ _ ⟨HAl.out _ HW.out, fun _ => trivial⟩ ?_
    have hHeld := (⟨HAl.out _ HW.out, trivial⟩ : _ ∧ True)
    clear hK K
    try simp only [Act.put, List.setIfInBounds_toArray, List.set_cons_zero, List.set_cons_succ]
    refine wpAnyT_one (i := 10) (o := ⟨some 28, .call { callee := .value (.func 54), args := #[(.tmp 27)], argTypes := #[114] }, _, _, _, _⟩) (by kernel_rfl) rfl (fun K hK => ?_)
    go_simp
    refine calls_at HCo.out (by with_reducible rfl) (by with_reducible rfl) ?_
    rintro e w2 ⟨vr, rfl, hp, hb⟩
    obtain ⟨ar, cr, rfl, _, _⟩ := hp.form
    obtain ⟨M, hM⟩ : ∃ M, (Kl.take i ++ Kl.drop (i + 1)).length = M := ⟨_, rfl⟩
    rw [hM] at hp ⊢
    have HPr : Hid (PiAt w2 (.slice ar M cr) (Kl.take i ++ Kl.drop (i + 1))) := hp
    have HW : Hid (RowKit.Below W.heap.size W w2) := HW.out.trans (hb.mono HW.out.size)
    clear hp hb hM
    go_wp2_with fail
    refine hK.out _ _ ⟨HAl.out _ HW.out, fun _ => trivial⟩ ?_
    have hHeld := (⟨HAl.out _ HW.out, trivial⟩ : _ ∧ True)
    clear hK K
    try simp only [Act.put, List.setIfInBounds_toArray, List.set_cons_zero, List.set_cons_succ]
    refine wpAnyT_late (i := 11) (o := ⟨some 7, .assign (.tmp 28), _, _, _, _⟩) (by kernel_rfl) rfl (by kernel_rfl) (fun K hK => ?_)
    go_simp
    refine hK.out _ _ ?shR4c1x11 ?restR4c1x11
    case shR4c1x11 => ((try dsimp only); exact HAl.out _ HW.out)
    clear hK K
    try simp only [Act.put, List.setIfInBounds_toArray, List.set_cons_zero, List.set_cons_succ]
    refine wpAnyT_done (by kernel_rfl) ?_ _
    clear hHeld HCo
    go_wp2_with fail
    have HW0 : Hid (RowKit.Below w2.heap.size w2 w2.drew) := (Below.refl _ _).drew
    have HW : Hid (RowKit.Below W.heap.size W w2.drew) := HW.out.trans (HW0.out.mono HW.out.size)
    have HPr : Hid (PiAt w2.drew (.slice ar M cr) (Kl.take i ++ Kl.drop (i + 1))) := HPr.out.below HW0.out
    have HSub : Hid (∀ w', RowKit.Below W.heap.size W w' → Calls Tryz.prog 56 #[.agg #[.int .i64 n, .pointer q], .agg #[.int .i64 m, .pointer qi]] w' fun e w'' => ∃ r, e = .returned r ∧ BigAt w'' r (D - Kl[i].1) ∧ RowKit.Below w'.heap.size w' w'') := fun w' hb => sub_big D Kl[i].1 _ _ w' (HB.out.below (HVw.out w' hb)) (HBi.out.below (HVw.out w' hb)) Hkl.out.2 Hkz.out
    clear HW0
    refine wp_region_T (fun w' => w'.cell? ⟨w.heap.size, 0, none⟩ = some (.slice (some ⟨b, 0, none⟩) N c) ∧ w'.cell? ⟨w.heap.size, 1, none⟩ = some (.int .i64 n) ∧ w'.cell? ⟨w.heap.size, 2, none⟩ = some (.pointer q) ∧ w'.cell? ⟨b, i * 3, none⟩ = some (.int .i64 m) ∧ w'.cell? ⟨b, i * 3 + 1, none⟩ = some (.pointer qi)) (fun _ => True) [12] (by kernel_rfl) ⟨HAl.out _ HW.out, trivial⟩ (fun hHeld => ?_)
    generalize w2.drew = U2 at HW HPr hHeld ⊢
    refine wpAnyT_takeB (i := 0) (oi := ⟨some 29, .move (.tmp 7), _, _, _, _⟩) (v := ?vR5c2x0) rfl (by kernel_rfl) (by kernel_rfl) (by kernel_rfl) (by kernel_rfl) (fun _ _ _ h => h) (Or.inl ⟨by rfl, ?hyR5c2x0⟩) (by assumption) ?restR5c2x0
    case hyR5c2x0 => (intro w hSw; (try dsimp only at hSw); go_simp; try (with_reducible rfl))
    try simp only [Act.put, List.setIfInBounds_toArray, List.set_cons_zero, List.set_cons_succ]
    refine wpAnyT_takeB (i := 1) (oi := ⟨some 30, .fieldAddr 35 (.tmp 2) 1, _, _, _, _⟩) (v := ?vR5c2x1) rfl (by kernel_rfl) (by kernel_rfl) (by kernel_rfl) (by kernel_rfl) (fun _ _ _ h => h) (Or.inl ⟨by rfl, ?hyR5c2x1⟩) (by assumption) ?restR5c2x1
    case hyR5c2x1 => (intro w hSw; (try dsimp only at hSw); go_simp; try (with_reducible rfl))
    try simp only [Act.put, List.setIfInBounds_toArray, List.set_cons_zero, List.set_cons_succ]
    refine wpAnyT_takeB (i := 2) (oi := ⟨some 31, .load 33 (.tmp 30), _, _, _, _⟩) (v := ?vR5c2x2) rfl (by kernel_rfl) (by kernel_rfl) (by kernel_rfl) (by kernel_rfl) (fun _ _ _ h => h) (Or.inl ⟨by rfl, ?hyR5c2x2⟩) (by assumption) ?restR5c2x2
    case hyR5c2x2 => (intro w hSw; (try dsimp only at hSw); go_simp; try (with_reducible rfl))
    try simp only [Act.put, List.setIfInBounds_toArray, List.set_cons_zero, List.set_cons_succ]
    refine wpAnyT_takeB (i := 3) (oi := ⟨some 32, .fieldAddr 35 (.tmp 2) 0, _, _, _, _⟩) (v := ?vR5c2x3) rfl (by kernel_rfl) (by kernel_rfl) (by kernel_rfl) (by kernel_rfl) (fun _ _ _ h => h) (Or.inl ⟨by rfl, ?hyR5c2x3⟩) (by assumption) ?restR5c2x3
    case hyR5c2x3 => (intro w hSw; (try dsimp only at hSw); go_simp; try (with_reducible rfl))
    try simp only [Act.put, List.setIfInBounds_toArray, List.set_cons_zero, List.set_cons_succ]
    refine wpAnyT_takeB (i := 4) (oi := ⟨some 33, .load 30 (.tmp 32), _, _, _, _⟩) (v := ?vR5c2x4) rfl (by kernel_rfl) (by kernel_rfl) (by kernel_rfl) (by kernel_rfl) (fun _ _ _ h => h) (Or.inl ⟨by rfl, ?hyR5c2x4⟩) (by assumption) ?restR5c2x4
    case hyR5c2x4 => (intro w hSw; (try dsimp only at hSw); go_simp; try (with_reducible rfl))
    try simp only [Act.put, List.setIfInBounds_toArray, List.set_cons_zero, List.set_cons_succ]
    refine wpAnyT_takeB (i := 5) (oi := ⟨some 34, .move (.tmp 5), _, _, _, _⟩) (v := ?vR5c2x5) rfl (by kernel_rfl) (by kernel_rfl) (by kernel_rfl) (by kernel_rfl) (fun _ _ _ h => h) (Or.inl ⟨by rfl, ?hyR5c2x5⟩) (by assumption) ?restR5c2x5
    case hyR5c2x5 => (intro w hSw; (try dsimp only at hSw); go_simp; try (with_reducible rfl))
    try simp only [Act.put, List.setIfInBounds_toArray, List.set_cons_zero, List.set_cons_succ]
    refine wpAnyT_takeB (i := 6) (oi := ⟨some 35, .indexAddr 30 (.tmp 33) (.tmp 34), _, _, _, _⟩) (v := ?vR5c2x6) rfl (by kernel_rfl) (by kernel_rfl) (by kernel_rfl) (by kernel_rfl) (fun _ _ _ h => h) (Or.inl ⟨by rfl, ?hyR5c2x6⟩) (by assumption) ?restR5c2x6
    case hyR5c2x6 => (intro w hSw; (try dsimp only at hSw); go_simp; try (with_reducible rfl))
    try simp only [Act.put, List.setIfInBounds_toArray, List.set_cons_zero, List.set_cons_succ]
    refine wpAnyT_takeB (i := 7) (oi := ⟨some 36, .fieldAddr 67 (.tmp 35) 0, _, _, _, _⟩) (v := ?vR5c2x7) rfl (by kernel_rfl) (by kernel_rfl) (by kernel_rfl) (by kernel_rfl) (fun _ _ _ h => h) (Or.inl ⟨by rfl, ?hyR5c2x7⟩) (by assumption) ?restR5c2x7
    case hyR5c2x7 => (intro w hSw; (try dsimp only at hSw); go_simp; try (with_reducible rfl))
    try simp only [Act.put, List.setIfInBounds_toArray, List.set_cons_zero, List.set_cons_succ]
    refine wpAnyT_takeB (i := 8) (oi := ⟨some 37, .load 33 (.tmp 36), _, _, _, _⟩) (v := ?vR5c2x8) rfl (by kernel_rfl) (by kernel_rfl) (by kernel_rfl) (by kernel_rfl) (fun _ _ _ h => h) (Or.inl ⟨by rfl, ?hyR5c2x8⟩) (by assumption) ?restR5c2x8
    case hyR5c2x8 => (intro w hSw; (try dsimp only at hSw); go_simp; try (with_reducible rfl))
    try simp only [Act.put, List.setIfInBounds_toArray, List.set_cons_zero, List.set_cons_succ]
    refine wpAnyT_one (i := 9) (o := ⟨some 38, .call { callee := .value (.func 56), args := #[(.tmp 31), (.tmp 37)], argTypes := #[33, 33] }, _, _, _, _⟩) (by kernel_rfl) rfl (fun K hK => ?_)
    go_simp
    refine calls_at (HSub.out U2 HW.out) (by with_reducible rfl) (by with_reducible rfl) ?_
    rintro e w3 ⟨rs, rfl, hr, hb⟩
    have HRs : Hid (BigAt w3 rs (D - Kl[i].1)) := hr
    have HPr : Hid (PiAt w3 (.slice ar M cr) (Kl.take i ++ Kl.drop (i + 1))) := HPr.out.below hb
    have HW : Hid (RowKit.Below W.heap.size W w3) := HW.out.trans (hb.mono HW.out.size)
    clear hr hb
    go_wp2_with fail
    refine hK.out _ _ ⟨HAl.out _ HW.out, fun _ => trivial⟩ ?_
    have hHeld := (⟨HAl.out _ HW.out, trivial⟩ : _ ∧ True)
    clear hK K
    try simp only [Act.put, List.setIfInBounds_toArray, List.set_cons_zero, List.set_cons_succ]
    refine wpAnyT_one (i := 10) (o := ⟨some 39, .call { callee := .value (.func 55), args := #[(.tmp 38)], argTypes := #[33] }, _, _, _, _⟩) (by kernel_rfl) rfl (fun K hK => ?_)
    go_simp
    refine calls_at (notBelowZero_big _ rs w3 HRs.out) (by with_reducible rfl) (by with_reducible rfl) ?_
    rintro e w4 ⟨rz, rfl, hr, hb⟩
    obtain ⟨nz, qz, rfl⟩ := hr.shape
    have HRz : Hid (BigAt w4 (.agg #[.int .i64 nz, .pointer qz]) (max 0 (D - Kl[i].1))) := hr
    have HPr : Hid (PiAt w4 (.slice ar M cr) (Kl.take i ++ Kl.drop (i + 1))) := HPr.out.below hb
    have HW : Hid (RowKit.Below W.heap.size W w4) := HW.out.trans (hb.mono HW.out.size)
    clear hr hb
    go_wp2_with fail
    refine hK.out _ _ ⟨HAl.out _ HW.out, fun _ => trivial⟩ ?_
    have hHeld := (⟨HAl.out _ HW.out, trivial⟩ : _ ∧ True)
    clear hK K
    try simp only [Act.put, List.setIfInBounds_toArray, List.set_cons_zero, List.set_cons_succ]
    refine wpAnyT_takeB (i := 11) (oi := ⟨some 40, .build 35 #[(0, (.tmp 29)), (1, (.tmp 39))], _, _, _, _⟩) (v := ?vR5c2x11) rfl (by kernel_rfl) (by kernel_rfl) (by kernel_rfl) (by kernel_rfl) (fun _ _ _ h => h) (Or.inl ⟨by rfl, ?hyR5c2x11⟩) (by assumption) ?restR5c2x11
    case hyR5c2x11 => (intro w hSw; (try dsimp only at hSw); go_simp; try (with_reducible rfl))
    try simp only [Act.put, List.setIfInBounds_toArray, List.set_cons_zero, List.set_cons_succ]
    obtain ⟨f0, f1, f2, g0, g1, g2⟩ := (HO2.out w4 HW.out).cells
    obtain ⟨X, hX⟩ : ∃ X, ((w4.setCell ⟨w.heap.size + 1, 0, none⟩ (.slice ar M cr)).setCell ⟨w.heap.size + 1, 1, none⟩ (.int .i64 nz)).setCell ⟨w.heap.size + 1, 2, none⟩ (.pointer qz) = X := ⟨_, rfl⟩
    have HR := row_ret (HO2.out w4 HW.out) HPr.out HRz.out hX
    have hgX : w4.grownBy X (some (w.heap.size + 1)) := by rw [← hX]; exact grown_set3 w4 (w.heap.size + 1) 0 _ _ _
    have HX : Hid (((w4.setCell ⟨w.heap.size + 1, 0, none⟩ (.slice ar M cr)).setCell ⟨w.heap.size + 1, 1, none⟩ (.int .i64 nz)).setCell ⟨w.heap.size + 1, 2, none⟩ (.pointer qz) = X) := hX
    have HRr : Hid (X.cell? ⟨w.heap.size + 1, 0, none⟩ = some (.slice ar M cr) ∧ X.cell? ⟨w.heap.size + 1, 1, none⟩ = some (.int .i64 nz) ∧ X.cell? ⟨w.heap.size + 1, 2, none⟩ = some (.pointer qz) ∧ PbAt X (.agg #[.slice ar M cr, .int .i64 nz, .pointer qz]) (Kl.take i ++ Kl.drop (i + 1)) (max 0 (D - Kl[i].1)) ∧ RowKit.Below w.heap.size w X) := ⟨HR.1, HR.2.1, HR.2.2.1, HR.2.2.2.1, HR.2.2.2.2 _ _ (by omega) (HVw.out w4 HW.out)⟩
    have HSX : Hid (X.cell? ⟨w.heap.size, 0, none⟩ = some (.slice (some ⟨b, 0, none⟩) N c) ∧ X.cell? ⟨w.heap.size, 1, none⟩ = some (.int .i64 n) ∧ X.cell? ⟨w.heap.size, 2, none⟩ = some (.pointer q) ∧ X.cell? ⟨b, i * 3, none⟩ = some (.int .i64 m) ∧ X.cell? ⟨b, i * 3 + 1, none⟩ = some (.pointer qi)) := by
      have hlt4 : w.heap.size ≤ w4.heap.size := (HVw.out w4 HW.out).size
      obtain ⟨_, _, _, y3, y4⟩ := HAl.out w4 HW.out
      have h1 := HO1.out w4 HW.out
      obtain ⟨z0, z1, z2, _, _, _⟩ := box3_facts ((hgX.block _ (Array.getElem?_eq_some_iff.1 h1).1 (by simp)).trans h1)
      have eb : X.heap[b]? = w4.heap[b]? := hgX.block b (by omega) (by simp; omega)
      refine ⟨z0, z1, z2, ?_, ?_⟩
      · unfold World.cell? at y3 ⊢
        rw [eb]; exact y3
      · unfold World.cell? at y4 ⊢
        rw [eb]; exact y4
    clear hX HR hgX
    refine wpAnyT_late (i := 12) (o := ⟨none, .store 35 (.tmp 4) (.tmp 40), _, _, _, _⟩) (by kernel_rfl) rfl (by kernel_rfl) (fun Kq hK => ?_)
    go_simp
    rw [HX.out]
    refine hK.out _ _ HSX.out ?_
    clear hK Kq f0 f1 f2 g0 g1 g2
    try simp only [Act.put, List.setIfInBounds_toArray, List.set_cons_zero, List.set_cons_succ]
    refine wpAnyT_done (by kernel_rfl) ?_ _
    go_wp2_with fail
    obtain ⟨y0, y1, y2, hPb, hbX⟩ := HRr.out
    exact bodyPost_ret (by simp [results, Tryz.results22, go_sem, y0, y1, y2]; try rfl) rfl ⟨_, _, _, rfl, hPb, .inr ⟨i, hkK, rfl, rfl⟩, hbX⟩
end Go.Proofs.YtjffbndiecjkjaaGreatDoor
