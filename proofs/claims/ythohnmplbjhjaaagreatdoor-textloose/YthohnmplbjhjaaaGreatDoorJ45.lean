/-
  Put together: TrSplit, TrParse, TfMath, TfLaw, TfKnM, TzLoose.
-/
import Derived.Test.YthohnmplbjhjaaaGreatDoorTrFault
import Derived.Lib.Split
import Derived.Test.YthohnmplbjhjaaaGreatDoorJ05
namespace Go.Proofs.YthohnmplbjhjaaaGreatDoor
open Go Go.RowKit

theorem lines_cur : ∀ (s cur : List UInt8), ∃ h t, linesT s [] = h :: t ∧ linesT s cur = (cur ++ h) :: t
  | [], cur => ⟨[], [], rfl, by simp [linesT]⟩
  | c :: s, cur => by
    by_cases hc : c = 10
    · exact ⟨[], linesT s [], by simp [linesT, hc], by simp [linesT, hc]⟩
    · obtain ⟨h, t, h1, h2⟩ := lines_cur s (cur ++ [c])
      obtain ⟨h', t', h3, h4⟩ := lines_cur s [c]
      rw [h1] at h3
      injection h3 with e1 e2
      subst e1 e2
      refine ⟨c :: h, t, ?_, ?_⟩
      · show (if c = 10 then [] :: linesT s [] else linesT s ([] ++ [c])) = _
        rw [if_neg hc, List.nil_append, h4]
        rfl
      · show (if c = 10 then cur :: linesT s [] else linesT s (cur ++ [c])) = _
        rw [if_neg hc, h2, List.append_assoc]
        rfl
theorem pre_line (c : UInt8) (s : List UInt8) : ([10] : List UInt8).isPrefixOf (c :: s) = decide (c = 10) := by
  by_cases h : c = 10
  · subst h; simp [List.isPrefixOf]
  · have h2 : ((10 : UInt8) == c) = false := by simp; exact fun e => h e.symm
    simp [List.isPrefixOf, h2, h]
theorem lines_miss : ∀ (s : List UInt8), Lib.index s [10] = -1 → linesT s [] = [s]
  | [], _ => rfl
  | c :: s, h => by
    unfold Lib.index at h
    rw [pre_line] at h
    by_cases hc : c = 10
    · rw [decide_eq_true hc] at h; simp at h
    · rw [decide_eq_false hc] at h
      have hs : Lib.index s [10] = -1 := by
        have := Lib.index_ge s [10]
        by_cases he : Lib.index s [10] = -1
        · exact he
        · have he' : (Lib.index s [10] == -1) = false := by simp [he]
          rw [he'] at h
          simp at h
          omega
      have ih := lines_miss s hs
      obtain ⟨x, t, h1, h2⟩ := lines_cur s [c]
      rw [ih] at h1
      injection h1 with e1 e2
      subst e1 e2
      show (if c = 10 then [] :: linesT s [] else linesT s ([] ++ [c])) = _
      rw [if_neg hc, List.nil_append, h2]
      rfl
theorem lines_hit : ∀ (s : List UInt8) (i : Nat), Lib.index s [10] = i → linesT s [] = s.take i :: linesT (s.drop (i + 1)) []
  | [], i, h => by
    unfold Lib.index at h
    simp at h
  | c :: s, i, h => by
    unfold Lib.index at h
    rw [pre_line] at h
    by_cases hc : c = 10
    · rw [decide_eq_true hc] at h
      have hi : i = 0 := by simp at h; omega
      subst hi
      simp [linesT, hc]
    · rw [decide_eq_false hc] at h
      have hg := Lib.index_ge s [10]
      by_cases he : Lib.index s [10] = -1
      · rw [he] at h; simp at h
      · have he' : (Lib.index s [10] == -1) = false := by simp [he]
        rw [he'] at h
        simp at h
        obtain ⟨j, hj⟩ : ∃ j : Nat, i = j + 1 := ⟨i - 1, by omega⟩
        subst hj
        have ih := lines_hit s j (by omega)
        obtain ⟨x, t, h1, h2⟩ := lines_cur s [c]
        rw [ih] at h1
        injection h1 with e1 e2
        subst e1 e2
        show (if c = 10 then [] :: linesT s [] else linesT s ([] ++ [c])) = _
        rw [if_neg hc, List.nil_append, h2]
        simp
theorem split_lines : ∀ (k : Nat) (s : List UInt8), Lib.count s [10] = k → Lib.splitK [10] 0 k s = linesT s []
  | 0, s, h => by
    have hm : Lib.index s [10] = -1 := by
      have := Lib.index_ge s [10]
      by_cases he : Lib.index s [10] = -1
      · exact he
      · obtain ⟨i, hi⟩ : ∃ i : Nat, Lib.index s [10] = i := ⟨(Lib.index s [10]).toNat, by omega⟩
        have := Lib.count_hit (by decide : ([10] : List UInt8) ≠ []) hi
        omega
    rw [lines_miss s hm]
    rfl
  | k + 1, s, h => by
    have hm : Lib.index s [10] ≠ -1 := fun e => by have := Lib.count_miss e; omega
    have hg := Lib.index_ge s [10]
    obtain ⟨i, hi⟩ : ∃ i : Nat, Lib.index s [10] = i := ⟨(Lib.index s [10]).toNat, by omega⟩
    have hc := Lib.count_hit (by decide : ([10] : List UInt8) ≠ []) hi
    have hl : ([10] : List UInt8).length = 1 := rfl
    rw [hl] at hc
    have he : (Lib.index s [10] == -1) = false := by simp [hm]
    unfold Lib.splitK
    rw [he, lines_hit s i hi, hi, hl]
    have := split_lines k (s.drop (i + 1)) (by omega)
    simp only [Bool.false_eq_true, if_false, Int.toNat_natCast, Nat.add_zero]
    rw [this]
theorem lines_length (s : List UInt8) : ∀ cur, (linesT s cur).length = Lib.count s [10] + 1 := by
  intro cur
  have h := split_lines _ s rfl
  obtain ⟨x, t, h1, h2⟩ := lines_cur s cur
  have hk : ∀ (k : Nat) (s : List UInt8), Lib.count s [10] = k → (linesT s []).length = k + 1 := by
    intro k
    induction k with
    | zero =>
      intro s hs
      rw [← split_lines 0 s hs]
      rfl
    | succ k ih =>
      intro s hs
      have hm : Lib.index s [10] ≠ -1 := fun e => by have := Lib.count_miss e; omega
      have hg := Lib.index_ge s [10]
      obtain ⟨i, hi⟩ : ∃ i : Nat, Lib.index s [10] = i := ⟨(Lib.index s [10]).toNat, by omega⟩
      have hc := Lib.count_hit (by decide : ([10] : List UInt8) ≠ []) hi
      have hl : ([10] : List UInt8).length = 1 := rfl
      rw [hl] at hc
      rw [lines_hit s i hi, List.length_cons, ih (s.drop (i + 1)) (by omega)]
  have := hk _ s rfl
  rw [h1] at this
  rw [h2]
  simpa using this
theorem lines_sum : ∀ (s cur : List UInt8), ∀ l ∈ linesT s cur, l.length ≤ cur.length + s.length
  | [], cur, l, h => by simp [linesT] at h; subst h; simp
  | c :: s, cur, l, h => by
    unfold linesT at h
    split at h
    · rcases List.mem_cons.1 h with h | h
      · subst h; simp
      · have := lines_sum s [] l h; simp at this ⊢; omega
    · have := lines_sum s (cur ++ [c]) l h; simp at this ⊢; omega
theorem lines_count : ∀ (s cur : List UInt8), (linesT s cur).length ≤ s.length + 1
  | [], cur => Nat.le_refl _
  | c :: s, cur => by
    unfold linesT
    split
    · have := lines_count s []; simp; omega
    · have := lines_count s (cur ++ [c]); simp; omega
end Go.Proofs.YthohnmplbjhjaaaGreatDoor

namespace Go.Proofs.YthohnmplbjhjaaaGreatDoor
open Go Go.RowKit Go.Shelf Go.Lib

/-- How Parse ends. -/
def PO (r : Md.Mo × (Int × Int)) (w : World) (e : Ending) (w' : World) : Prop :=
  Below w.heap.size w w' ∧ ((r.2.2 = 0 ∧ Good r.1 ∧ ∃ vv vc vg, e = .returned (.tuple #[moVal r.1 vv vc vg, .nilIface]) ∧ MoAt w' r.1 vv vc vg) ∨ (r.2.2 ≠ 0 ∧ ∃ F, e = .returned (.tuple #[.agg moZ, .iface 91 (.pointer (some ⟨F, 0, none⟩))]) ∧ w'.heap[F]? = some (.cells #[.int .i64 1, .int .i64 r.2.1, .int .i64 r.2.2] 44 (0, 0)) ∧ w.heap.size ≤ F))
theorem split_any (s : List UInt8) (mx : Int) (w : World) (hm : w.cell? ⟨1, 0, none⟩ = some (.int .i64 mx)) (hs : s.length ≤ 1000000) : Calls Tryz.prog 27 #[.string (txtOf s), .string ⟨#[10]⟩] w fun e w' => e = .returned (.slice (some ⟨w.heap.size, 0, none⟩) (linesT s []).length (linesT s []).length) ∧ w.alloc (.cells ((linesT s []).map fun l => Value.string (txtOf l)).toArray 9) = w' := by
  have hz : (txtOf s).size = s.length := txt_size s
  refine (Tryz.strings_Split (txtOf s) ⟨#[10]⟩ mx w (by rw [hz]; omega) hm (by decide)).mono ?_
  rintro e w' ⟨rfl, rfl⟩
  have hc : Lib.countB (txtOf s) ⟨#[10]⟩ = Lib.count s [10] := by
    show Lib.count (txtOf s).data.toList [10] = _
    rw [txt_list]
  have hl := lines_length s []
  have hd : (Lib.splitB ⟨#[10]⟩ 0 (Lib.countB (txtOf s) ⟨#[10]⟩) (txtOf s)).map (·.data.toList) = linesT s [] := by
    rw [Lib.splitB_data, hc, txt_list]
    exact split_lines _ s rfl
  refine ⟨by rw [hc, hl], ?_⟩
  congr 2
  rw [← hd, List.map_map]
  congr 1
def finT (n : Nat) : Md.Mo × Option (Nat × Int) → Md.Mo × (Int × Int)
  | (_, some (i, e)) => (zm, ((i : Int), e))
  | (m, none) => if m.vars = [] then (zm, ((n : Int), 59)) else (m, (0, 0))
theorem parse_fin {s : List UInt8} (h : ¬ 65536 < s.length) : parseT s = finT (linesT s []).length (goT (linesT s []) 1 zm) := by
  unfold parseT
  rw [if_neg h]
  rfl
/-- A text on the way: its lines lie at g. -/
structure PaAt (N g : Nat) (L : List (List UInt8)) (RG : Md.Mo × Option (Nat × Int)) (w : World) (i : Nat) (wr : World) : Prop where
  m : ∃ m, MoI N (N + 1) m wr ∧ Good m ∧ goT (L.drop i) (i + 1) m = RG
  way : Way wr wr
  low : Below N w wr
  res : wr.heap[N]? = some (.cells moZ 26 (0, 0))
  ln : wr.heap[g]? = some (.cells (L.map fun l => Value.string (txtOf l)).toArray 9 (0, 0))

theorem fin_fault {w w4 w5 : World} {cs ls : Array Value} {n e : Int} {F : Nat} (h : Below w.heap.size w w4 ∧ w4.heap[w.heap.size]? = some (.cells cs 26 (0, 0)) ∧ w4.heap[w.heap.size + 2]? = some (.cells ls 9 (0, 0)) ∧ Way w4 w4) (h5 : w5.heap[F]? = some (.cells #[.int .i64 1, .int .i64 n, .int .i64 e] 44 (0, 0))) (h6 : w4.heap.size ≤ F) (h7 : Below w4.heap.size w4 w5) :
    w5.heap[w.heap.size]? = some (.cells cs 26 (0, 0)) ∧ w5.heap[F]? = some (.cells #[.int .i64 1, .int .i64 n, .int .i64 e] 44 (0, 0)) ∧ w.heap.size < F ∧ Below w.heap.size w w5 := by
  have h1 := (Array.getElem?_eq_some_iff.1 h.2.1).1
  exact ⟨(h7.block _ h1).trans h.2.1, h5, by omega, h.1.trans (h7.mono (by omega))⟩
theorem mo_one {B P : Nat} {m : Md.Mo} {vv vc vg : Value} {w : World} (h : MoIs B P m vv vc vg w) : (#[vv, vc, .bool m.has, vg] : Array Value).all (·.oneCell') = true := by
  obtain ⟨av, cv, hvv⟩ := own_slice h.v
  obtain ⟨L, _, hk, _⟩ := h.k
  obtain ⟨ac, cc, hvc⟩ := own_slice hk
  obtain ⟨ag, cg, hvg⟩ := own_slice h.g
  rw [hvv, hvc, hvg]
  kernel_rfl

set_option maxRecDepth 100000 in
set_option maxHeartbeats 4000000 in
theorem parse_any (s : List UInt8) (w : World) (hw : Way w w) (hs : s.length ≤ 1000000) : Calls Tryz.prog 13 #[.string (txtOf s)] w (PO (parseT s) w) := by
  obtain ⟨RR, hRR⟩ : ∃ RR, parseT s = RR := ⟨_, rfl⟩
  rw [hRR]
  obtain ⟨mx, hmx⟩ := hw.mx
  have hsz : (txtOf s).size = s.length := txt_size s
  have hbig := hw.big
  obtain ⟨W, hW⟩ : ∃ W, w.alloc (.cells #[.slice none 0 0, .slice none 0 0, .bool false, .slice none 0 0] 26) = W := ⟨_, rfl⟩
  have hbW : Below w.heap.size w W := hW ▸ (Below.refl _ _).alloc (Nat.le_refl _) _
  have hNW : W.heap[w.heap.size]? = some (.cells moZ 26 (0, 0)) := hW ▸ heap_alloc_new w _
  have hsW : W.heap.size = w.heap.size + 1 := by rw [← hW]; simp
  by_cases hlong : 65536 < s.length
  · have hR : RR = (zm, (1, 50)) := by rw [← hRR]; unfold parseT; rw [if_pos hlong]
    subst hR
    have hl' : decide (65536 < ((txtOf s).size : Int)) = true := by rw [hsz]; exact decide_eq_true (by omega)
    obtain ⟨X, hX⟩ : ∃ X, txtOf s = X := ⟨_, rfl⟩
    rw [hX] at hl' ⊢
    have HB : Hid (Below w.heap.size w W ∧ W.heap[w.heap.size]? = some (.cells moZ 26 (0, 0)) ∧ w.heap.size < W.heap.size) := ⟨hbW, hNW, by omega⟩
    clear hRR hlong hs hsz hX hmx hw hbW hNW hsW hbig
    go_enter Tryz.func13, Tryz.ntmps13
    go_wp2_with (first
      | (go_at_call 26; refine calls_at (fault_made 1 50 _) (by with_reducible rfl) (by with_reducible rfl) ?_; rintro e w1 ⟨F, rfl, h1, h2, h3⟩; (have H1 : Hid (w1.heap[w.heap.size]? = some (.cells moZ 26 (0, 0)) ∧ w1.heap[F]? = some (.cells #[.int .i64 1, .int .i64 1, .int .i64 50] 44 (0, 0)) ∧ W.heap.size ≤ F ∧ Below w.heap.size w w1) := ⟨(h3.block _ HB.out.2.2).trans HB.out.2.1, h1, h2, HB.out.1.trans (h3.mono (Nat.le_of_lt HB.out.2.2))⟩); clear h1 h2 h3)
      | (refine wpList_store_row rfl 26 _ _ rfl w.heap.size moZ rfl rfl 26 _ H1.out.1 (mo_size _ _ _ _) (by rfl) (by kernel_rfl) ?_))
    refine bodyPost_ret (results_row_tmp (p := 2) (u := 3) (ty := 26) rfl _ _ w.heap.size 26 moZ (0, 0) _ rfl (setRow_heap _ _ _ _ _ _ H1.out.1) Tryz.underlying26 rfl (mo_size _ _ _ _)) rfl ?_
    exact ⟨below_setRow H1.out.2.2.2 (Nat.le_refl _) _, .inr ⟨by decide, F, rfl, (setRow_other _ _ _ _ (by have := HB.out.2.2; have := H1.out.2.2.1; omega)).trans H1.out.2.1, by have := HB.out.2.2; have := H1.out.2.2.1; omega⟩⟩
  · have hl' : decide (65536 < ((txtOf s).size : Int)) = false := by rw [hsz]; exact decide_eq_false (by omega)
    obtain ⟨L, hL⟩ : ∃ L, linesT s [] = L := ⟨_, rfl⟩
    obtain ⟨RG, hRG⟩ : ∃ RG, goT L 1 zm = RG := ⟨_, rfl⟩
    have HR : Hid (RR = finT L.length RG) := by
      show _ = _
      rw [← hRR, parse_fin hlong, hL, hRG]
    have HLl : Hid (∀ l ∈ L, l.length ≤ 70000) := fun l hl => by
      have := lines_sum s [] l (by rw [hL]; exact hl)
      simp at this
      omega
    have HLn : Hid (L.length ≤ 100000) := by
      show _ ≤ _
      have := lines_count s []
      rw [hL] at this
      omega
    have HSp : Hid (∀ w', w'.cell? ⟨1, 0, none⟩ = some (.int .i64 mx) → Calls Tryz.prog 27 #[.string (txtOf s), .string ⟨#[10]⟩] w' fun e w'' => e = .returned (.slice (some ⟨w'.heap.size, 0, none⟩) L.length L.length) ∧ w'.alloc (.cells (L.map fun l => Value.string (txtOf l)).toArray 9) = w'') := fun w' h' => by
      have := split_any s mx w' h' hs
      rw [hL] at this
      exact this
    obtain ⟨X, hX⟩ : ∃ X, txtOf s = X := ⟨_, rfl⟩
    rw [hX] at hl' HSp ⊢
    obtain ⟨W2, hW2⟩ : ∃ W2, W.alloc (.cells #[.slice none 0 0, .slice none 0 0, .bool false, .slice none 0 0] 26) = W2 := ⟨_, rfl⟩
    have hb2 : Below W.heap.size W W2 := hW2 ▸ (Below.refl _ _).alloc (Nat.le_refl _) _
    have hP2 : W2.heap[w.heap.size + 1]? = some (.cells moZ 26 (0, 0)) := by rw [← hsW, ← hW2]; exact heap_alloc_new W _
    have hs2 : W2.heap.size = w.heap.size + 2 := by rw [← hW2]; simp [hsW]
    have hbw2 : Below w.heap.size w W2 := hbW.trans (hb2.mono (by omega))
    have hm2 : W2.cell? ⟨1, 0, none⟩ = some (.int .i64 mx) := (hbw2.cell (p := ⟨1, 0, none⟩) (by simp only; omega)).trans hmx
    have H3 : Hid (∀ W3, W2.alloc (.cells (L.map fun l => Value.string (txtOf l)).toArray 9) = W3 → PaAt w.heap.size (w.heap.size + 2) L RG w 0 W3) := fun W3 h3 => by
      have hb3 : Below W2.heap.size W2 W3 := h3 ▸ (Below.refl _ _).alloc (Nat.le_refl _) _
      have hbw3 := hbw2.trans (hb3.mono (by omega))
      refine ⟨⟨zm, ⟨.slice none 0 0, .slice none 0 0, .slice none 0 0, (hb3.block _ (by omega)).trans hP2, by omega, nil_own _ _ 56 3, ⟨[], rfl, nil_own _ _ 61 10, fun d hd => by simp at hd⟩, nil_own _ _ 87 2⟩, ⟨by decide, by decide, fun x hx => by simp [zm] at hx⟩, ?_⟩, ?_, hbw3, (hb3.block _ (by omega)).trans ((hb2.block _ (by omega)).trans hNW), ?_⟩
      · simpa using hRG
      · exact way_on (B := w.heap.size) hw ⟨hbw3.os, hbw3.tape, hbw3.output, hbw3.size, fun k hk h => hbw3.block k (by omega)⟩ hbig
      · rw [← h3, ← hs2]; exact heap_alloc_new W2 _
    have HBig : Hid (5 ≤ w.heap.size) := hbig
    clear hRR hlong hs hsz hX hmx hw hbW hNW hbig hL hRG hb2 hP2 hbw2
    go_enter Tryz.func13, Tryz.ntmps13
    go_wp2_with (first
      | (go_at_call 27; refine calls_at (HSp.out _ hm2) (by with_reducible rfl) (by with_reducible rfl) ?_; rintro e W3 ⟨rfl, h3⟩; (have HP3 := H3.out _ h3); clear h3))
    have HP : Hid (PaAt w.heap.size (w.heap.size + 2) L RG w 0 W3) := HP3
    clear HP3 H3 hm2 HSp hl' hW hW2 hsW hs2
    go_loopw [19] (fun v wr => ∃ i : Nat, v = .int .i64 (i : Int) ∧ i ≤ L.length ∧ Hid (PaAt w.heap.size (w.heap.size + 2) L RG w i wr)) (fun v _ => (L.length - RowKit.intOf v).toNat)
    case atStart => exact ⟨0, rfl, by omega, HP.out⟩
    case round =>
      obtain ⟨i, rfl, hi, HPi⟩ := hrel
      have hLn := HLn.out
      by_cases hil : i < L.length
      · obtain ⟨m, hmi, hgm, hgo⟩ := HPi.out.m
        have hlen : L[i].length ≤ 70000 := HLl.out _ (List.getElem_mem hil)
        obtain ⟨vv, vc, vg, hmo⟩ := hmi
        have HRd : Hid (Calls Tryz.prog 28 #[.pointer (some ⟨w.heap.size + 1, 0, none⟩), .string (txtOf L[i])] wr fun e w' => e = .returned (.int .i64 (readT m L[i]).2) ∧ MoI w.heap.size (w.heap.size + 1) (readT m L[i]).1 w' ∧ Ofw (fun k => k = w.heap.size + 1 ∨ vv.ownBlock = some k ∨ vc.ownBlock = some k) wr w') := read_any L[i] wr hmo hgm HPi.out.way hlen
        have HGd : Hid (Good (readT m L[i]).1) := read_good hgm hlen
        have HGo : Hid ((if (readT m L[i]).2 = 0 then goT (L.drop (i + 1)) (i + 1 + 1) (readT m L[i]).1 else (m, some (i + 1, (readT m L[i]).2))) = RG) := by
          show _ = _
          rw [← hgo, List.drop_eq_getElem_cons hil]
          rfl
        obtain ⟨rd, hrd⟩ : ∃ rd, readT m L[i] = rd := ⟨_, rfl⟩
        rw [hrd] at HRd HGd HGo
        have HKp : Hid (∀ w', Ofw (fun k => k = w.heap.size + 1 ∨ vv.ownBlock = some k ∨ vc.ownBlock = some k) wr w' → Below w.heap.size w w' ∧ w'.heap[w.heap.size]? = some (.cells moZ 26 (0, 0)) ∧ w'.heap[w.heap.size + 2]? = some (.cells (L.map fun l => Value.string (txtOf l)).toArray 9 (0, 0)) ∧ Way w' w') := fun w' o => by
          have hp := HPi.out
          have ob : Ofw (fun k => w.heap.size ≤ k) wr w' := o.less fun k hk => by
            obtain ⟨_, _, _, _, hb⟩ := mo_touch hmo hk
            exact hb
          refine ⟨hp.low.trans (ob.below (fun k hk => hk) hp.low.size), (o.block _ (Array.getElem?_eq_some_iff.1 hp.res).1 (fun e => ?_)).trans hp.res, (o.block _ (Array.getElem?_eq_some_iff.1 hp.ln).1 (fun e => ?_)).trans hp.ln, way_on hp.way ob HBig.out⟩
          · rcases e with e | e | e
            · omega
            · obtain ⟨_, cur, hc⟩ := own_type hmo.v e
              exact absurd (one_type hp.res hc) (by decide)
            · obtain ⟨L', _, hkk, _⟩ := hmo.k
              obtain ⟨_, cur, hc⟩ := own_type hkk e
              exact absurd (one_type hp.res hc) (by decide)
          · obtain ⟨c, t, hc, ht, _⟩ := mo_touch hmo e
            rw [one_type hp.ln hc] at ht
            revert ht
            decide
        have cl : wr.cell? ⟨w.heap.size + 2, i, none⟩ = some (.string (txtOf L[i])) := by
          rw [cell_of HPi.out.ln i]
          simp [hil]
        obtain ⟨Y, hY⟩ : ∃ Y, txtOf L[i] = Y := ⟨_, rfl⟩
        rw [hY] at HRd cl
        have h1 : decide ((i : Int) < (L.length : Int)) = true := decide_eq_true (by omega)
        have hiI : (i : Int) < (L.length : Int) := by omega
        by_cases h0 : rd.2 = 0
        · have h0' : (rd.2 == 0) = true := by simp [h0]
          have HG2 : Hid (goT (L.drop (i + 1)) (i + 1 + 1) rd.1 = RG) := by
            show _ = _
            rw [← HGo.out, if_pos h0]
          clear h0 HGo hY hrd hmo hgo hgm hlen
          go_wp2_with (first
            | (go_at_call 28; refine calls_at HRd.out (by with_reducible rfl) (by with_reducible rfl) ?_; rintro e w4 ⟨rfl, h4, o4⟩; (have H4 : Hid (MoI w.heap.size (w.heap.size + 1) rd.1 w4 ∧ Ofw (fun k => k = w.heap.size + 1 ∨ vv.ownBlock = some k ∨ vc.ownBlock = some k) wr w4) := ⟨h4, o4⟩); clear h4 o4))
          go_roundw
          case measure => simp only [RowKit.intOf]; omega
          case rel =>
            obtain ⟨k1, k2, k3, k4⟩ := HKp.out _ H4.out.2
            exact ⟨i + 1, by simp, by omega, ⟨⟨rd.1, H4.out.1, HGd.out, HG2.out⟩, k4, k1, k2, k3⟩⟩
        · have h0' : (rd.2 == 0) = false := by simp [h0]
          have HG2 : Hid (RR = (zm, (((i + 1 : Nat) : Int), rd.2)) ∧ rd.2 ≠ 0) := by
            refine ⟨?_, h0⟩
            rw [HR.out, ← HGo.out, if_neg h0]
            rfl
          have HFm : Hid (∀ w', Calls Tryz.prog 26 #[.int .i64 ((i : Int) + 1), .int .i64 rd.2] w' fun en w'' => ∃ F, en = .returned (.tuple #[.agg #[.slice none 0 0, .slice none 0 0, .bool false, .slice none 0 0], .iface 91 (.pointer (some ⟨F, 0, none⟩))]) ∧ w''.heap[F]? = some (.cells #[.int .i64 1, .int .i64 ((i : Int) + 1), .int .i64 rd.2] 44 (0, 0)) ∧ w'.heap.size ≤ F ∧ Below w'.heap.size w' w'') := fun w' => fault_made _ _ w'
          clear h0 HGo hY hrd hmo hgo hgm hlen
          go_wp2_with (first
            | (go_at_call 28; refine calls_at HRd.out (by with_reducible rfl) (by with_reducible rfl) ?_; rintro e w4 ⟨rfl, h4, o4⟩; (have H4 : Hid (Ofw (fun k => k = w.heap.size + 1 ∨ vv.ownBlock = some k ∨ vc.ownBlock = some k) wr w4) := o4); clear h4 o4)
            | (go_at_call 26; refine calls_at (HFm.out _) (by with_reducible rfl) (by with_reducible rfl) ?_; rintro e w5 ⟨F, rfl, h5, h6, h7⟩; (have H5 : Hid (w5.heap[w.heap.size]? = some (.cells moZ 26 (0, 0)) ∧ w5.heap[F]? = some (.cells #[.int .i64 1, .int .i64 ((i : Int) + 1), .int .i64 rd.2] 44 (0, 0)) ∧ w.heap.size < F ∧ Below w.heap.size w w5) := fin_fault (HKp.out _ H4.out) h5 h6 h7); clear h5 h6 h7)
            | (refine wpList_store_row rfl 26 _ _ rfl w.heap.size moZ rfl rfl 26 _ H5.out.1 (mo_size _ _ _ _) (by rfl) (by kernel_rfl) ?_))
          refine bodyPost_ret (results_row_tmp (p := 2) (u := 3) (ty := 26) rfl _ _ w.heap.size 26 moZ (0, 0) _ rfl (setRow_heap _ _ _ _ _ _ H5.out.1) Tryz.underlying26 rfl (mo_size _ _ _ _)) rfl ?_
          rw [HG2.out.1]
          exact ⟨below_setRow H5.out.2.2.2 (Nat.le_refl _) _, .inr ⟨HG2.out.2, F, rfl, (setRow_other _ _ _ _ (by have := H5.out.2.2.1; omega)).trans H5.out.2.1, by have := H5.out.2.2.1; omega⟩⟩
      · have hie : i = L.length := by omega
        subst hie
        obtain ⟨m, ⟨vv, vc, vg, hmo⟩, hgm, hgo⟩ := HPi.out.m
        have hRG : RG = (m, none) := by rw [← hgo]; simp [goT]
        have HR2 : Hid (RR = if m.vars = [] then (zm, ((L.length : Int), 59)) else (m, (0, 0))) := by
          show _ = _
          rw [HR.out, hRG]
          rfl
        obtain ⟨av, cv, hvv⟩ := own_slice hmo.v
        subst hvv
        have h1 : decide ((L.length : Int) < (L.length : Int)) = false := decide_eq_false (by omega)
        have cv0 : wr.cell? ⟨w.heap.size + 1, 0, none⟩ = some (.slice av m.vars.length cv) := by rw [cell_of hmo.o 0]; rfl
        have HMo : Hid (MoIs w.heap.size (w.heap.size + 1) m (.slice av m.vars.length cv) vc vg wr ∧ Good m) := ⟨hmo, hgm⟩
        by_cases hv0 : m.vars = []
        · have h0' : ((m.vars.length : Int) == 0) = true := by rw [hv0]; rfl
          have HFm : Hid (∀ w', Calls Tryz.prog 26 #[.int .i64 (L.length : Int), .int .i64 59] w' fun en w'' => ∃ F, en = .returned (.tuple #[.agg #[.slice none 0 0, .slice none 0 0, .bool false, .slice none 0 0], .iface 91 (.pointer (some ⟨F, 0, none⟩))]) ∧ w''.heap[F]? = some (.cells #[.int .i64 1, .int .i64 (L.length : Int), .int .i64 59] 44 (0, 0)) ∧ w'.heap.size ≤ F ∧ Below w'.heap.size w' w'') := fun w' => fault_made _ _ w'
          have HG2 : Hid (RR = (zm, ((L.length : Int), 59))) := by show _ = _; rw [HR2.out, if_pos hv0]
          obtain ⟨nv, hnv⟩ : ∃ nv, m.vars.length = nv := ⟨_, rfl⟩
          rw [hnv] at h0' cv0
          clear hv0 hmo hgo hgm hRG HMo hnv
          go_wp2_with (first
            | (go_at_call 26; refine calls_at (HFm.out _) (by with_reducible rfl) (by with_reducible rfl) ?_; rintro e w5 ⟨F, rfl, h5, h6, h7⟩; (have H5 : Hid (w5.heap[w.heap.size]? = some (.cells moZ 26 (0, 0)) ∧ w5.heap[F]? = some (.cells #[.int .i64 1, .int .i64 (L.length : Int), .int .i64 59] 44 (0, 0)) ∧ w.heap.size < F ∧ Below w.heap.size w w5) := fin_fault ⟨HPi.out.low, HPi.out.res, HPi.out.ln, HPi.out.way⟩ h5 h6 h7); clear h5 h6 h7)
            | (refine wpList_store_row rfl 26 _ _ rfl w.heap.size moZ rfl rfl 26 _ H5.out.1 (mo_size _ _ _ _) (by rfl) (by kernel_rfl) ?_))
          refine bodyPost_ret (results_row_tmp (p := 2) (u := 3) (ty := 26) rfl _ _ w.heap.size 26 moZ (0, 0) _ rfl (setRow_heap _ _ _ _ _ _ H5.out.1) Tryz.underlying26 rfl (mo_size _ _ _ _)) rfl ?_
          rw [HG2.out]
          exact ⟨below_setRow H5.out.2.2.2 (Nat.le_refl _) _, .inr ⟨(by decide : (59 : Int) ≠ 0), F, rfl, (setRow_other _ _ _ _ (by have := H5.out.2.2.1; omega)).trans H5.out.2.1, by have := H5.out.2.2.1; omega⟩⟩
        · have h0' : ((m.vars.length : Int) == 0) = false := by
            have : m.vars.length ≠ 0 := fun e => hv0 (List.length_eq_zero_iff.1 e)
            simp
            omega
          have HG2 : Hid (RR = (m, (0, 0))) := by show _ = _; rw [HR2.out, if_neg hv0]
          have hone : (#[.slice av m.vars.length cv, vc, .bool m.has, vg] : Array Value).all (·.oneCell') = true := mo_one hmo
          have HRs : Hid (wr.heap[w.heap.size]? = some (.cells moZ 26 (0, 0)) ∧ wr.heap[w.heap.size + 1]? = some (.cells #[.slice av m.vars.length cv, vc, .bool m.has, vg] 26 (0, 0)) ∧ (#[.slice av m.vars.length cv, vc, .bool m.has, vg] : Array Value).all (·.oneCell') = true) := ⟨HPi.out.res, hmo.o, hone⟩
          clear hv0 hmo hgo hgm hRG hone
          go_wp2_with (first
            | (refine wpList_load_row rfl 26 _ rfl (w.heap.size + 1) rfl 26 #[.slice av m.vars.length cv, vc, .bool m.has, vg] (0, 0) _ HRs.out.2.1 Tryz.underlying26 rfl (mo_size _ _ _ _) ?_)
            | (refine wpList_store_row rfl 26 _ _ rfl w.heap.size #[.slice av m.vars.length cv, vc, .bool m.has, vg] rfl rfl 26 _ HRs.out.1 (mo_size _ _ _ _) (by rfl) HRs.out.2.2 ?_))
          refine bodyPost_ret (results_row_tmp (p := 2) (u := 3) (ty := 26) rfl _ _ w.heap.size 26 _ (0, 0) _ rfl (setRow_heap _ _ _ _ _ _ HRs.out.1) Tryz.underlying26 rfl (mo_size _ _ _ _)) rfl ?_
          rw [HG2.out]
          have o5 : Ofw (fun k => k = w.heap.size) wr (wr.setRow w.heap.size #[.slice av m.vars.length cv, vc, .bool m.has, vg]) := row_ofw
          have hmo5 := HMo.out.1.off o5 (fun k hk => ⟨by have hk' : k = w.heap.size := hk; omega, fun c t e => by have hk' : k = w.heap.size := hk; rw [hk'] at e; rw [one_type HRs.out.1 e]; decide⟩)
          exact ⟨below_setRow HPi.out.low (Nat.le_refl _) _, .inl ⟨rfl, HMo.out.2, _, _, _, rfl, hmo5.at HMo.out.2⟩⟩
end Go.Proofs.YthohnmplbjhjaaaGreatDoor

namespace Go.Proofs.YthohnmplbjhjaaaGreatDoor
open Go Go.RowKit

theorem goT_take : ∀ (L : List (List UInt8)) (i : Nat) (m m' : Md.Mo) (j : Nat) (e : Int), goT L i m = (m', some (j, e)) → i ≤ j ∧ j < i + L.length ∧ goT (L.take (j + 1 - i)) i m = (m', some (j, e)) ∧ e ≠ 0
  | [], i, m, m', j, e, h => by simp [goT] at h
  | l :: L, i, m, m', j, e, h => by
    unfold goT at h
    split at h
    · rename_i h0
      obtain ⟨h1, h2, h3, h4⟩ := goT_take L (i + 1) _ m' j e h
      refine ⟨by omega, by simp; omega, ?_, h4⟩
      obtain ⟨k, hk⟩ : ∃ k, j + 1 - i = k + 1 := ⟨j - i, by omega⟩
      have hk2 : j + 1 - (i + 1) = k := by omega
      rw [hk, List.take_succ_cons]
      unfold goT
      rw [if_pos h0, ← hk2]
      exact h3
    · rename_i h0
      simp only [Prod.mk.injEq, Option.some.injEq] at h
      obtain ⟨rfl, rfl, rfl⟩ := h
      refine ⟨Nat.le_refl _, by simp, ?_, h0⟩
      have hk : i + 1 - i = 0 + 1 := by omega
      rw [hk, List.take_succ_cons]
      unfold goT
      rw [if_neg h0]
end Go.Proofs.YthohnmplbjhjaaaGreatDoor

namespace Go.Proofs.YthohnmplbjhjaaaGreatDoor
open Go Go.RowKit Go.Shelf Go.Lib

/-- How the law's known ends. -/
def KnO (w : World) (e : Ending) (w' : World) : Prop := e = .returned (.bool true) ∧ Below w.heap.size w w'
theorem way_below {w w' : World} (h : Way w w) (hb : Below w.heap.size w w') : Way w' w' := way_here (h.below hb)
theorem mo_forms {w : World} {m : Md.Mo} {vv vc vg : Value} (h : MoAt w m vv vc vg) : (#[vv, vc, .bool m.has, vg] : Array Value).all (·.oneCell') = true := by
  obtain ⟨a1, c1, rfl, _⟩ := h.v.form
  obtain ⟨a2, c2, rfl, _⟩ := h.c.form
  obtain ⟨a3, c3, rfl, _⟩ := h.g.form
  kernel_rfl
/-- What Parse hands, whichever. -/
theorem po_get {r : Md.Mo × (Int × Int)} {w w' : World} {e : Ending} (h : PO r w e w') : ∃ cs it, e = .returned (.tuple #[.agg cs, it]) ∧ cs.size = 4 ∧ cs.all (·.oneCell') = true ∧ Below w.heap.size w w' ∧ ((r.2.2 = 0 ∧ it = .nilIface) ∨ (r.2.2 ≠ 0 ∧ ∃ F, it = .iface 91 (.pointer (some ⟨F, 0, none⟩)) ∧ w'.heap[F]? = some (.cells #[.int .i64 1, .int .i64 r.2.1, .int .i64 r.2.2] 44 (0, 0)))) := by
  obtain ⟨hb, ⟨h0, _, vv, vc, vg, rfl, hM⟩ | ⟨h0, F, rfl, hF, _⟩⟩ := h
  · exact ⟨_, _, rfl, rfl, mo_forms hM, hb, .inl ⟨h0, rfl⟩⟩
  · exact ⟨_, _, rfl, rfl, by kernel_rfl, hb, .inr ⟨h0, F, rfl, hF⟩⟩

end Go.Proofs.YthohnmplbjhjaaaGreatDoor

namespace Go.Proofs.YthohnmplbjhjaaaGreatDoor
open Go Go.RowKit Go.Shelf Go.Lib

def kn1 : List UInt8 := [118, 97, 114, 32, 120, 32, 48, 32, 51, 10, 118, 97, 114, 32, 121, 32, 45, 49, 32, 50, 10, 35, 32, 98, 111, 116, 104, 10, 108, 105, 110, 32, 60, 61, 32, 52, 32, 50, 32, 120, 32, 45, 49, 32, 121, 10, 110, 101, 32, 120, 32, 121, 32, 49, 10, 101, 108, 101, 109, 101, 110, 116, 32, 120, 32, 121, 32, 50, 32, 48, 10, 109, 97, 120, 32, 120, 32, 121, 32, 121, 10, 114, 101, 105, 102, 32, 120, 32, 60, 61, 32, 49, 32, 49, 32, 120, 32, 49, 32, 121, 10, 109, 105, 110, 105, 109, 105, 122, 101, 32, 51, 32, 120, 32, 45, 50, 32, 121]
def kn2 : List UInt8 := [118, 97, 114, 32, 120, 32, 48, 32, 51, 10, 118, 97, 114, 32, 121, 32, 45, 49, 32, 50, 10, 116, 97, 98, 108, 101, 32, 120, 32, 121, 32, 58, 32, 48, 32, 49, 32, 58, 32, 51, 32, 45, 49, 10, 99, 111, 117, 110, 116, 32, 61, 32, 50, 32, 45, 49, 32, 120, 32, 121, 32, 121, 10]
def knM1 : Md.Mo := ⟨[⟨⟨#[120]⟩, 0, 3⟩, ⟨⟨#[121]⟩, -1, 2⟩], [⟨1, 1, [(2, 0), (-1, 1)], 4, 0, 0, 0, [], [], []⟩, ⟨2, 0, [], 1, 0, 0, 1, [], [], []⟩, ⟨4, 0, [], 0, 0, 0, 1, [], [2, 0], []⟩, ⟨5, 0, [], 0, 0, 0, 0, [1, 1], [], []⟩, ⟨7, 0, [(1, 0), (1, 1)], 1, 0, 0, 0, [], [], []⟩], true, [(3, 0), (-2, 1)]⟩
def knM2 : Md.Mo := ⟨[⟨⟨#[120]⟩, 0, 3⟩, ⟨⟨#[121]⟩, -1, 2⟩], [⟨8, 0, [], 0, 0, 0, 0, [0, 1], [], [[0, 1], [3, -1]]⟩, ⟨9, 2, [], 2, -1, 0, 0, [0, 1, 1], [], []⟩], false, []⟩
def knHead : List UInt8 := [118, 97, 114, 32, 120, 32, 48, 32, 51, 10]
def knBad : List (List UInt8 × Int) := [([108, 105, 110, 32, 60, 32, 52, 32, 49, 32, 120], 51), ([108, 105, 110, 32, 60, 61, 32, 48, 52, 32, 49, 32, 120], 53), ([108, 105, 110, 32, 60, 61, 32, 52, 32, 49], 52), ([108, 105, 110, 32, 60, 61, 32, 52, 32, 48, 32, 120], 45), ([108, 105, 110, 32, 60, 61, 32, 52, 32, 49, 32, 122], 56), ([110, 101, 32, 120, 32, 120, 32, 48, 32, 48], 57), ([116, 97, 98, 108, 101, 32, 120, 32, 58, 32, 49, 32, 50], 51), ([116, 97, 98, 108, 101, 32, 120, 32, 120, 32, 58, 32, 49], 52), ([116, 97, 98, 108, 101, 32, 120], 52), ([99, 111, 117, 110, 116, 32, 61, 32, 49, 32, 50], 52), ([118, 97, 114, 32, 120, 32, 49, 32, 50], 55), ([118, 97, 114, 32, 121, 32, 51, 32, 50], 42)]
theorem kn_1 : parseT kn1 = (knM1, (0, 0)) := by kernel_rfl
theorem kn_2 : parseT kn2 = (knM2, (0, 0)) := by kernel_rfl
theorem kn_b0 : parseT (knHead ++ [108, 105, 110, 32, 60, 32, 52, 32, 49, 32, 120]) = (zm, (2, 51)) := by kernel_rfl
theorem kn_b1 : parseT (knHead ++ [108, 105, 110, 32, 60, 61, 32, 48, 52, 32, 49, 32, 120]) = (zm, (2, 53)) := by kernel_rfl
theorem kn_b2 : parseT (knHead ++ [108, 105, 110, 32, 60, 61, 32, 52, 32, 49]) = (zm, (2, 52)) := by kernel_rfl
theorem kn_b3 : parseT (knHead ++ [108, 105, 110, 32, 60, 61, 32, 52, 32, 48, 32, 120]) = (zm, (2, 45)) := by kernel_rfl
theorem kn_b4 : parseT (knHead ++ [108, 105, 110, 32, 60, 61, 32, 52, 32, 49, 32, 122]) = (zm, (2, 56)) := by kernel_rfl
theorem kn_b5 : parseT (knHead ++ [110, 101, 32, 120, 32, 120, 32, 48, 32, 48]) = (zm, (2, 57)) := by kernel_rfl
theorem kn_b6 : parseT (knHead ++ [116, 97, 98, 108, 101, 32, 120, 32, 58, 32, 49, 32, 50]) = (zm, (2, 51)) := by kernel_rfl
theorem kn_b7 : parseT (knHead ++ [116, 97, 98, 108, 101, 32, 120, 32, 120, 32, 58, 32, 49]) = (zm, (2, 52)) := by kernel_rfl
theorem kn_b8 : parseT (knHead ++ [116, 97, 98, 108, 101, 32, 120]) = (zm, (2, 52)) := by kernel_rfl
theorem kn_b9 : parseT (knHead ++ [99, 111, 117, 110, 116, 32, 61, 32, 49, 32, 50]) = (zm, (2, 52)) := by kernel_rfl
theorem kn_b10 : parseT (knHead ++ [118, 97, 114, 32, 120, 32, 49, 32, 50]) = (zm, (2, 55)) := by kernel_rfl
theorem kn_b11 : parseT (knHead ++ [118, 97, 114, 32, 121, 32, 51, 32, 50]) = (zm, (2, 42)) := by kernel_rfl
theorem kn_bad : ∀ i, i < 12 → parseT (knHead ++ (knBad.getD i ([], 0)).1) = (zm, (2, (knBad.getD i ([], 0)).2)) := by
  intro i h'
  rcases (by omega : i = 0 ∨ i = 1 ∨ i = 2 ∨ i = 3 ∨ i = 4 ∨ i = 5 ∨ i = 6 ∨ i = 7 ∨ i = 8 ∨ i = 9 ∨ i = 10 ∨ i = 11) with rfl | rfl | rfl | rfl | rfl | rfl | rfl | rfl | rfl | rfl | rfl | rfl
  · exact kn_b0
  · exact kn_b1
  · exact kn_b2
  · exact kn_b3
  · exact kn_b4
  · exact kn_b5
  · exact kn_b6
  · exact kn_b7
  · exact kn_b8
  · exact kn_b9
  · exact kn_b10
  · exact kn_b11
theorem kn_print : (Md.print knM1).2 = 0 ∧ 60 < (Md.print knM1).1.length ∧ (Md.print knM1).1.take 10 = knHead := ⟨by kernel_rfl, of_decide_eq_true (by kernel_rfl), by kernel_rfl⟩
end Go.Proofs.YthohnmplbjhjaaaGreatDoor

namespace Go.Proofs.YthohnmplbjhjaaaGreatDoor
open Go Go.RowKit Go.Shelf Go.Lib

theorem looseB_app : ∀ (a b : List UInt8), looseB (a ++ b) = looseB a ++ looseB b
  | [], _ => rfl
  | c :: a, b => by
    show looseC c ++ looseB (a ++ b) = looseC c ++ looseB a ++ looseB b
    rw [looseB_app a b, List.append_assoc]
theorem looseC_len (c : UInt8) : (looseC c).length ≤ 8 := by
  unfold looseC
  split
  · decide
  split
  · decide
  · simp
theorem looseB_len : ∀ a : List UInt8, (looseB a).length ≤ 8 * a.length
  | [] => Nat.le_refl _
  | c :: a => by
    show (looseC c ++ looseB a).length ≤ 8 * (a.length + 1)
    have h1 := looseC_len c
    have h2 := looseB_len a
    rw [List.length_append]
    omega
theorem txt_add (a b : List UInt8) : txtOf a ++ txtOf b = txtOf (a ++ b) := by
  apply ByteArray.ext
  simp [txtOf]
theorem loose_next {s : List UInt8} {i : Nat} (hi : i < s.length) {x : List UInt8} (h : looseC s[i] = x) : txtOf ([35, 10, 9, 10] ++ looseB (s.take i)) ++ txtOf x = txtOf ([35, 10, 9, 10] ++ looseB (s.take (i + 1))) := by
  rw [txt_add, List.take_succ_eq_append_getElem hi, looseB_app, ← h]
  congr 1
  simp [looseB]
theorem txt_one {s : List UInt8} {i : Nat} (h : i < s.length) : (txtOf s).extract i (i + 1) = txtOf [s[i]] := by
  apply ByteArray.ext
  rw [ByteArray.data_extract]
  show s.toArray.extract i (i + 1) = [s[i]].toArray
  rw [List.extract_toArray]
  congr 1
  show (s.drop i).take (i + 1 - i) = [s[i]]
  rw [List.drop_eq_getElem_cons h, show i + 1 - i = 1 by omega]
  rfl

set_option maxRecDepth 10000 in
set_option maxHeartbeats 2000000 in
theorem loose_any (s : List UInt8) (w : World) (hs : s.length ≤ 1000000) : Calls Tryz.prog 16 #[.string (txtOf s)] w fun e w' => e = .returned (.string (txtOf (looseT s))) ∧ w = w' := by
  obtain ⟨X, hX⟩ : ∃ X, txtOf s = X := ⟨_, rfl⟩
  have HX : Hid (txtOf s = X) := hX
  have hXs : X.size = s.length := by rw [← hX]; exact txt_size s
  have hXd : X.data.toList = s := by rw [← hX]; exact txt_list s
  rw [hX]
  clear hX
  go_enter Tryz.func16, Tryz.ntmps16
  go_wp2_with fail
  go_loopw [3, 4] (fun v3 v4 wr => ∃ (i : Nat) (O : ByteArray), v3 = .string O ∧ v4 = .int .i64 (i : Int) ∧ i ≤ s.length ∧ Hid (txtOf ([35, 10, 9, 10] ++ looseB (s.take i)) = O) ∧ wr = w) (fun _ v4 _ => (s.length - RowKit.intOf v4).toNat)
  case atStart => exact ⟨0, _, rfl, rfl, by omega, rfl, rfl⟩
  case round =>
    obtain ⟨i, O, rfl, rfl, hi, HO, rfl⟩ := hrel
    have hOs : O.size ≤ 8000008 := by
      rw [← HO.out, txt_size]
      have := looseB_len (s.take i)
      have h2 : (s.take i).length ≤ i := List.length_take_le _ _
      simp only [List.length_append, List.length_cons, List.length_nil]
      omega
    by_cases hil : i < s.length
    · have h1 : decide ((i : Int) < (X.size : Int)) = true := decide_eq_true (by omega)
      have h1I : (i : Int) < (X.size : Int) := by omega
      have hXi : X[i] = s[i] := by
        have h2 : X.data.toList[i]? = some s[i] := by rw [hXd]; exact List.getElem?_eq_getElem hil
        have h3 : i < X.data.size := by have : X.size = X.data.size := rfl; omega
        have h4 : X.data[i]? = some s[i] := by simpa using h2
        exact (Array.getElem?_eq_some_iff.1 h4).2
      have hz8 : ¬ 9223372036854775807 < O.size + 8 := by omega
      have hz2 : ¬ 9223372036854775807 < O.size + 2 := by omega
      have hz1 : ¬ 9223372036854775807 < O.size + 1 := by omega
      by_cases hc : s[i] = 10
      · have hq : ((X[i].toNat : Int) == 10) = true := by rw [hXi, hc]; rfl
        have HN : Hid (O ++ txtOf [32, 10, 35, 32, 120, 10, 32, 10] = txtOf ([35, 10, 9, 10] ++ looseB (s.take (i + 1)))) := by
          rw [← HO.out]
          exact loose_next hil (by rw [hc]; rfl)
        clear hc hXi HO hOs
        go_wp2_with fail
        go_roundw
        case measure => simp only [RowKit.intOf]; omega
        case rel => exact ⟨i + 1, _, rfl, by simp, by omega, HN.out.symm, by first | rfl | trivial⟩
      · have hq : ((X[i].toNat : Int) == 10) = false := by
          rw [hXi]
          have : s[i].toNat ≠ 10 := fun e => hc (UInt8.toNat_inj.1 (by rw [e]; rfl))
          simp
          omega
        by_cases hc2 : s[i] = 32
        · have hq2 : ((X[i].toNat : Int) == 32) = true := by rw [hXi, hc2]; rfl
          have HN : Hid (O ++ txtOf [9, 32] = txtOf ([35, 10, 9, 10] ++ looseB (s.take (i + 1)))) := by
            rw [← HO.out]
            exact loose_next hil (by rw [hc2]; rfl)
          clear hc hc2 hXi HO hOs
          go_wp2_with fail
          go_roundw
          case measure => simp only [RowKit.intOf]; omega
          case rel => exact ⟨i + 1, _, rfl, by simp, by omega, HN.out.symm, by first | rfl | trivial⟩
        · have hq2 : ((X[i].toNat : Int) == 32) = false := by
            rw [hXi]
            have : s[i].toNat ≠ 32 := fun e => hc2 (UInt8.toNat_inj.1 (by rw [e]; rfl))
            simp
            omega
          by_cases hc3 : s[i] = 9
          · have hq3 : ((X[i].toNat : Int) == 9) = true := by rw [hXi, hc3]; rfl
            have HN : Hid (O ++ txtOf [9, 32] = txtOf ([35, 10, 9, 10] ++ looseB (s.take (i + 1)))) := by
              rw [← HO.out]
              exact loose_next hil (by rw [hc3]; rfl)
            clear hc hc2 hc3 hXi HO hOs
            go_wp2_with fail
            go_roundw
            case measure => simp only [RowKit.intOf]; omega
            case rel => exact ⟨i + 1, _, rfl, by simp, by omega, HN.out.symm, by first | rfl | trivial⟩
          · have hq3 : ((X[i].toNat : Int) == 9) = false := by
              rw [hXi]
              have : s[i].toNat ≠ 9 := fun e => hc3 (UInt8.toNat_inj.1 (by rw [e]; rfl))
              simp
              omega
            have HE : Hid (X.extract i (i + 1) = txtOf [s[i]]) := by
              show _ = _
              rw [← HX.out]
              exact txt_one hil
            have HN : Hid (O ++ txtOf [s[i]] = txtOf ([35, 10, 9, 10] ++ looseB (s.take (i + 1)))) := by
              rw [← HO.out]
              exact loose_next hil (by unfold looseC; rw [if_neg hc, if_neg (by simp [hc2, hc3])])
            rw [← HE.out] at HN
            clear hc hc2 hc3 hXi HO hOs HE
            go_wp2_with fail
            go_roundw
            case measure => simp only [RowKit.intOf]; omega
            case rel => exact ⟨i + 1, _, rfl, by simp, by omega, HN.out.symm, by first | rfl | trivial⟩
    · have hie : i = s.length := by omega
      have h1 : decide ((i : Int) < (X.size : Int)) = false := decide_eq_false (by omega)
      have HD : Hid (O = txtOf (looseT s)) := by
        show _ = _
        rw [← HO.out, hie, List.take_length]
        rfl
      clear HO hOs
      go_wp2_with fail
      go_ret
      exact ⟨congrArg (fun z => Ending.returned (Value.string z)) HD.out, by first | rfl | trivial⟩
end Go.Proofs.YthohnmplbjhjaaaGreatDoor
