/-
  Put together: PfRgM, PfRgL, PfRgO.
-/
import Derived.Test.YtibbnijicdijnaaGreatDoorJ38
import Derived.Lib.IndexLaws
namespace Go.Proofs.YtibbnijicdijnaaGreatDoor
open Go Go.Lib

/-- The lines of what is left, cur being what the line has already. -/
def lns : List UInt8 → List UInt8 → List (List UInt8)
  | [], cur => if cur = [] then [] else [cur]
  | c :: t, cur => if c = 10 then cur :: lns t [] else lns t (cur ++ [c])

/-- The lines of what is left with their ends, cur being what the line has already. -/
def raws : List UInt8 → List UInt8 → List (List UInt8)
  | [], cur => if cur = [] then [] else [cur]
  | c :: t, cur => if c = 10 then (cur ++ [10]) :: raws t [] else raws t (cur ++ [c])

theorem raws_at : ∀ (r : List UInt8) (o : Nat) (cur : List UInt8), r[o]? = some 10 → (∀ k, k < o → r[k]? ≠ some 10) → raws r cur = (cur ++ r.take (o + 1)) :: raws (r.drop (o + 1)) []
  | [], o, cur, h, _ => by simp at h
  | b :: l, 0, cur, h, _ => by
    simp at h
    subst h
    simp [raws]
  | b :: l, o + 1, cur, h, hk => by
    have hb : b ≠ 10 := fun e => hk 0 (by omega) (by simp [e])
    have ih := raws_at l o (cur ++ [b]) (by simpa using h) (fun k hlt => by have := hk (k + 1) (by omega); simpa using this)
    simp only [raws, if_neg hb, ih, List.take_succ_cons, List.drop_succ_cons, List.append_assoc, List.singleton_append]
theorem raws_none : ∀ (r cur : List UInt8), (∀ (k : Nat), r[k]? ≠ some (10 : UInt8)) → cur ++ r ≠ [] → raws r cur = [cur ++ r]
  | [], cur, _, hc => by simp at hc; simp [raws, hc]
  | b :: l, cur, h, _ => by
    have hb : b ≠ 10 := fun e => h 0 (by simp [e])
    simp only [raws, if_neg hb]
    rw [raws_none l (cur ++ [b]) (fun k => by have := h (k + 1); simpa using this) (by simp), List.append_assoc]
    rfl
theorem trim_end (cur : List UInt8) : trimSuffix (cur ++ [10]) [10] = cur := by
  have : hasSuffix (cur ++ [10]) [10] = true := by simp [hasSuffix]
  simp [trimSuffix, this]
theorem trim_not (cur : List UInt8) (h : 10 ∉ cur) : trimSuffix cur [10] = cur := by
  unfold trimSuffix
  split
  · rename_i hs
    exfalso
    simp [hasSuffix] at hs
    obtain ⟨t, rfl⟩ := hs
    simp at h
  · rfl
theorem raws_trim : ∀ (r cur : List UInt8), 10 ∉ cur → (raws r cur).map (fun x => trimSuffix x [10]) = lns r cur
  | [], cur, h => by
    unfold raws lns
    split
    · rfl
    · simp [trim_not cur h]
  | b :: l, cur, h => by
    unfold raws lns
    split
    · simp [trim_end, raws_trim l [] (by simp)]
    · rename_i hb
      exact raws_trim l (cur ++ [b]) (by simp [h]; exact fun e => hb e.symm)
theorem raws_nil : raws [] [] = [] := rfl
/-- One line more. -/
theorem raws_some {r : List UInt8} {o : Nat} (h : indexByte r 10 = (o : Int)) : raws r [] = r.take (o + 1) :: raws (r.drop (o + 1)) [] ∧ o < r.length := by
  obtain ⟨h1, h2⟩ := indexByte_some h
  exact ⟨raws_at r o [] h1 h2, (List.getElem?_eq_some_iff.1 h1).1⟩
theorem raws_last {r : List UInt8} (h : indexByte r 10 = -1) (hr : r ≠ []) : raws r [] = [r] := raws_none r [] (indexByte_none h) (by simpa using hr)
theorem raws_len : ∀ (r cur x : List UInt8), x ∈ raws r cur → x.length ≤ cur.length + r.length
  | [], cur, x, h => by
    unfold raws at h
    split at h
    · cases h
    · simp at h; subst h; simp
  | b :: l, cur, x, h => by
    unfold raws at h
    split at h
    · rcases List.mem_cons.1 h with rfl | h
      · simp
      · have := raws_len l [] x h
        simp at this ⊢
        omega
    · have := raws_len l (cur ++ [b]) x h
      simp at this ⊢
      omega
theorem lns_count : ∀ (r cur : List UInt8), (lns r cur).length ≤ r.length + 1
  | [], cur => by unfold lns; split <;> simp
  | b :: l, cur => by
    unfold lns
    split
    · have := lns_count l []; simp; omega
    · have := lns_count l (cur ++ [b]); simp; omega


theorem lns_len : ∀ (r cur x : List UInt8), x ∈ lns r cur → x.length ≤ cur.length + r.length
  | [], cur, x, h => by
    unfold lns at h
    split at h
    · cases h
    · simp at h; subst h; simp
  | b :: l, cur, x, h => by
    unfold lns at h
    split at h
    · rcases List.mem_cons.1 h with rfl | h
      · simp
      · have := lns_len l [] x h
        simp at this ⊢
        omega
    · have := lns_len l (cur ++ [b]) x h
      simp at this ⊢
      omega
end Go.Proofs.YtibbnijicdijnaaGreatDoor

namespace Go.Proofs.YtibbnijicdijnaaGreatDoor
open Go.RowKit Go.Shelf Go.Lib
attribute [local go_sem] Oper.semAt_some

/-- What a round is handed: a line. -/
def lineEnc (x : List UInt8) : Array Value := #[.string (txtOf x)]
/-- The length of the text in a box. -/
def boxLen (w : World) (b : Nat) : Nat := match w.cell? ⟨b, 0, none⟩ with
  | some (.string s) => s.size
  | _ => 0
/-- A box of a text. -/
def TBox (w : World) (b : Nat) (s : List UInt8) : Prop := w.heap[b]? = some (.cells #[.string (txtOf s)] 9)
theorem TBox.cell {w : World} {b : Nat} {s : List UInt8} (h : TBox w b s) : w.cell? ⟨b, 0, none⟩ = some (.string (txtOf s)) := by unfold TBox at h; simp [World.cell?, h]
theorem TBox.free {w : World} {b : Nat} {s : List UInt8} (h : TBox w b s) : w.frozen? ⟨b, 0, none⟩ = false := by unfold TBox at h; simp [World.frozen?, h]
theorem TBox.set {w : World} {b : Nat} {s : List UInt8} (h : TBox w b s) (r : List UInt8) : TBox (w.setCell ⟨b, 0, none⟩ (.string (txtOf r))) b r := by
  unfold TBox at h ⊢
  simp [World.setCell, Array.getElem?_modify, h]
theorem TBox.len {w : World} {b : Nat} {s : List UInt8} (h : TBox w b s) : boxLen w b = s.length := by
  unfold boxLen
  rw [h.cell]
  exact txt_size s
theorem txt_empty : (⟨#[]⟩ : ByteArray) = txtOf [] := rfl
theorem ext_from (l : List UInt8) (f i : Nat) : (txtOf l).extract f i = txtOf ((l.drop f).take (i - f)) := by rw [ext_is, txt_list]

set_option maxRecDepth 100000 in
set_option maxHeartbeats 2000000 in
theorem lines1_in (n : Nat) (hn : 1 ≤ n) (Bs : Nat) (s : List UInt8) (hs : s.length ≤ 9000000) (W : World) (hB : TBox W Bs s)
    (hX : ∀ (t : List UInt8) (w : World), CallsIn Fence.wide (n - 1) Tryz.prog 99 #[.string (txtOf t), .int .u8 10] w fun e w' => e = .returned (.int .i64 (indexByte t 10)) ∧ w' = w) :
    SeqX Fence.wide n Tryz.prog 98 #[.pointer (some ⟨Bs, 0, none⟩)] lineEnc (fun k => k = Bs) 0 (raws s []) W := by
  intro l J J2 hJ hJ2 hY h0
  refine callsIn_of_wp Tryz.func98 rfl trivial ?_ rfl
  simp only [Tryz.ntmps98, List.size_toArray, List.length_cons, List.length_nil, Nat.reduceAdd, Nat.reduceSub, Array.replicate_succ, Array.replicate_zero, List.push_toArray, List.append_toArray, List.nil_append, List.cons_append]
  gi_wp2
  gi_loopw [3] (fun _ wr => ∃ (pre : List (List UInt8)) (r : List UInt8), raws s [] = pre ++ raws r [] ∧ r.length ≤ 9000000 ∧ TBox wr Bs r ∧ J pre wr) (fun _ wr => boxLen wr Bs)
  case atStart => exact ⟨[], s, rfl, hs, hB, h0⟩
  case round =>
    obtain ⟨pre, r, hpr, hrl, hT, hj⟩ := hrel
    have hc := hT.cell
    have hf := hT.free
    by_cases hr : r = []
    · subst hr
      have hz : (txtOf []).size = 0 := rfl
      have hq : raws s [] = pre := by rw [hpr, raws_nil, List.append_nil]
      gi_wp2
      go_end0
      exact ⟨⟨_, rfl⟩, .inl (hq ▸ hj)⟩
    · have hN : 0 < r.length := List.length_pos_iff.2 hr
      have hX' := hX r wr
      obtain ⟨S, hS⟩ : ∃ S, S = txtOf r := ⟨_, rfl⟩
      have hSz : S.size = r.length := by rw [hS]; exact txt_size r
      rw [← hS] at hc hX'
      have HS : Hid (S = txtOf r) := hS
      have hSI : (0 : Int) < (S.size : Int) := by omega
      rcases Int.lt_or_le (indexByte r 10) 0 with hi | hi
      · have hi1 : indexByte r 10 = -1 := by have := indexByte_ge r 10; omega
        obtain ⟨W5, hW5⟩ : ∃ W5, wr.setCell ⟨Bs, 0, none⟩ (.string ⟨#[]⟩) = W5 := ⟨_, rfl⟩
        have hT5 : TBox W5 Bs [] := hW5 ▸ hT.set []
        have hj5 : J pre W5 := hJ _ _ _ hj (hW5 ▸ Ofw.set _ rfl)
        obtain ⟨fn, tmps, assign, body, hy, hR⟩ := hY pre r [] W5 (by rw [hpr, raws_last hi1 hr]) hj5 (Nat.zero_le _)
        simp only [lineEnc, ← hS] at hy
        clear hS
        rw [hi1] at hX'
        gi_wp2_with (refine ⟨trivial, ?_⟩; gi_at_call 99; refine hX'.mono ?_; rintro e w' ⟨rfl, rfl⟩)
        refine hR.mono ?_
        rintro e W6 ⟨(⟨rfl, hj6⟩ | ⟨rfl, hj6⟩), _, hk6⟩
        · have hT6 : TBox W6 Bs [] := (hk6 Bs rfl).trans hT5
          gi_wp2
          go_roundw
          case rel => exact ⟨pre ++ [r], [], by rw [hpr, raws_last hi1 hr, raws_nil, List.append_nil], by simp, hT6, hj6⟩
          case measure => rw [hT6.len, hT.len]; exact hN
        · gi_wp2
          refine bodyPost_ret (results_none rfl _ _ _) rfl ?_
          exact ⟨⟨_, rfl⟩, .inr ⟨pre, r, [], by rw [hpr, raws_last hi1 hr], hj6⟩⟩
      · obtain ⟨o, ho⟩ : ∃ o : Nat, indexByte r 10 = (o : Int) := ⟨(indexByte r 10).toNat, by omega⟩
        obtain ⟨hl1, hl2⟩ := raws_some ho
        rw [ho] at hX'
        have hw : wrap64 ((o : Int) + 1) = (o : Int) + 1 := by unfold wrap64; omega
        have hoI : (0 : Int) ≤ (o : Int) := by omega
        have HT0 : Hid (TBox wr Bs r) := hT
        clear hS
        gi_wp2_with (refine ⟨trivial, ?_⟩; gi_at_call 99; refine hX'.mono ?_; rintro e w' ⟨rfl, rfl⟩)
        gi_region
        have hS := HS.out
        have e1 : S.extract 0 (o + 1) = txtOf (r.take (o + 1)) := by rw [hS, ext_from]; simp
        have e2 : S.extract (o + 1) r.length = txtOf (r.drop (o + 1)) := by rw [hS, ext_from, List.take_of_length_le (by simp)]
        rw [e1, e2]
        clear hS e1 e2 hX' hw hoI
        obtain ⟨W5, hW5⟩ : ∃ W5, (w'.setCell ⟨Bs, 0, none⟩ (.string (txtOf (r.drop (o + 1))))).drew = W5 := ⟨_, rfl⟩
        rw [hW5]
        have hT5 : TBox W5 Bs (r.drop (o + 1)) := hW5 ▸ hT.set (r.drop (o + 1))
        have hj5 : J pre W5 := hJ _ _ _ hj (hW5 ▸ (Ofw.set (S := fun k => k = Bs) _ rfl).trans (Ofw.of_below (Below.refl _ _).drew))
        obtain ⟨fn, tmps, assign, body, hy, hR⟩ := hY pre (r.take (o + 1)) (raws (r.drop (o + 1)) []) W5 (by rw [hpr, hl1]) hj5 (Nat.zero_le _)
        simp only [lineEnc] at hy
        clear hc hf hT hW5
        gi_wp2
        refine hR.mono ?_
        rintro e W6 ⟨(⟨rfl, hj6⟩ | ⟨rfl, hj6⟩), _, hk6⟩
        · have hT6 : TBox W6 Bs (r.drop (o + 1)) := (hk6 Bs rfl).trans hT5
          gi_wp2
          go_roundw
          case rel => exact ⟨pre ++ [r.take (o + 1)], r.drop (o + 1), by rw [hpr, hl1, List.append_assoc]; rfl, by rw [List.length_drop]; omega, hT6, hj6⟩
          case measure => rw [hT6.len, HT0.out.len, List.length_drop]; omega
        · gi_wp2
          refine bodyPost_ret (results_none rfl _ _ _) rfl ?_
          exact ⟨⟨_, rfl⟩, .inr ⟨pre, r.take (o + 1), raws (r.drop (o + 1)) [], by rw [hpr, hl1], hj6⟩⟩
end Go.Proofs.YtibbnijicdijnaaGreatDoor

namespace Go.Proofs.YtibbnijicdijnaaGreatDoor
open Go.RowKit Go.Shelf Go.Lib
attribute [local go_sem] Oper.semAt_some

theorem round_any {P : Program} {m m' l l' : Nat} {f : FuncId} {tmps : Array Value} {assign body : Code} {w : World} {R : Ending → World → Prop} (h : RoundIn Fence.wide m P l f tmps assign body w R) : RoundIn (Fence.wide.inRound l') m' P l f tmps assign body w R := ⟨trivial, fun c cs _ => h.2 c cs (room_wide _)⟩
theorem calls_any {P : Program} {m l' : Nat} {f : FuncId} {args : Array Value} {w : World} {R : Ending → World → Prop} (h : Calls P f args w R) : CallsIn (Fence.wide.inRound l') m P f args w R := CallsIn.inRound l' (callsIn_wide.2 h)

theorem two_bool {e : Ending} {A B : Prop} (h : (e = .returned (.bool true) ∧ A) ∨ (e = .returned (.bool false) ∧ B)) : ∃ bv, e = .returned (.bool bv) ∧ ((bv = true ∧ A) ∨ (bv = false ∧ B)) := by
  rcases h with ⟨h, a⟩ | ⟨h, b⟩
  · exact ⟨true, h, .inl ⟨rfl, a⟩⟩
  · exact ⟨false, h, .inr ⟨rfl, b⟩⟩
/-- A line without its end. -/
def tr (x : List UInt8) : List UInt8 := trimSuffix x [10]
theorem trim_line (x : List UInt8) (w : World) (hx : x.length ≤ 9000000) : Calls Tryz.prog 68 #[.string (txtOf x), .string ⟨#[10]⟩] w fun e w' => e = .returned (.string (txtOf (tr x))) ∧ w' = w := by
  refine (Tryz.strings_TrimSuffix (txtOf x) ⟨#[10]⟩ w (by rw [txt_size]; omega)).mono ?_
  rintro e w' ⟨rfl, rfl⟩
  rw [txt_list]
  exact ⟨rfl, rfl⟩

set_option maxHeartbeats 1000000 in
theorem lines_in (n : Nat) (s : ByteArray) (w : World) : CallsIn Fence.wide n Tryz.prog 67 #[.string s] w fun e w' => e = .returned (.func (.func 98) #[] #[.pointer (some ⟨w.heap.size, 0, none⟩)]) ∧ w' = w.alloc (.cells #[.string s] 9) := by
  refine callsIn_of_wp Tryz.func67 rfl trivial ?_ rfl
  simp only [Tryz.ntmps67, List.size_toArray, List.length_cons, List.length_nil, Nat.reduceAdd, Nat.reduceSub, Array.replicate_succ, Array.replicate_zero, List.push_toArray, List.append_toArray, List.nil_append, List.cons_append]
  gi_wp2
  go_ret
  exact ⟨rfl, rfl⟩
set_option maxHeartbeats 1000000 in
theorem linesOf_in (n : Nat) (s : ByteArray) (w : World) : CallsIn Fence.wide n Tryz.prog 42 #[.string s] w fun e w' => e = .returned (.func (.func 66) #[] #[.pointer (some ⟨w.heap.size, 0, none⟩)]) ∧ w' = w.alloc (.cells #[.string s] 9) := by
  refine callsIn_of_wp Tryz.func42 rfl trivial ?_ rfl
  simp only [Tryz.ntmps42, List.size_toArray, List.length_cons, List.length_nil, Nat.reduceAdd, Nat.reduceSub, Array.replicate_succ, Array.replicate_zero, List.push_toArray, List.append_toArray, List.nil_append, List.cons_append]
  gi_wp2
  go_ret
  exact ⟨rfl, rfl⟩

set_option maxRecDepth 100000 in
set_option maxHeartbeats 2000000 in
theorem linesOf1_in (n : Nat) (hn : 3 ≤ n) (Bl : Nat) (s : List UInt8) (hs : s.length ≤ 9000000) (w : World) (hB : TBox w Bl s) :
    SeqX Fence.wide n Tryz.prog 66 #[.pointer (some ⟨Bl, 0, none⟩)] lineEnc (fun k => w.heap.size ≤ k ∧ k < w.heap.size + 4) (w.heap.size + 4) (lns s []) w := by
  intro l J J2 hJ hJ2 hY h0
  have h1 : 1 ≤ n := by omega
  have hBl : Bl < w.heap.size := (Array.getElem?_eq_some_iff.1 hB).1
  obtain ⟨N, hN⟩ : ∃ N, N = w.heap.size := ⟨_, rfl⟩
  obtain ⟨W1, hW1⟩ : ∃ W1, w.alloc (.cells #[.func (.yield l) #[] #[]] 52) = W1 := ⟨_, rfl⟩
  have hb1 : Below w.heap.size w W1 := hW1 ▸ (Below.refl _ _).alloc (Nat.le_refl _) _
  have hs1 : W1.heap.size = w.heap.size + 1 := by rw [← hW1]; simp
  have hc1 : W1.cell? ⟨Bl, 0, none⟩ = some (.string (txtOf s)) := TBox.cell ((hb1.block _ hBl).trans hB)
  have hX := lines_in (n - 1) (txtOf s) W1
  refine callsIn_of_wp_marks Tryz.func66 rfl trivial ?_ rfl
  simp only [Tryz.ntmps66, List.size_toArray, List.length_cons, List.length_nil, Nat.reduceAdd, Nat.reduceSub, Array.replicate_succ, Array.replicate_zero, List.push_toArray, List.append_toArray, List.nil_append, List.cons_append]
  gi_wp2_with (refine ⟨trivial, ?_⟩; gi_at_call 67; refine hX.mono ?_; rintro e w' ⟨rfl, rfl⟩)
  obtain ⟨W2, hW2⟩ : ∃ W2, W1.alloc (.cells #[.string (txtOf s)] 9) = W2 := ⟨_, rfl⟩
  rw [hW2]
  have hb2 : Below W1.heap.size W1 W2 := hW2 ▸ (Below.refl _ _).alloc (Nat.le_refl _) _
  have hs2 : W2.heap.size = w.heap.size + 2 := by rw [← hW2]; simp [hs1]
  have hT2 : TBox W2 (w.heap.size + 1) s := by
    rw [← hs1, ← hW2]
    exact World.alloc_heap_new W1 _
  have hy2 : W2.heap[w.heap.size]? = some (.cells #[.func (.yield l) #[] #[]] 52) := (hb2.block _ (by omega)).trans (hW1 ▸ World.alloc_heap_new w _)
  have ho2 : Ofw (fun k => w.heap.size ≤ k ∧ k < w.heap.size + 4) w W2 := (Ofw.of_below hb1).trans (Ofw.of_below hb2)
  have hr : (raws s []).map tr = lns s [] := raws_trim s [] (by simp)
  clear hc1 hX hW1 hW2 hb1 hb2 hB
  refine range_stop (α := List UInt8) rfl h1 (gf := 98) (lb := #[.pointer (some ⟨w.heap.size + 1, 0, none⟩)]) rfl trivial (enters_of Tryz.func98 (by kernel_rfl) rfl) (encs := lineEnc) (T := fun k => k = w.heap.size + 1) (M := 0) (xs := raws s []) (fun k hk => by omega)
    (fun W hb hsz => lines1_in (n - 1) (by omega) _ s hs W ((hb.block _ (by omega)).trans hT2) (fun t w => callsIn_wide.2 (by
      refine (Tryz.strings_IndexByte (txtOf t) 10 w).mono ?_
      rintro e w' ⟨rfl, rfl⟩
      rw [txt_list]
      exact ⟨rfl, rfl⟩))) (fun _ => rfl)
    (fun pre W => J (pre.map tr) W ∧ W.heap[w.heap.size]? = some (.cells #[.func (.yield l) #[] #[]] 52))
    (fun pre W => J2 (pre.map tr) W)
    (fun pre A B hs ho => ⟨hJ _ _ _ hs.1 (ho.less (fun k hk => by omega)), (ho.block _ (Array.getElem?_eq_some_iff.1 hs.2).1 (by omega)).trans hs.2⟩)
    (fun pre A B hs ho => hJ2 _ _ _ hs (ho.less (fun k hk => by omega)))
    ⟨hJ _ _ _ h0 ho2, hy2⟩
    (fun x => { tmps := #[.func (.yield l) #[] #[], .pointer (some ⟨Bl, 0, none⟩), .pointer (some ⟨w.heap.size, 0, none⟩), .string (txtOf x), .string (txtOf s), .func (.func 98) #[] #[.pointer (some ⟨w.heap.size + 1, 0, none⟩)], .string (txtOf x), undef, undef, undef, undef, undef], defers := [] }) ?assign ?body ?done ?stop
  case assign =>
    intro l' x W K hK
    simp only [lineEnc]
    gi_wp2
    exact hK
  case body =>
    rintro l' pre x post W hx ⟨hj, hbx⟩ _ hsz
    have hxl : x.length ≤ 9000000 := by
      have := raws_len s [] x (by rw [hx]; simp)
      simp at this
      omega
    have hq : lns s [] = pre.map tr ++ tr x :: post.map tr := by rw [← hr, hx]; simp
    have hW3 : w.heap.size + 4 ≤ W.drew.heap.size := by show w.heap.size + 4 ≤ W.heap.size; omega
    obtain ⟨fn, tmps, assign, body, hy, hR⟩ := hY (pre.map tr) (tr x) (post.map tr) W.drew hq (hJ _ _ _ hj (Ofw.of_below (Below.refl _ _).drew)) hW3
    simp only [lineEnc] at hy
    have hc : W.drew.cell? ⟨w.heap.size, 0, none⟩ = some (.func (.yield l) #[] #[]) := by show W.cell? _ = _; simp [World.cell?, hbx]
    have hX29 := trim_line x W.drew hxl
    have hm : Tryz.prog.follows .mixedOrders = true := by kernel_rfl
    have hn1 : 1 ≤ n - 1 - 1 := by omega
    gi_wp2
    gi_region_with_o (first | (refine ⟨trivial, ?_⟩; gi_at_call 68; refine (calls_any hX29).mono ?_; rintro e w' ⟨rfl, hww⟩; rw [hww]; clear hww) | (refine (round_any hR).mono ?_; rintro e W6 ⟨hd6, hs6, hk6⟩; obtain ⟨bv, rfl, hj6⟩ := two_bool hd6; clear hd6; have HJ6 : Hid _ := hj6; clear hj6; have HK : Hid (∀ k, w.heap.size ≤ k ∧ k < w.heap.size + 4 → W6.heap[k]? = W.heap[k]?) := hk6; clear hk6))
    all_goals
      rcases HJ6.out with ⟨rfl, hj6⟩ | ⟨rfl, hj6⟩
      · have HJ7 : Hid (J (pre.map tr ++ [tr x]) W6) := hj6
        clear hj6 HJ6
        gi_wp2
        exact ⟨⟨HJ7.out, (HK.out _ (by omega)).trans hbx⟩, hs6, HK.out _ (by omega), HK.out _ (by omega), HK.out _ (by omega)⟩
      · have HJ7 : Hid (J2 (pre.map tr ++ [tr x]) W6) := hj6
        clear hj6 HJ6
        gi_wp2
        exact ⟨HJ7.out, hs6, HK.out _ (by omega), HK.out _ (by omega), HK.out _ (by omega)⟩
  case done =>
    rintro W ⟨hj, _⟩ hK
    gi_wp2
    refine ⟨by simp, .inl ⟨_, _, rfl, run_takeDeferred hK, ?_⟩⟩
    exact ⟨_, results_none rfl _ _ _, ⟨_, rfl⟩, .inl (hr ▸ hJ _ _ _ hj (off_putObj W _ _ (by omega)))⟩
  case stop =>
    rintro pre x post W hx hj hK
    gi_wp2
    refine ⟨by simp, .inl ⟨_, _, rfl, run_takeDeferred hK, ?_⟩⟩
    refine ⟨_, results_none rfl _ _ _, ⟨_, rfl⟩, .inr ⟨pre.map tr, tr x, post.map tr, by rw [← hr, hx]; simp, hJ2 _ _ _ (by rw [List.map_append] at hj; exact hj) (off_putObj W _ _ (by omega))⟩⟩
end Go.Proofs.YtibbnijicdijnaaGreatDoor
