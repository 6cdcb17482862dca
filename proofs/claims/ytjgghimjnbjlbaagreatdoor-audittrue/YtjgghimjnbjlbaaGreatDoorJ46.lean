/-
  Put together: PfRgM, PfRgL, PfRgO, PfLns.
-/
import Derived.Test.YtjgghimjnbjlbaaGreatDoorJ42
import Derived.Lib.IndexLaws
import Derived.Test.YtjgghimjnbjlbaaGreatDoorJ04
namespace Go.Proofs.YtjgghimjnbjlbaaGreatDoor
open Go Go.Lib
def lns : List UInt8 → List UInt8 → List (List UInt8)
  | [], cur => if cur = [] then [] else [cur]
  | c :: t, cur => if c = 10 then cur :: lns t [] else lns t (cur ++ [c])
def raws : List UInt8 → List UInt8 → List (List UInt8)
  | [], cur => if cur = [] then [] else [cur]
  | c :: t, cur => if c = 10 then (cur ++ [10]) :: raws t [] else raws t (cur ++ [c])
theorem y07 : ∀ (r : List UInt8) (o : Nat) (cur : List UInt8), r[o]? = some 10 → (∀ k, k < o → r[k]? ≠ some 10) → raws r cur = (cur ++ r.take (o + 1)) :: raws (r.drop (o + 1)) []
  | [], o, cur, h, _ => by simp at h
  | b :: l, 0, cur, h, _ => by
    simp at h
    subst h
    simp [raws]
  | b :: l, o + 1, cur, h, hk => by
    have hb : b ≠ 10 := fun e => hk 0 (by omega) (by simp [e])
    have ih := y07 l o (cur ++ [b]) (by simpa using h) (fun k hlt => by have := hk (k + 1) (by omega); simpa using this)
    simp only [raws, if_neg hb, ih, List.take_succ_cons, List.drop_succ_cons, List.append_assoc, List.singleton_append]
theorem y08 : ∀ (r cur : List UInt8), (∀ (k : Nat), r[k]? ≠ some (10 : UInt8)) → cur ++ r ≠ [] → raws r cur = [cur ++ r]
  | [], cur, _, hc => by simp at hc; simp [raws, hc]
  | b :: l, cur, h, _ => by
    have hb : b ≠ 10 := fun e => h 0 (by simp [e])
    simp only [raws, if_neg hb]
    rw [y08 l (cur ++ [b]) (fun k => by have := h (k + 1); simpa using this) (by simp), List.append_assoc]
    rfl
theorem y6u (cur : List UInt8) : trimSuffix (cur ++ [10]) [10] = cur := by
  have : hasSuffix (cur ++ [10]) [10] = true := by simp [hasSuffix]
  simp [trimSuffix, this]
theorem y6v (cur : List UInt8) (h : 10 ∉ cur) : trimSuffix cur [10] = cur := by
  unfold trimSuffix
  split
  · rename_i hs
    exfalso
    simp [hasSuffix] at hs
    obtain ⟨t, rfl⟩ := hs
    simp at h
  · rfl
theorem ZX : ∀ (r cur : List UInt8), 10 ∉ cur → (raws r cur).map (fun x => trimSuffix x [10]) = lns r cur
  | [], cur, h => by
    unfold raws lns
    split
    · rfl
    · simp [y6v cur h]
  | b :: l, cur, h => by
    unfold raws lns
    split
    · simp [y6u, ZX l [] (by simp)]
    · rename_i hb
      exact ZX l (cur ++ [b]) (by simp [h]; exact fun e => hb e.symm)
theorem y06 : raws [] [] = [] := rfl
theorem y6t {r : List UInt8} {o : Nat} (h : indexByte r 10 = (o : Int)) : raws r [] = r.take (o + 1) :: raws (r.drop (o + 1)) [] ∧ o < r.length := by
  obtain ⟨h1, h2⟩ := indexByte_some h
  exact ⟨y07 r o [] h1 h2, (List.getElem?_eq_some_iff.1 h1).1⟩
theorem ZW {r : List UInt8} (h : indexByte r 10 = -1) (hr : r ≠ []) : raws r [] = [r] := y08 r [] (indexByte_none h) (by simpa using hr)
theorem ZY : ∀ (r cur x : List UInt8), x ∈ raws r cur → x.length ≤ cur.length + r.length
  | [], cur, x, h => by
    unfold raws at h
    split at h
    · cases h
    · simp at h; subst h; simp
  | b :: l, cur, x, h => by
    unfold raws at h
    split at h
    · rcases List.mem_cons.1 h with rfl | h
      · simp
      · have := ZY l [] x h
        simp at this ⊢
        omega
    · have := ZY l (cur ++ [b]) x h
      simp at this ⊢
      omega
theorem YA : ∀ (r cur : List UInt8), (lns r cur).length ≤ r.length + 1
  | [], cur => by unfold lns; split <;> simp
  | b :: l, cur => by
    unfold lns
    split
    · have := YA l []; simp; omega
    · have := YA l (cur ++ [b]); simp; omega
theorem Yz : ∀ (r cur x : List UInt8), x ∈ lns r cur → x.length ≤ cur.length + r.length
  | [], cur, x, h => by
    unfold lns at h
    split at h
    · cases h
    · simp at h; subst h; simp
  | b :: l, cur, x, h => by
    unfold lns at h
    split at h
    · rcases List.mem_cons.1 h with rfl | h
      · simp
      · have := Yz l [] x h
        simp at this ⊢
        omega
    · have := Yz l (cur ++ [b]) x h
      simp at this ⊢
      omega
end Go.Proofs.YtjgghimjnbjlbaaGreatDoor

namespace Go.Proofs.YtjgghimjnbjlbaaGreatDoor
open Go.RowKit Go.Shelf Go.Lib
set_option maxRecDepth 10000
set_option maxHeartbeats 8000000
attribute [local go_sem] Oper.semAt_some
def xA (x : List UInt8) : Array Value := #[.string (yd x)]
def ZV (w : World) (b : Nat) : Nat := match w.cell? ⟨b, 0, none⟩ with
  | some (.string s) => s.size
  | _ => 0
def TBox (w : World) (b : Nat) (s : List UInt8) : Prop := w.heap[b]? = some (.cells #[.string (yd s)] 9)
theorem TBox.cell {w : World} {b : Nat} {s : List UInt8} (h : TBox w b s) : w.cell? ⟨b, 0, none⟩ = some (.string (yd s)) := by unfold TBox at h; simp [World.cell?, h]
theorem TBox.free {w : World} {b : Nat} {s : List UInt8} (h : TBox w b s) : w.frozen? ⟨b, 0, none⟩ = false := by unfold TBox at h; simp [World.frozen?, h]
theorem TBox.set {w : World} {b : Nat} {s : List UInt8} (h : TBox w b s) (r : List UInt8) : TBox (w.setCell ⟨b, 0, none⟩ (.string (yd r))) b r := by
  unfold TBox at h ⊢
  simp [World.setCell, Array.getElem?_modify, h]
theorem TBox.len {w : World} {b : Nat} {s : List UInt8} (h : TBox w b s) : ZV w b = s.length := by
  unfold ZV
  rw [h.cell]
  exact zA s
theorem y05 (l : List UInt8) (f i : Nat) : (yd l).extract f i = yd ((l.drop f).take (i - f)) := by rw [YS, yS]
theorem y6s (n : Nat) (hn : 1 ≤ n) (Bs : Nat) (s : List UInt8) (hs : s.length ≤ 9000000) (W : World) (hB : TBox W Bs s)
    (hX : ∀ (t : List UInt8) (w : World), CallsIn Fence.wide (n - 1) Tryz.prog 87 #[.string (yd t), .int .u8 10] w fun e w' => e = .returned (.int .i64 (indexByte t 10)) ∧ w' = w) :
    SeqX Fence.wide n Tryz.prog 86 #[.pointer (some ⟨Bs, 0, none⟩)] xA (fun k => k = Bs) 0 (raws s []) W := by
  intro l J J2 hJ hJ2 hY h0
  refine callsIn_of_wp Tryz.func86 rfl trivial ?_ rfl
  simp only [Tryz.ntmps86, List.size_toArray, List.length_cons, List.length_nil, Nat.reduceAdd, Nat.reduceSub, Array.replicate_succ, Array.replicate_zero, List.push_toArray, List.append_toArray, List.nil_append, List.cons_append]
  gi_wp2
  gi_loopw [3] (fun _ wr => ∃ (pre : List (List UInt8)) (r : List UInt8), raws s [] = pre ++ raws r [] ∧ r.length ≤ 9000000 ∧ TBox wr Bs r ∧ J pre wr) (fun _ wr => ZV wr Bs)
  case atStart => exact ⟨[], s, rfl, hs, hB, h0⟩
  case round =>
    obtain ⟨pre, r, hpr, hrl, hT, hj⟩ := hrel
    have hc := hT.cell
    have hf := hT.free
    by_cases hr : r = []
    · subst hr
      have hz : (yd []).size = 0 := rfl
      have hq : raws s [] = pre := by rw [hpr, y06, List.append_nil]
      gi_wp2
      go_end0
      exact ⟨⟨_, rfl⟩, .inl (hq ▸ hj)⟩
    · have hN : 0 < r.length := List.length_pos_iff.2 hr
      have hX' := hX r wr
      obtain ⟨S, hS⟩ : ∃ S, S = yd r := ⟨_, rfl⟩
      have hSz : S.size = r.length := by rw [hS]; exact zA r
      rw [← hS] at hc hX'
      have HS : Hid (S = yd r) := hS
      have hSI : (0 : Int) < (S.size : Int) := by omega
      rcases Int.lt_or_le (indexByte r 10) 0 with hi | hi
      · have hi1 : indexByte r 10 = -1 := by have := indexByte_ge r 10; omega
        obtain ⟨W5, hW5⟩ : ∃ W5, wr.setCell ⟨Bs, 0, none⟩ (.string ⟨#[]⟩) = W5 := ⟨_, rfl⟩
        have hT5 : TBox W5 Bs [] := hW5 ▸ hT.set []
        have hj5 : J pre W5 := hJ _ _ _ hj (hW5 ▸ Ofw.set _ rfl)
        obtain ⟨fn, tmps, assign, body, hy, hR⟩ := hY pre r [] W5 (by rw [hpr, ZW hi1 hr]) hj5 (Nat.zero_le _)
        simp only [xA, ← hS] at hy
        clear hS
        rw [hi1] at hX'
        gi_wp2_with (refine ⟨trivial, ?_⟩; gi_at_call 87; refine hX'.mono ?_; rintro e w' ⟨rfl, rfl⟩)
        refine hR.mono ?_
        rintro e W6 ⟨(⟨rfl, hj6⟩ | ⟨rfl, hj6⟩), _, hk6⟩
        · have hT6 : TBox W6 Bs [] := (hk6 Bs rfl).trans hT5
          gi_wp2
          go_roundw
          case rel => exact ⟨pre ++ [r], [], by rw [hpr, ZW hi1 hr, y06, List.append_nil], by simp, hT6, hj6⟩
          case measure => rw [hT6.len, hT.len]; exact hN
        · gi_wp2
          refine bodyPost_ret (results_none rfl _ _ _) rfl ?_
          exact ⟨⟨_, rfl⟩, .inr ⟨pre, r, [], by rw [hpr, ZW hi1 hr], hj6⟩⟩
      · obtain ⟨o, ho⟩ : ∃ o : Nat, indexByte r 10 = (o : Int) := ⟨(indexByte r 10).toNat, by omega⟩
        obtain ⟨hl1, hl2⟩ := y6t ho
        rw [ho] at hX'
        have hw : wrap64 ((o : Int) + 1) = (o : Int) + 1 := by unfold wrap64; omega
        have hoI : (0 : Int) ≤ (o : Int) := by omega
        have HT0 : Hid (TBox wr Bs r) := hT
        clear hS
        gi_wp2_with (refine ⟨trivial, ?_⟩; gi_at_call 87; refine hX'.mono ?_; rintro e w' ⟨rfl, rfl⟩)
        gi_region
        have hS := HS.out
        have e1 : S.extract 0 (o + 1) = yd (r.take (o + 1)) := by rw [hS, y05]; simp
        have e2 : S.extract (o + 1) r.length = yd (r.drop (o + 1)) := by rw [hS, y05, List.take_of_length_le (by simp)]
        rw [e1, e2]
        clear hS e1 e2 hX' hw hoI
        obtain ⟨W5, hW5⟩ : ∃ W5, (w'.setCell ⟨Bs, 0, none⟩ (.string (yd (r.drop (o + 1))))).drew = W5 := ⟨_, rfl⟩
        rw [hW5]
        have hT5 : TBox W5 Bs (r.drop (o + 1)) := hW5 ▸ hT.set (r.drop (o + 1))
        have hj5 : J pre W5 := hJ _ _ _ hj (hW5 ▸ (Ofw.set (S := fun k => k = Bs) _ rfl).trans (Ofw.of_below (Below.refl _ _).drew))
        obtain ⟨fn, tmps, assign, body, hy, hR⟩ := hY pre (r.take (o + 1)) (raws (r.drop (o + 1)) []) W5 (by rw [hpr, hl1]) hj5 (Nat.zero_le _)
        simp only [xA] at hy
        clear hc hf hT hW5
        gi_wp2
        refine hR.mono ?_
        rintro e W6 ⟨(⟨rfl, hj6⟩ | ⟨rfl, hj6⟩), _, hk6⟩
        · have hT6 : TBox W6 Bs (r.drop (o + 1)) := (hk6 Bs rfl).trans hT5
          gi_wp2
          go_roundw
          case rel => exact ⟨pre ++ [r.take (o + 1)], r.drop (o + 1), by rw [hpr, hl1, List.append_assoc]; rfl, by rw [List.length_drop]; omega, hT6, hj6⟩
          case measure => rw [hT6.len, HT0.out.len, List.length_drop]; omega
        · gi_wp2
          refine bodyPost_ret (results_none rfl _ _ _) rfl ?_
          exact ⟨⟨_, rfl⟩, .inr ⟨pre, r.take (o + 1), raws (r.drop (o + 1)) [], by rw [hpr, hl1], hj6⟩⟩
end Go.Proofs.YtjgghimjnbjlbaaGreatDoor

namespace Go.Proofs.YtjgghimjnbjlbaaGreatDoor
open Go.RowKit Go.Shelf Go.Lib
set_option maxRecDepth 10000
set_option maxHeartbeats 8000000
attribute [local go_sem] Oper.semAt_some
theorem XZ {P : Program} {m m' l l' : Nat} {f : FuncId} {tmps : Array Value} {assign body : Code} {w : World} {R : Ending → World → Prop} (h : RoundIn Fence.wide m P l f tmps assign body w R) : RoundIn (Fence.wide.inRound l') m' P l f tmps assign body w R := ⟨trivial, fun c cs _ => h.2 c cs (room_wide _)⟩
theorem zy {P : Program} {m l' : Nat} {f : FuncId} {args : Array Value} {w : World} {R : Ending → World → Prop} (h : Calls P f args w R) : CallsIn (Fence.wide.inRound l') m P f args w R := CallsIn.inRound l' (callsIn_wide.2 h)
theorem Q2 {e : Ending} {A B : Prop} (h : (e = .returned (.bool true) ∧ A) ∨ (e = .returned (.bool false) ∧ B)) : ∃ bv, e = .returned (.bool bv) ∧ ((bv = true ∧ A) ∨ (bv = false ∧ B)) := by
  rcases h with ⟨h, a⟩ | ⟨h, b⟩
  · exact ⟨true, h, .inl ⟨rfl, a⟩⟩
  · exact ⟨false, h, .inr ⟨rfl, b⟩⟩
def tr (x : List UInt8) : List UInt8 := trimSuffix x [10]
theorem y6w (x : List UInt8) (w : World) (hx : x.length ≤ 9000000) : Calls Tryz.prog 70 #[.string (yd x), .string ⟨#[10]⟩] w fun e w' => e = .returned (.string (yd (tr x))) ∧ w' = w := by
  refine (Tryz.strings_TrimSuffix (yd x) ⟨#[10]⟩ w (by rw [zA]; omega)).mono ?_
  rintro e w' ⟨rfl, rfl⟩
  rw [yS]
  exact ⟨rfl, rfl⟩
theorem y6x (n : Nat) (s : ByteArray) (w : World) : CallsIn Fence.wide n Tryz.prog 69 #[.string s] w fun e w' => e = .returned (.func (.func 86) #[] #[.pointer (some ⟨w.heap.size, 0, none⟩)]) ∧ w' = w.alloc (.cells #[.string s] 9) := by
  refine callsIn_of_wp Tryz.func69 rfl trivial ?_ rfl
  simp only [Tryz.ntmps69, List.size_toArray, List.length_cons, List.length_nil, Nat.reduceAdd, Nat.reduceSub, Array.replicate_succ, Array.replicate_zero, List.push_toArray, List.append_toArray, List.nil_append, List.cons_append]
  gi_wp2
  go_ret
  exact ⟨rfl, rfl⟩
theorem y5B (n : Nat) (s : ByteArray) (w : World) : CallsIn Fence.wide n Tryz.prog 51 #[.string s] w fun e w' => e = .returned (.func (.func 68) #[] #[.pointer (some ⟨w.heap.size, 0, none⟩)]) ∧ w' = w.alloc (.cells #[.string s] 9) := by
  refine callsIn_of_wp Tryz.func51 rfl trivial ?_ rfl
  simp only [Tryz.ntmps51, List.size_toArray, List.length_cons, List.length_nil, Nat.reduceAdd, Nat.reduceSub, Array.replicate_succ, Array.replicate_zero, List.push_toArray, List.append_toArray, List.nil_append, List.cons_append]
  gi_wp2
  go_ret
  exact ⟨rfl, rfl⟩
theorem y5C (n : Nat) (hn : 3 ≤ n) (Bl : Nat) (s : List UInt8) (hs : s.length ≤ 9000000) (w : World) (hB : TBox w Bl s) :
    SeqX Fence.wide n Tryz.prog 68 #[.pointer (some ⟨Bl, 0, none⟩)] xA (fun k => w.heap.size ≤ k ∧ k < w.heap.size + 4) (w.heap.size + 4) (lns s []) w := by
  intro l J J2 hJ hJ2 hY h0
  have h1 : 1 ≤ n := by omega
  have hBl : Bl < w.heap.size := (hLt hB)
  obtain ⟨N, hN⟩ : ∃ N, N = w.heap.size := ⟨_, rfl⟩
  obtain ⟨W1, hW1⟩ : ∃ W1, w.alloc (.cells #[.func (.yield l) #[] #[]] 125) = W1 := ⟨_, rfl⟩
  have hb1 : Below w.heap.size w W1 := hW1 ▸ (Below.refl _ _).alloc (Nat.le_refl _) _
  have hs1 : W1.heap.size = w.heap.size + 1 := by rw [← hW1]; simp
  have hc1 : W1.cell? ⟨Bl, 0, none⟩ = some (.string (yd s)) := TBox.cell ((hb1.block _ hBl).trans hB)
  have hX := y6x (n - 1) (yd s) W1
  refine callsIn_of_wp_marks Tryz.func68 rfl trivial ?_ rfl
  simp only [Tryz.ntmps68, List.size_toArray, List.length_cons, List.length_nil, Nat.reduceAdd, Nat.reduceSub, Array.replicate_succ, Array.replicate_zero, List.push_toArray, List.append_toArray, List.nil_append, List.cons_append]
  gi_wp2_with (refine ⟨trivial, ?_⟩; gi_at_call 69; refine hX.mono ?_; rintro e w' ⟨rfl, rfl⟩)
  obtain ⟨W2, hW2⟩ : ∃ W2, W1.alloc (.cells #[.string (yd s)] 9) = W2 := ⟨_, rfl⟩
  rw [hW2]
  have hb2 : Below W1.heap.size W1 W2 := hW2 ▸ (Below.refl _ _).alloc (Nat.le_refl _) _
  have hs2 : W2.heap.size = w.heap.size + 2 := by rw [← hW2]; simp [hs1]
  have hT2 : TBox W2 (w.heap.size + 1) s := by
    rw [← hs1, ← hW2]
    exact World.alloc_heap_new W1 _
  have hy2 : W2.heap[w.heap.size]? = some (.cells #[.func (.yield l) #[] #[]] 125) := (hb2.block _ (by omega)).trans (hW1 ▸ World.alloc_heap_new w _)
  have ho2 : Ofw (fun k => w.heap.size ≤ k ∧ k < w.heap.size + 4) w W2 := (Ofw.of_below hb1).trans (Ofw.of_below hb2)
  have hr : (raws s []).map tr = lns s [] := ZX s [] (by simp)
  clear hc1 hX hW1 hW2 hb1 hb2 hB
  refine KS (α := List UInt8) rfl h1 (gf := 86) (lb := #[.pointer (some ⟨w.heap.size + 1, 0, none⟩)]) rfl trivial (enters_of Tryz.func86 (by kernel_rfl) rfl) (encs := xA) (T := fun k => k = w.heap.size + 1) (M := 0) (xs := raws s []) (fun k hk => by omega)
    (fun W hb hsz => y6s (n - 1) (by omega) _ s hs W ((hb.block _ (by omega)).trans hT2) (fun t w => callsIn_wide.2 (by
      refine (Tryz.strings_IndexByte (yd t) 10 w).mono ?_
      rintro e w' ⟨rfl, rfl⟩
      rw [yS]
      exact ⟨rfl, rfl⟩))) (fun _ => rfl)
    (fun pre W => J (pre.map tr) W ∧ W.heap[w.heap.size]? = some (.cells #[.func (.yield l) #[] #[]] 125))
    (fun pre W => J2 (pre.map tr) W)
    (fun pre A B hs ho => ⟨hJ _ _ _ hs.1 (ho.less (fun k hk => by omega)), (ho.block _ (hLt hs.2) (by omega)).trans hs.2⟩)
    (fun pre A B hs ho => hJ2 _ _ _ hs (ho.less (fun k hk => by omega)))
    ⟨hJ _ _ _ h0 ho2, hy2⟩
    (fun x => { tmps := #[.func (.yield l) #[] #[], .pointer (some ⟨Bl, 0, none⟩), .pointer (some ⟨w.heap.size, 0, none⟩), .string (yd x), .string (yd s), .func (.func 86) #[] #[.pointer (some ⟨w.heap.size + 1, 0, none⟩)], .string (yd x), undef, undef, undef, undef, undef], defers := [] }) ?assign ?body ?done ?stop
  case assign =>
    intro l' x W K hK
    simp only [xA]
    gi_wp2
    exact hK
  case body =>
    rintro l' pre x post W hx ⟨hj, hbx⟩ _ hsz
    have hxl : x.length ≤ 9000000 := by
      have := ZY s [] x (by rw [hx]; simp)
      simp at this
      omega
    have hq : lns s [] = pre.map tr ++ tr x :: post.map tr := by rw [← hr, hx]; simp
    have hW3 : w.heap.size + 4 ≤ W.drew.heap.size := by show w.heap.size + 4 ≤ W.heap.size; omega
    obtain ⟨fn, tmps, assign, body, hy, hR⟩ := hY (pre.map tr) (tr x) (post.map tr) W.drew hq (hJ _ _ _ hj (Ofw.of_below (Below.refl _ _).drew)) hW3
    simp only [xA] at hy
    have hc : W.drew.cell? ⟨w.heap.size, 0, none⟩ = some (.func (.yield l) #[] #[]) := by show W.cell? _ = _; simp [World.cell?, hbx]
    have hX29 := y6w x W.drew hxl
    have hm : Tryz.prog.follows .mixedOrders = true := by kernel_rfl
    have hn1 : 1 ≤ n - 1 - 1 := by omega
    gi_wp2
    gi_region_with_o (first | (refine ⟨trivial, ?_⟩; gi_at_call 70; refine (zy hX29).mono ?_; rintro e w' ⟨rfl, hww⟩; rw [hww]; clear hww) | (refine (XZ hR).mono ?_; rintro e W6 ⟨hd6, hs6, hk6⟩; obtain ⟨bv, rfl, hj6⟩ := Q2 hd6; clear hd6; have HJ6 : Hid _ := hj6; clear hj6; have HK : Hid (∀ k, w.heap.size ≤ k ∧ k < w.heap.size + 4 → W6.heap[k]? = W.heap[k]?) := hk6; clear hk6))
    all_goals
      rcases HJ6.out with ⟨rfl, hj6⟩ | ⟨rfl, hj6⟩
      · have HJ7 : Hid (J (pre.map tr ++ [tr x]) W6) := hj6
        clear hj6 HJ6
        gi_wp2
        exact ⟨⟨HJ7.out, (HK.out _ (by omega)).trans hbx⟩, hs6, HK.out _ (by omega), HK.out _ (by omega), HK.out _ (by omega)⟩
      · have HJ7 : Hid (J2 (pre.map tr ++ [tr x]) W6) := hj6
        clear hj6 HJ6
        gi_wp2
        exact ⟨HJ7.out, hs6, HK.out _ (by omega), HK.out _ (by omega), HK.out _ (by omega)⟩
  case done =>
    rintro W ⟨hj, _⟩ hK
    gi_wp2
    refine ⟨by simp, .inl ⟨_, _, rfl, run_takeDeferred hK, ?_⟩⟩
    exact ⟨_, results_none rfl _ _ _, ⟨_, rfl⟩, .inl (hr ▸ hJ _ _ _ hj (yW W _ _ (by omega)))⟩
  case stop =>
    rintro pre x post W hx hj hK
    gi_wp2
    refine ⟨by simp, .inl ⟨_, _, rfl, run_takeDeferred hK, ?_⟩⟩
    refine ⟨_, results_none rfl _ _ _, ⟨_, rfl⟩, .inr ⟨pre.map tr, tr x, post.map tr, by rw [← hr, hx]; simp, hJ2 _ _ _ (by rw [List.map_append] at hj; exact hj) (yW W _ _ (by omega))⟩⟩
end Go.Proofs.YtjgghimjnbjlbaaGreatDoor

namespace Go.Proofs.YtjgghimjnbjlbaaGreatDoor
open Go.RowKit Go.Shelf Go.Lib
set_option maxRecDepth 10000
set_option maxHeartbeats 8000000
attribute [local go_sem] Oper.semAt_some
theorem x7 {S : Nat → Prop} {w w' : World} {B : Nat} {e : TypeId} {size : Nat} {v : Value} {n : Nat} {xs : List Value} (h : w.ownsRow B e size v n xs) (hS : ∀ g, v.ownBlock = some g → ¬ S g) (ho : Ofw S w w') : w'.ownsRow B e size v n xs := by
  refine ⟨h.1, ?_⟩
  rcases h.2 with h1 | ⟨g, cap, cur, hv, hg, hc, h2⟩
  · exact .inl h1
  · refine .inr ⟨g, cap, cur, hv, hg, ?_, h2⟩
    rw [ho.block g (hLt hc) (hS g (by rw [hv]; rfl))]
    exact hc
theorem y5A {w : World} {P B e size : Nat} {v : Value} {n : Nat} {xs : List Value} (h : w.ownsRow B e size v n xs) (hP : P < B) (i : Nat) (u : Value) : (w.setCell ⟨P, i, none⟩ u).ownsRow B e size v n xs := x7 (S := fun k => k = P) h (fun g hg e => by have := (h.lt g hg).1; have e' : g = P := e; omega) (Ofw.set _ rfl)
theorem xJ {w w' : World} {B e size : Nat} {v : Value} {n : Nat} {xs : List Value} (h : w.ownsRow B e size v n xs) (hb : Below w.heap.size w w') : w'.ownsRow B e size v n xs := x7 (S := fun _ => False) h (fun _ _ f => f) (Ofw.of_below hb)
theorem YT {w : World} {b : Nat} {u : Value} {t : TypeId} (h : w.heap[b]? = some (.cells #[u] t (0, 0))) (hu : u.oneCell' = true) : xw w (.slice (some ⟨b, 0, none⟩) 1 1) 1 1 [u] :=
  ⟨_, _, rfl, rfl, (fun v hv => by rw [List.mem_singleton.1 hv]; exact hu), (fun e => by cases e), fun ad e j v hj => by
    injection e with e
    subst e
    exact World.news_of_block h j v hj⟩
theorem YU : Tryz.prog.underlying 60 = some (.slice 9) := by kernel_rfl
theorem YV : (Tryz.prog.info? 9).map (fun i => (i.zero, i.size, i.bytes)) = some (some (.string ⟨#[]⟩), 1, 16) := by kernel_rfl
def Zq (s : ByteArray) (w : World) (e : Ending) (w' : World) : Prop := ∃ v, e = .returned v ∧ w'.ownsRow w.heap.size 9 1 v (lns s.data.toList []).length ((lns s.data.toList []).map fun l => .string (yd l)) ∧ Below w.heap.size w w'
theorem YW {w W V w5 : World} {n : Nat} {v u : Value} {xs ys : List Value} (hbl : Below w.heap.size w W.drew) (hM : w.heap.size + 8 ≤ W.heap.size) (hb : Below W.drew.heap.size W.drew V) (hg : V.grownBy w5 v.ownBlock) (hrow5 : w5.ownsRow (w.heap.size + 8) 9 1 u (n + 1) ys) (hrow : W.drew.ownsRow (w.heap.size + 8) 9 1 v n xs) (hx5 : w5.heap[w.heap.size]? = some (.cells #[v] 60)) :
    (∃ v, (w5.setCell ⟨w.heap.size, 0, none⟩ u).heap[w.heap.size]? = some (Obj.cells #[v] 60) ∧ (w5.setCell ⟨w.heap.size, 0, none⟩ u).ownsRow (w.heap.size + 8) 9 1 v (n + 1) ys ∧ Below w.heap.size w (w5.setCell ⟨w.heap.size, 0, none⟩ u)) ∧ W.heap.size ≤ w5.heap.size ∧
      ∀ (k : Nat), w.heap.size + 4 ≤ k ∧ k < w.heap.size + 8 ∨ k = w.heap.size + 2 ∨ k = w.heap.size + 2 + 1 → (w5.setCell ⟨w.heap.size, 0, none⟩ u).heap[k]? = W.heap[k]? := by
  have hlow : ∀ k, k < w.heap.size + 8 → w5.heap[k]? = W.heap[k]? := fun k hk => by
    have h1 : k < W.drew.heap.size := Nat.lt_of_lt_of_le hk hM
    refine (hg.block k (Nat.lt_of_lt_of_le h1 hb.size) (fun e => ?_)).trans (hb.block k h1)
    have := (hrow.lt k e.symm).1
    omega
  have hset : ∀ k, k ≠ w.heap.size → (w5.setCell ⟨w.heap.size, 0, none⟩ u).heap[k]? = w5.heap[k]? := fun k hne => Below.heap_setCell _ ⟨w.heap.size, 0, none⟩ _ k hne
  have hsz : W.heap.size ≤ w5.heap.size := Nat.le_trans hb.size hg.size
  refine ⟨⟨u, by simp [World.setCell, Array.getElem?_modify, hx5], y5A hrow5 (by omega) 0 u, hg.os.trans (hb.os.trans hbl.os), hg.tape.trans (hb.tape.trans hbl.tape), hg.output.trans (hb.output.trans hbl.output), ?_, fun k hk => ?_⟩, hsz, fun k hk => ?_⟩
  · show w.heap.size ≤ (w5.setCell ⟨w.heap.size, 0, none⟩ u).heap.size
    simp [World.setCell]
    omega
  · rw [hset k (by omega), hlow k (by omega)]
    exact hbl.block k hk
  · rw [hset k (by omega), hlow k (by omega)]
theorem YX {A V w5 : World} {B N n : Nat} {v u : Value} {xs : List Value} (hb : Below A.heap.size A V) (hg : V.grownBy w5 v.ownBlock) (hr : A.ownsRow B 9 1 v n xs) (hN : N < B) (hx : A.heap[N]? = some (.cells #[u] 60)) : w5.heap[N]? = some (.cells #[u] 60) := by
  have h1 := (hLt hx)
  refine (hg.block N (Nat.lt_of_lt_of_le h1 hb.size) (fun e => ?_)).trans ((hb.block N h1).trans hx)
  have := (hr.lt N e.symm).1
  omega
theorem YY {F : Fence} {nn : Nat} {P : Program} {ops : Array Oper} {o : Oper} {a : Act} {Q : Exit → Act → World → Prop} {K : Act → World → Prop} (w : World) (s x : Operand) (t e : TypeId) (z : Value) (size bytes : Nat)
    (ho : o.op = .call { callee := .builtin .append, args := #[s, x], argTypes := #[t, t] }) (ht : P.underlying t = some (.slice e)) (hinfo : (P.info? e).map (fun i => (i.zero, i.size, i.bytes)) = some (some z, size, bytes)) (hzs : z.cells.size = size) (hsz : 0 < size)
    (base : Nat) (v xv : Value) (n m : Nat) (xs news : List Value) (hs : a.eval s = v) (hx : a.eval x = xv) (hown : w.ownsRow base e size v n xs) (hsrc : xw w xv m size news) (h63 : n + m ≤ maxLen) (hbytes : (n + m) * bytes ≤ 140737488355328) (hbase : base ≤ w.heap.size) (hm : 0 < m) (hw : Region.wanted o (yielded ops a.tmps) = true)
    (h : ∀ v' w', w'.ownsRow base e size v' (n + m) (xs ++ news) → w.grownBy w' v.ownBlock → K (a.put o.dst v') w') : if Region.wanted o (yielded ops a.tmps) = true then Oper.wpIn F nn P o a w K Q else (∀ f, o.about P w a.eval = some f → F.fn f) ∧ K (a.put o.dst undef) w := by
  rw [if_pos hw]
  obtain ⟨i0, hi, hz0, hz1, hz2⟩ := Ym hinfo
  obtain ⟨ad, c, rfl, hl, h1, hnil, hcells⟩ := hsrc
  cases ad with
  | none => exact absurd (hnil rfl) (by omega)
  | some ad =>
    obtain ⟨v', w', hr, h2, h3, h4⟩ := ZA (P := P) w base t o.type e i0 z size bytes ht hi hz0 hz1 hz2 hzs hsz v n xs hown ad m c news hl (hcells ad rfl) h1 h63 hbytes hbase
    refine ⟨by simp [Oper.about, ho, resolve, Target.leads, Sem.run_pure], ?_⟩
    rw [Oper.semAt_plain F _ _ (by rw [ho]; intro c hc; cases hc)]
    unfold execOp
    simp only [ho, resolve, invoke, builtin, Sem.run_bind, Sem.run_pure, Result.andThen_ok, List.map_toArray, List.map_cons, List.map_nil, hs, hx, hr]
    exact h v' w' h2 h3
theorem y1R (s : ByteArray) (w : World) (hs : s.size ≤ 9000000) : Calls Tryz.prog 22 #[.string s] w (Zq s w) := by
  refine (callsIn_wide (n := 5)).1 ?_
  obtain ⟨W1, hW1⟩ : ∃ W1, w.alloc (.cells #[.slice none 0 0] 60) = W1 := ⟨_, rfl⟩
  have hb1 : Below w.heap.size w W1 := hW1 ▸ (Below.refl _ _).alloc (Nat.le_refl _) _
  have hs1 : W1.heap.size = w.heap.size + 1 := by rw [← hW1]; simp
  have hX := y5B 4 s W1
  refine callsIn_of_wp_marks Tryz.func22 rfl trivial ?_ rfl
  simp only [Tryz.ntmps22, List.size_toArray, List.length_cons, List.length_nil, Nat.reduceAdd, Nat.reduceSub, Array.replicate_succ, Array.replicate_zero, List.push_toArray, List.append_toArray, List.nil_append, List.cons_append]
  gi_wp2_with (refine ⟨trivial, ?_⟩; gi_at_call 51; refine hX.mono ?_; rintro e w' ⟨rfl, rfl⟩)
  obtain ⟨W2, hW2⟩ : ∃ W2, W1.alloc (.cells #[.string s] 9) = W2 := ⟨_, rfl⟩
  rw [hW2]
  have hb2 : Below W1.heap.size W1 W2 := hW2 ▸ (Below.refl _ _).alloc (Nat.le_refl _) _
  have hs2 : W2.heap.size = w.heap.size + 2 := by rw [← hW2]; simp [hs1]
  have hT2 : TBox W2 (w.heap.size + 1) s.data.toList := by
    rw [← hs1, ← hW2]
    exact World.alloc_heap_new W1 _
  have hy2 : W2.heap[w.heap.size]? = some (.cells #[.slice none 0 0] 60) := (hb2.block _ (by omega)).trans (hW1 ▸ World.alloc_heap_new w _)
  have hbw : Below w.heap.size w W2 := hb1.trans (hb2.mono hb1.size)
  clear hX hW1 hW2 hb1 hb2
  refine KS (α := List UInt8) rfl (by omega) (gf := 68) (lb := #[.pointer (some ⟨w.heap.size + 1, 0, none⟩)]) rfl trivial (enters_of Tryz.func68 (by kernel_rfl) rfl) (encs := xA) (T := fun k => w.heap.size + 4 ≤ k ∧ k < w.heap.size + 8) (M := w.heap.size + 8) (xs := lns s.data.toList []) (fun k hk => by omega)
    (fun W hb hsz => by
      have := y5C 4 (by omega) (w.heap.size + 1) s.data.toList (by have h := hs; rw [Lib.size_eq] at h; exact h) W ((hb.block _ (by omega)).trans hT2)
      rw [hsz, hs2] at this
      exact this) (fun _ => rfl)
    (fun pre W => ∃ v, W.heap[w.heap.size]? = some (.cells #[v] 60) ∧ W.ownsRow (w.heap.size + 8) 9 1 v pre.length (pre.map fun l => .string (yd l)) ∧ Below w.heap.size w W)
    (fun _ _ => False)
    (fun pre A B hh ho => by
      obtain ⟨v, h1, h2, h3⟩ := hh
      refine ⟨v, (ho.block _ (hLt h1) (by omega)).trans h1, x7 h2 (fun g hg => ?_) ho, ho.os.trans h3.os, ho.tape.trans h3.tape, ho.output.trans h3.output, Nat.le_trans h3.size ho.size, fun k hk => (ho.block k (Nat.lt_of_lt_of_le hk h3.size) (by omega)).trans (h3.block k hk)⟩
      have := (h2.lt g hg).1
      omega)
    (fun _ _ _ h _ => h)
    ⟨.slice none 0 0, hy2, yw _ _ _ _, hbw⟩
    (fun x => { tmps := #[.string s, undef, .slice none 0 0, .pointer (some ⟨w.heap.size, 0, none⟩), .string (yd x), .string s, .func (.func 68) #[] #[.pointer (some ⟨w.heap.size + 1, 0, none⟩)], .string (yd x), undef, undef, undef, undef, undef, undef], defers := [] }) ?assign ?body ?done ?stop
  case assign =>
    intro l' x W K hK
    simp only [xA]
    gi_wp2
    exact hK
  case body =>
    rintro l' pre x post W hx ⟨v, hbx, hrow, hbl⟩ hM hsz
    have hql : (lns s.data.toList []).length ≤ 9000001 := by
      have := YA s.data.toList []
      have h := hs
      rw [Lib.size_eq] at h
      omega
    have hpl : pre.length ≤ 9000001 := by
      rw [hx] at hql
      simp at hql
      omega
    have hxl : (yd x).size ≤ 9000000 := by
      have h := Yz s.data.toList [] x (by rw [hx]; simp)
      have h' := hs
      rw [Lib.size_eq] at h'
      rw [zA]
      simp at h h'
      omega
    obtain ⟨va, vc, hv⟩ := xK hrow
    subst hv
    have HC : Hid (Calls Tryz.prog 52 #[.string (yd x)] W.drew fun e w' => e = .returned (.string (yd x)) ∧ Below W.drew.heap.size W.drew w') := KT (yd x) W.drew (by omega)
    have hm : Tryz.prog.follows .mixedOrders = true := by kernel_rfl
    have hlt : w.heap.size < W.drew.heap.size := (hLt hbx)
    have hc : W.drew.cell? ⟨w.heap.size, 0, none⟩ = some (.slice va pre.length vc) := by show W.cell? _ = _; simp [World.cell?, hbx]
    have hbx' : W.drew.heap[w.heap.size]? = some (.cells #[.slice va pre.length vc] 60) := hbx
    have hrow' : W.drew.ownsRow (w.heap.size + 8) 9 1 (.slice va pre.length vc) pre.length (pre.map fun l => .string (yd l)) := hrow
    have hbl' : Below w.heap.size w W.drew := hbl.trans ((Below.refl _ W).drew)
    gi_wp2
    refine wpIn_region_any hm ?_
    change wpAnyIn _ _ _ _ _ _ _ _ _ (World.drew _)
    refine wpAnyIn_ready (rs := [0, 1]) (by kernel_rfl) (by simp) ?_
    refine AllReadyIn.cons rfl (fun K hK => ?_) (AllReadyIn.cons rfl (fun K hK => ?_) AllReadyIn.nil)
    · go_simp
      refine hK _ _ ?_
      clear hK K
      refine wpAnyIn_ready (rs := [1]) (by kernel_rfl) (by simp) ?_
      refine AllReadyIn.cons rfl (fun K hK => ?_) AllReadyIn.nil
      go_simp
      refine hK _ _ ?_
      clear hK K
      refine wpAnyIn_ready (rs := [2]) (by kernel_rfl) (by simp) ?_
      refine AllReadyIn.cons rfl (fun K hK => ?_) AllReadyIn.nil
      go_simp
      gi_wp2_with (refine ⟨trivial, ?_⟩; gi_at_call 52; refine (zy HC.out).mono ?_; rintro e W3 ⟨rfl, hb3⟩; have HW3 : Hid (Below W.drew.heap.size W.drew W3) := hb3; clear hb3)
      have hc3 : W3.cell? ⟨w.heap.size, 0, none⟩ = some (.slice va pre.length vc) := (HW3.out.cell (p := ⟨w.heap.size, 0, none⟩) hlt).trans hc
      try (refine hK _ _ ?_; clear hK K)
      refine wpAnyIn_ready (rs := [3]) (by kernel_rfl) (by simp) ?_
      refine AllReadyIn.cons rfl (fun K hK => ?_) AllReadyIn.nil
      obtain ⟨V1, hV1⟩ : ∃ V, W3.alloc (.cells #[.string (yd x)] 9) = V := ⟨_, rfl⟩
      have hc4 : V1.cell? ⟨w.heap.size, 0, none⟩ = some (.slice va pre.length vc) := by
        rw [← hV1]
        exact (((Below.refl _ W3).alloc (Nat.le_refl _) _).cell (p := ⟨w.heap.size, 0, none⟩) (Nat.lt_of_lt_of_le hlt HW3.out.size)).trans hc3
      go_simp
      try rw [hV1]
      refine hK _ _ ?_
      clear hK K
      refine wpAnyIn_ready (rs := [4]) (by kernel_rfl) (by simp) ?_
      refine AllReadyIn.cons rfl (fun K hK => ?_) AllReadyIn.nil
      have hbV : Below W3.heap.size W3 V1 := hV1 ▸ (Below.refl _ _).alloc (Nat.le_refl _) _
      have hsV : V1.heap.size = W3.heap.size + 1 := by rw [← hV1]; simp
      refine YY V1 (.tmp 8) (.tmp 11) 60 9 (.string ⟨#[]⟩) 1 16 rfl YU YV rfl (by decide) (w.heap.size + 8) (.slice va pre.length vc) (.slice (some ⟨W3.heap.size, 0, none⟩) 1 1) pre.length 1 (pre.map fun l => .string (yd l)) [.string (yd x)] (by rfl) (by rfl) (xJ (xJ hrow' HW3.out) hbV) (YT (t := 9) (hV1 ▸ World.alloc_heap_new W3 _) rfl) (by unfold maxLen; omega) (by omega) (by have := HW3.out.size; have h : w.heap.size + 8 ≤ W.drew.heap.size := hM; omega) (by omega) (by rfl) ?_
      intro v5 w5 g1 g2
      obtain ⟨x5, y5, hv5⟩ := xK g1
      subst hv5
      have HE : Hid ((w5.ownsRow (w.heap.size + 8) 9 1 (.slice x5 (pre.length + 1) y5) (pre.length + 1) ((pre.map fun l => .string (yd l)) ++ [.string (yd x)])) ∧ V1.grownBy w5 (Value.slice va pre.length vc).ownBlock ∧ Below W.drew.heap.size W.drew V1) := ⟨g1, g2, HW3.out.trans (hbV.mono HW3.out.size)⟩
      have hx5 := YX HE.out.2.2 HE.out.2.1 hrow' (by omega) hbx'
      have hc5 : w5.cell? ⟨w.heap.size, 0, none⟩ = some (.slice va pre.length vc) := by simp [World.cell?, hx5]
      have hf5 : w5.frozen? ⟨w.heap.size, 0, none⟩ = false := by simp [World.frozen?, hx5]
      clear g1 g2
      refine hK _ _ ?_
      clear hK K
      refine wpAnyIn_ready (rs := [5]) (by kernel_rfl) (by simp) ?_
      refine AllReadyIn.cons rfl (fun K hK => ?_) AllReadyIn.nil
      go_simp
      refine hK _ _ ?_
      clear hK K
      refine wpAnyIn_done (by kernel_rfl) ?_ _
      gi_wp2
      exact YW hbl' hM HE.out.2.2 HE.out.2.1 HE.out.1 hrow' hx5
    · go_simp
      refine hK _ _ ?_
      clear hK K
      refine wpAnyIn_ready (rs := [0, 2]) (by kernel_rfl) (by simp) ?_
      refine AllReadyIn.cons rfl (fun K hK => ?_) (AllReadyIn.cons rfl (fun K hK => ?_) AllReadyIn.nil)
      · go_simp
        refine hK _ _ ?_
        clear hK K
        refine wpAnyIn_ready (rs := [2]) (by kernel_rfl) (by simp) ?_
        refine AllReadyIn.cons rfl (fun K hK => ?_) AllReadyIn.nil
        go_simp
        gi_wp2_with (refine ⟨trivial, ?_⟩; gi_at_call 52; refine (zy HC.out).mono ?_; rintro e W3 ⟨rfl, hb3⟩; have HW3 : Hid (Below W.drew.heap.size W.drew W3) := hb3; clear hb3)
        have hc3 : W3.cell? ⟨w.heap.size, 0, none⟩ = some (.slice va pre.length vc) := (HW3.out.cell (p := ⟨w.heap.size, 0, none⟩) hlt).trans hc
        try (refine hK _ _ ?_; clear hK K)
        refine wpAnyIn_ready (rs := [3]) (by kernel_rfl) (by simp) ?_
        refine AllReadyIn.cons rfl (fun K hK => ?_) AllReadyIn.nil
        obtain ⟨V1, hV1⟩ : ∃ V, W3.alloc (.cells #[.string (yd x)] 9) = V := ⟨_, rfl⟩
        have hc4 : V1.cell? ⟨w.heap.size, 0, none⟩ = some (.slice va pre.length vc) := by
          rw [← hV1]
          exact (((Below.refl _ W3).alloc (Nat.le_refl _) _).cell (p := ⟨w.heap.size, 0, none⟩) (Nat.lt_of_lt_of_le hlt HW3.out.size)).trans hc3
        go_simp
        try rw [hV1]
        refine hK _ _ ?_
        clear hK K
        refine wpAnyIn_ready (rs := [4]) (by kernel_rfl) (by simp) ?_
        refine AllReadyIn.cons rfl (fun K hK => ?_) AllReadyIn.nil
        have hbV : Below W3.heap.size W3 V1 := hV1 ▸ (Below.refl _ _).alloc (Nat.le_refl _) _
        have hsV : V1.heap.size = W3.heap.size + 1 := by rw [← hV1]; simp
        refine YY V1 (.tmp 8) (.tmp 11) 60 9 (.string ⟨#[]⟩) 1 16 rfl YU YV rfl (by decide) (w.heap.size + 8) (.slice va pre.length vc) (.slice (some ⟨W3.heap.size, 0, none⟩) 1 1) pre.length 1 (pre.map fun l => .string (yd l)) [.string (yd x)] (by rfl) (by rfl) (xJ (xJ hrow' HW3.out) hbV) (YT (t := 9) (hV1 ▸ World.alloc_heap_new W3 _) rfl) (by unfold maxLen; omega) (by omega) (by have := HW3.out.size; have h : w.heap.size + 8 ≤ W.drew.heap.size := hM; omega) (by omega) (by rfl) ?_
        intro v5 w5 g1 g2
        obtain ⟨x5, y5, hv5⟩ := xK g1
        subst hv5
        have HE : Hid ((w5.ownsRow (w.heap.size + 8) 9 1 (.slice x5 (pre.length + 1) y5) (pre.length + 1) ((pre.map fun l => .string (yd l)) ++ [.string (yd x)])) ∧ V1.grownBy w5 (Value.slice va pre.length vc).ownBlock ∧ Below W.drew.heap.size W.drew V1) := ⟨g1, g2, HW3.out.trans (hbV.mono HW3.out.size)⟩
        have hx5 := YX HE.out.2.2 HE.out.2.1 hrow' (by omega) hbx'
        have hc5 : w5.cell? ⟨w.heap.size, 0, none⟩ = some (.slice va pre.length vc) := by simp [World.cell?, hx5]
        have hf5 : w5.frozen? ⟨w.heap.size, 0, none⟩ = false := by simp [World.frozen?, hx5]
        clear g1 g2
        refine hK _ _ ?_
        clear hK K
        refine wpAnyIn_ready (rs := [5]) (by kernel_rfl) (by simp) ?_
        refine AllReadyIn.cons rfl (fun K hK => ?_) AllReadyIn.nil
        go_simp
        refine hK _ _ ?_
        clear hK K
        refine wpAnyIn_done (by kernel_rfl) ?_ _
        gi_wp2
        exact YW hbl' hM HE.out.2.2 HE.out.2.1 HE.out.1 hrow' hx5
      · go_simp
        gi_wp2_with (refine ⟨trivial, ?_⟩; gi_at_call 52; refine (zy HC.out).mono ?_; rintro e W3 ⟨rfl, hb3⟩; have HW3 : Hid (Below W.drew.heap.size W.drew W3) := hb3; clear hb3)
        have hc3 : W3.cell? ⟨w.heap.size, 0, none⟩ = some (.slice va pre.length vc) := (HW3.out.cell (p := ⟨w.heap.size, 0, none⟩) hlt).trans hc
        try (refine hK _ _ ?_; clear hK K)
        refine wpAnyIn_ready (rs := [0, 3]) (by kernel_rfl) (by simp) ?_
        refine AllReadyIn.cons rfl (fun K hK => ?_) (AllReadyIn.cons rfl (fun K hK => ?_) AllReadyIn.nil)
        · go_simp
          refine hK _ _ ?_
          clear hK K
          refine wpAnyIn_ready (rs := [3]) (by kernel_rfl) (by simp) ?_
          refine AllReadyIn.cons rfl (fun K hK => ?_) AllReadyIn.nil
          obtain ⟨V1, hV1⟩ : ∃ V, W3.alloc (.cells #[.string (yd x)] 9) = V := ⟨_, rfl⟩
          have hc4 : V1.cell? ⟨w.heap.size, 0, none⟩ = some (.slice va pre.length vc) := by
            rw [← hV1]
            exact (((Below.refl _ W3).alloc (Nat.le_refl _) _).cell (p := ⟨w.heap.size, 0, none⟩) (Nat.lt_of_lt_of_le hlt HW3.out.size)).trans hc3
          go_simp
          try rw [hV1]
          refine hK _ _ ?_
          clear hK K
          refine wpAnyIn_ready (rs := [4]) (by kernel_rfl) (by simp) ?_
          refine AllReadyIn.cons rfl (fun K hK => ?_) AllReadyIn.nil
          have hbV : Below W3.heap.size W3 V1 := hV1 ▸ (Below.refl _ _).alloc (Nat.le_refl _) _
          have hsV : V1.heap.size = W3.heap.size + 1 := by rw [← hV1]; simp
          refine YY V1 (.tmp 8) (.tmp 11) 60 9 (.string ⟨#[]⟩) 1 16 rfl YU YV rfl (by decide) (w.heap.size + 8) (.slice va pre.length vc) (.slice (some ⟨W3.heap.size, 0, none⟩) 1 1) pre.length 1 (pre.map fun l => .string (yd l)) [.string (yd x)] (by rfl) (by rfl) (xJ (xJ hrow' HW3.out) hbV) (YT (t := 9) (hV1 ▸ World.alloc_heap_new W3 _) rfl) (by unfold maxLen; omega) (by omega) (by have := HW3.out.size; have h : w.heap.size + 8 ≤ W.drew.heap.size := hM; omega) (by omega) (by rfl) ?_
          intro v5 w5 g1 g2
          obtain ⟨x5, y5, hv5⟩ := xK g1
          subst hv5
          have HE : Hid ((w5.ownsRow (w.heap.size + 8) 9 1 (.slice x5 (pre.length + 1) y5) (pre.length + 1) ((pre.map fun l => .string (yd l)) ++ [.string (yd x)])) ∧ V1.grownBy w5 (Value.slice va pre.length vc).ownBlock ∧ Below W.drew.heap.size W.drew V1) := ⟨g1, g2, HW3.out.trans (hbV.mono HW3.out.size)⟩
          have hx5 := YX HE.out.2.2 HE.out.2.1 hrow' (by omega) hbx'
          have hc5 : w5.cell? ⟨w.heap.size, 0, none⟩ = some (.slice va pre.length vc) := by simp [World.cell?, hx5]
          have hf5 : w5.frozen? ⟨w.heap.size, 0, none⟩ = false := by simp [World.frozen?, hx5]
          clear g1 g2
          refine hK _ _ ?_
          clear hK K
          refine wpAnyIn_ready (rs := [5]) (by kernel_rfl) (by simp) ?_
          refine AllReadyIn.cons rfl (fun K hK => ?_) AllReadyIn.nil
          go_simp
          refine hK _ _ ?_
          clear hK K
          refine wpAnyIn_done (by kernel_rfl) ?_ _
          gi_wp2
          exact YW hbl' hM HE.out.2.2 HE.out.2.1 HE.out.1 hrow' hx5
        · obtain ⟨V1, hV1⟩ : ∃ V, W3.alloc (.cells #[.string (yd x)] 9) = V := ⟨_, rfl⟩
          have hc4 : V1.cell? ⟨w.heap.size, 0, none⟩ = some (.slice va pre.length vc) := by
            rw [← hV1]
            exact (((Below.refl _ W3).alloc (Nat.le_refl _) _).cell (p := ⟨w.heap.size, 0, none⟩) (Nat.lt_of_lt_of_le hlt HW3.out.size)).trans hc3
          go_simp
          try rw [hV1]
          refine hK _ _ ?_
          clear hK K
          refine wpAnyIn_ready (rs := [0]) (by kernel_rfl) (by simp) ?_
          refine AllReadyIn.cons rfl (fun K hK => ?_) AllReadyIn.nil
          go_simp
          refine hK _ _ ?_
          clear hK K
          refine wpAnyIn_ready (rs := [4]) (by kernel_rfl) (by simp) ?_
          refine AllReadyIn.cons rfl (fun K hK => ?_) AllReadyIn.nil
          have hbV : Below W3.heap.size W3 V1 := hV1 ▸ (Below.refl _ _).alloc (Nat.le_refl _) _
          have hsV : V1.heap.size = W3.heap.size + 1 := by rw [← hV1]; simp
          refine YY V1 (.tmp 8) (.tmp 11) 60 9 (.string ⟨#[]⟩) 1 16 rfl YU YV rfl (by decide) (w.heap.size + 8) (.slice va pre.length vc) (.slice (some ⟨W3.heap.size, 0, none⟩) 1 1) pre.length 1 (pre.map fun l => .string (yd l)) [.string (yd x)] (by rfl) (by rfl) (xJ (xJ hrow' HW3.out) hbV) (YT (t := 9) (hV1 ▸ World.alloc_heap_new W3 _) rfl) (by unfold maxLen; omega) (by omega) (by have := HW3.out.size; have h : w.heap.size + 8 ≤ W.drew.heap.size := hM; omega) (by omega) (by rfl) ?_
          intro v5 w5 g1 g2
          obtain ⟨x5, y5, hv5⟩ := xK g1
          subst hv5
          have HE : Hid ((w5.ownsRow (w.heap.size + 8) 9 1 (.slice x5 (pre.length + 1) y5) (pre.length + 1) ((pre.map fun l => .string (yd l)) ++ [.string (yd x)])) ∧ V1.grownBy w5 (Value.slice va pre.length vc).ownBlock ∧ Below W.drew.heap.size W.drew V1) := ⟨g1, g2, HW3.out.trans (hbV.mono HW3.out.size)⟩
          have hx5 := YX HE.out.2.2 HE.out.2.1 hrow' (by omega) hbx'
          have hc5 : w5.cell? ⟨w.heap.size, 0, none⟩ = some (.slice va pre.length vc) := by simp [World.cell?, hx5]
          have hf5 : w5.frozen? ⟨w.heap.size, 0, none⟩ = false := by simp [World.frozen?, hx5]
          clear g1 g2
          refine hK _ _ ?_
          clear hK K
          refine wpAnyIn_ready (rs := [5]) (by kernel_rfl) (by simp) ?_
          refine AllReadyIn.cons rfl (fun K hK => ?_) AllReadyIn.nil
          go_simp
          refine hK _ _ ?_
          clear hK K
          refine wpAnyIn_done (by kernel_rfl) ?_ _
          gi_wp2
          exact YW hbl' hM HE.out.2.2 HE.out.2.1 HE.out.1 hrow' hx5
  case done =>
    rintro W ⟨v, hbx, hrow, hbl⟩ hK
    have hc : W.cell? ⟨w.heap.size, 0, none⟩ = some v := by simp [World.cell?, hbx]
    gi_wp2
    refine ⟨by simp, .inl ⟨_, _, rfl, run_takeDeferred hK, ?_⟩⟩
    have hp := yW (S := fun k => k = W2.heap.size) W W2.heap.size (.deferred none) rfl
    have hrow2 : (W.putObj W2.heap.size (.deferred none)).ownsRow (w.heap.size + 8) 9 1 v (lns s.data.toList []).length ((lns s.data.toList []).map fun l => .string (yd l)) := x7 hrow (fun g hg e => by have := (hrow.lt g hg).1; omega) hp
    exact ⟨_, results_tmp rfl _ _ _, v, rfl, yM hrow2 (by omega), hp.os.trans hbl.os, hp.tape.trans hbl.tape, hp.output.trans hbl.output, Nat.le_trans hbl.size hp.size, fun k hk => (hp.block k (Nat.lt_of_lt_of_le hk hbl.size) (by omega)).trans (hbl.block k hk)⟩
  case stop => exact fun _ _ _ _ _ h _ => h.elim
end Go.Proofs.YtjgghimjnbjlbaaGreatDoor
