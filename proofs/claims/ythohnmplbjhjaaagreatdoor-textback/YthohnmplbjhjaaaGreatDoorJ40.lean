/-
  Put together: TrLen, TrRng3.
-/
import Derived.Test.YthohnmplbjhjaaaGreatDoorJ35
import Derived.Test.YthohnmplbjhjaaaGreatDoorJ22
namespace Go.Proofs.YthohnmplbjhjaaaGreatDoor
open Go Go.RowKit
theorem xn (s : St) : (ye s).2.1.length ≤ s.1.length := (zT (Nat.le_refl _)).2
theorem ZS (V : List Md.Vr) (x : List UInt8) (s : St) : (yE V x s).2.1.length ≤ s.1.length := Nat.le_of_eq (congrArg List.length (Z7 V x s))
theorem xD (V : List Md.Vr) (s : St) : (yx V s).2.1.length ≤ s.1.length := Nat.le_trans (ZS _ _ _) (xn s)
theorem xQ {p : Prop} [Decidable p] {a b s : St} (ha : a.1 = s.1) (hb : b.1 = s.1) : (if p then a else b).1 = s.1 := by split; exact ha; exact hb
theorem y3I (V : List Md.Vr) (s : St) : (newT V s).2.1.length ≤ s.1.length := by
  have h : (newT V s).2.1 = (ye s).2.1 := by
    unfold newT
    refine xQ ((yR _ _).trans ?_) ?_
    · exact xQ rfl (yR _ _)
    · exact xQ rfl (yR _ _)
  rw [h]
  exact xn s
theorem Qq (s : St) : (rdOp s).2.1.length ≤ s.1.length := by
  have h : (rdOp s).2.1 = (ye s).2.1 := by
    unfold rdOp
    exact xQ (yR _ _) rfl
  rw [h]
  exact xn s
theorem Yn (x : List UInt8) (s : St) : (ym x s).2.1 = s.1 := by
  unfold ym
  exact xQ rfl (yR _ _)
theorem y3J (s : St) : (rdLo s).2.1.length ≤ s.1.length := by
  have h : (rdLo s).2.1 = (ye s).2.1 := by
    unfold rdLo
    exact xQ (Yn _ _) ((yR _ _).trans (Yn _ _))
  rw [h]
  exact xn s
theorem y3K (lo : Int) (s : St) : (rdHi lo s).2.1.length ≤ s.1.length := by
  have h : (rdHi lo s).2.1 = (ye s).2.1 := by
    unfold rdHi
    exact xQ (Yn _ _) ((yR _ _).trans (Yn _ _))
  rw [h]
  exact xn s
theorem y3L (s : St) : (zP s).2.1.length ≤ s.1.length := Nat.le_trans (y3K _ _) (y3J s)
theorem y3M (V : List Md.Vr) (x : List UInt8) (s : St) : (yM V x s).2.1.length ≤ s.1.length := by
  unfold yM
  refine Nat.le_trans (xD V _) ?_
  refine Nat.le_of_eq (congrArg List.length ?_)
  unfold cfT
  exact xQ ((yR _ _).trans (Yn _ _)) (Yn _ _)
theorem y3N (x : List UInt8) (s : St) : (yL x s).2.1.length ≤ s.1.length := Nat.le_of_eq (congrArg List.length (Z9 x s))
theorem Qr {α : Type} {rd : List UInt8 → St → α × St} (hr : ∀ x s, (rd x s).2.1.length ≤ s.1.length) : ∀ (k : Nat) (all : List α) (s : St), (yI rd k all s).2.1.length ≤ s.1.length
  | 0, all, s => by
    unfold yI
    cases h : yl s with
    | none => exact Nat.le_refl _
    | some p => show (yh 47 p.2).1.length ≤ _; rw [yR]; exact Nat.le_of_lt (za h).1
  | k + 1, all, s => by
    unfold yI
    cases h : yl s with
    | none => exact Nat.le_refl _
    | some p => exact Nat.le_trans (Qr hr k _ _) (Nat.le_trans (hr _ _) (Nat.le_of_lt (za h).1))
theorem xR {α : Type} {rd : List UInt8 → St → α × St} (hr : ∀ x s, (rd x s).2.1.length ≤ s.1.length) (s : St) : (yo rd s).2.1.length ≤ s.1.length :=
  Nat.le_trans (Qr hr _ _ _) (Nat.le_trans (hr _ _) (xn s))
theorem Qs (s : St) : (endT s).1.length ≤ s.1.length := by
  unfold endT
  cases h : yl s with
  | none => exact Nat.le_refl _
  | some p => show (yh 57 p.2).1.length ≤ _; rw [yR]; exact Nat.le_of_lt (za h).1
theorem Qt (V : List Md.Vr) : ∀ (k : Nat) (xs : List Int) (s : St), (yP V k xs s).2.1.length ≤ s.1.length
  | 0, xs, s => by
    unfold yP
    cases h : yl s with
    | none => show (yh 52 s).1.length ≤ _; rw [yR]; exact Nat.le_refl _
    | some p =>
      show (if p.1 = [58] then (xs, p.2) else (xs, yh 47 p.2)).2.1.length ≤ _
      split
      · exact Nat.le_of_lt (za h).1
      · show (yh 47 p.2).1.length ≤ _; rw [yR]; exact Nat.le_of_lt (za h).1
  | k + 1, xs, s => by
    unfold yP
    cases h : yl s with
    | none => show (yh 52 s).1.length ≤ _; rw [yR]; exact Nat.le_refl _
    | some p =>
      show (if p.1 = [58] then (xs, p.2) else yP V k (xs ++ [(yE V p.1 p.2).1]) (yE V p.1 p.2).2).2.1.length ≤ _
      split
      · exact Nat.le_of_lt (za h).1
      · exact Nat.le_trans (Qt V k _ _) (Nat.le_trans (ZS _ _ _) (Nat.le_of_lt (za h).1))
theorem y3O (V : List Md.Vr) (s : St) : (zt V s).2.1.length ≤ s.1.length := Nat.le_trans (Qt V _ _ _) (xD V s)
theorem Qu (n : Nat) : ∀ (k : Nat) (all : List (List Int)) (s : St), (yW n k all s).2.1.length ≤ s.1.length
  | 0, all, s => by
    unfold yW
    cases h : yl s with
    | none => exact Nat.le_refl _
    | some p =>
      show (yS n _ (yh 47 (ye (zj p.1 [58] p.2)).2)).2.1.length ≤ _
      refine Nat.le_trans (YI _ _ _) ?_
      rw [yR]
      refine Nat.le_trans (xn _) ?_
      rw [Za]
      exact Nat.le_of_lt (za h).1
  | k + 1, all, s => by
    unfold yW
    cases h : yl s with
    | none => exact Nat.le_refl _
    | some p =>
      refine Nat.le_trans (Qu n k _ _) (Nat.le_trans (YI _ _ _) (Nat.le_trans (xn _) ?_))
      rw [Za]
      exact Nat.le_of_lt (za h).1
theorem y3P (n : Nat) (s : St) : (zS n s).2.1.length ≤ s.1.length := Nat.le_trans (Qu n _ _ _) (Nat.le_trans (YI _ _ _) (xn s))
theorem y3Q (V : List Md.Vr) (k : Nat) (s : St) : (zo V k s).2.1.length ≤ s.1.length := by
  have hk := ZS V
  have ht := y3M V
  unfold zo
  split
  · exact Nat.le_trans (xR ht _) (Nat.le_trans (Yo _) (Qq s))
  split
  · exact Nat.le_trans (Qs _) (Nat.le_trans (Yo _) (Nat.le_trans (xD V _) (xD V s)))
  split
  · exact xR hk s
  split
  · exact Nat.le_trans (xR y3N _) (Nat.le_trans (xD V _) (xD V s))
  split
  · exact Nat.le_trans (xR hk _) (xD V s)
  split
  · exact Nat.le_trans (xR hk _) (xD V s)
  split
  · refine Nat.le_trans (xR ht _) (Nat.le_trans (Yo _) ?_)
    rw [Za]
    exact Nat.le_trans (xn _) (xD V s)
  split
  · exact Nat.le_trans (y3P _ _) (y3O V s)
  split
  · exact Nat.le_trans (xR hk _) (Nat.le_trans (Yo _) (Nat.le_trans (Yo _) (Qq s)))
  split
  · exact Nat.le_trans (Qs _) (Nat.le_trans (y3L _) (y3I V s))
  · exact xR ht s
theorem y3R (m : Md.Mo) (w : List UInt8) (s : St) : (sayT m w s).2.1.length ≤ s.1.length := by
  unfold sayT
  split
  · show (yh 51 s).1.length ≤ _; rw [yR]; exact Nat.le_refl _
  · refine Nat.le_trans (y3Q _ _ _) ?_
    rw [yR]
    exact Nat.le_refl _
end Go.Proofs.YthohnmplbjhjaaaGreatDoor

namespace Go.Proofs.YthohnmplbjhjaaaGreatDoor
open Go Go.RowKit
structure Lw (va : Value) (b : Nat) (s : St) (w : World) : Prop where
  o : w.heap[b]? = some (.cells #[va, .string (yd s.1), .int .i64 s.2] 115 (0, 0))
  n : s.1.length ≤ 70000
theorem Ln.lw {w0 : World} {V : List Md.Vr} {va : Value} {b : Nat} {s : St} {w : World} (h : Ln w0 V va b s w) : Lw va b s w := ⟨h.o, h.n⟩
theorem Lw.lt {va : Value} {b : Nat} {s : St} {w : World} (h : Lw va b s w) : b < w.heap.size := (Array.getElem?_eq_some_iff.1 h.o).1
theorem Lw.keep {va : Value} {b : Nat} {s : St} {S : Nat → Prop} {w w' : World} (h : Lw va b s w) (hS : ∀ k, S k → k ≠ b) (ho : Ofw S w w') : Lw va b s w' := ⟨(ho.block b h.lt (fun e => hS b e rfl)).trans h.o, h.n⟩
theorem Lw.below {va : Value} {b : Nat} {s : St} {w w' : World} (h : Lw va b s w) (hb : Below w.heap.size w w') : Lw va b s w' := h.keep (S := fun _ => False) (fun _ f => f.elim) (Ofw.of_below hb)
theorem Lw.put1 {va : Value} {b : Nat} {s : St} {w : World} (h : Lw va b s w) (r : List UInt8) (hr : r.length ≤ 70000) : Lw va b (r, s.2) (w.setCell ⟨b, 1, none⟩ (.string (yd r))) := ⟨yC h.o 1 _, hr⟩
theorem Lw.c1 {va : Value} {b : Nat} {s : St} {w : World} (h : Lw va b s w) : w.cell? ⟨b, 1, none⟩ = some (.string (yd s.1)) := by rw [yc h.o 1]; rfl
theorem Lw.c2 {va : Value} {b : Nat} {s : St} {w : World} (h : Lw va b s w) : w.cell? ⟨b, 2, none⟩ = some (.int .i64 s.2) := by rw [yc h.o 2]; rfl
theorem Lw.fr {va : Value} {b : Nat} {s : St} {w : World} (h : Lw va b s w) (i : Nat) : w.frozen? ⟨b, i, none⟩ = false := yq h.o i
theorem Lw.len {va : Value} {b : Nat} {s : St} {w : World} (h : Lw va b s w) : xo w b = s.1.length := by
  unfold xo
  rw [h.c1]
  exact zR _
def SeqL (F : Fence) (n : Nat) (P : Program) (g : Nat) (lb : Array Value) (va : Value) (b : Nat) (T : Nat → Prop) (w : World) : Prop :=
  ∀ (l : Nat) (J : St → World → Prop) (J' : World → Prop) (s0 : St),
    (∀ s W, J s W → Lw va b s W) → (∀ s W W', J s W → Ofw (fun _ => False) W W' → J s W') →
    (∀ s x s1 W W1, J s W → yl s = some (x, s1) → Lw va b s1 W1 → Ofw (fun k => k = b) W W1 → YieldAt F (n - 1) P l #[.string (yd x)] W1 fun e W' => ((e = .returned (.bool true) ∧ ∃ s2, J s2 W' ∧ s2.1.length ≤ s1.1.length) ∨ (e = .returned (.bool false) ∧ J' W')) ∧ W1.heap.size ≤ W'.heap.size ∧ ∀ k, T k → W'.heap[k]? = W1.heap[k]?) →
    J s0 w → (∀ k, T k → k < w.heap.size) → CallsIn F n P g (#[.func (.yield l) #[] #[]] ++ lb) w fun e W' => (∃ v, e = .returned v) ∧ ((∃ s, J s W' ∧ yl s = none) ∨ J' W')
set_option maxRecDepth 100000 in
set_option maxHeartbeats 4000000 in
theorem y4q (n : Nat) (hn : 1 ≤ n) {va : Value} {b : Nat} (B : Nat) (W : World) (hB : W.heap[B]? = some (.cells #[.pointer (some ⟨b, 0, none⟩)] 113)) (hBb : B ≠ b) :
    SeqL Fence.wide n Tryz.prog 105 #[.pointer (some ⟨B, 0, none⟩)] va b (fun k => k = B) W := by
  intro l J J2 s0 hL hJ hY h0 _
  refine callsIn_of_wp Tryz.func105 rfl trivial ?_ rfl
  simp only [Tryz.ntmps105, List.size_toArray, List.length_cons, List.length_nil, Nat.reduceAdd, Nat.reduceSub, Array.replicate_succ, Array.replicate_zero, List.push_toArray, List.append_toArray, List.nil_append, List.cons_append]
  gi_wp2
  gi_loopw [3, 4] (fun _ _ wr => ∃ s : St, J s wr ∧ wr.heap[B]? = some (.cells #[.pointer (some ⟨b, 0, none⟩)] 113)) (fun _ _ wr => xo wr b)
  case atStart => exact ⟨s0, h0, hB⟩
  case round =>
    obtain ⟨s, hj, hBr⟩ := hrel
    have hln := hL s wr hj
    have k0 : wr.cell? ⟨B, 0, none⟩ = some (.pointer (some ⟨b, 0, none⟩)) := by simp [World.cell?, hBr]
    have k1 := hln.c1
    have k2 := hln.c2
    by_cases hf : s.2 = 0
    · have hT : Calls Tryz.prog 106 #[.string (yd s.1), .string ⟨#[32, 9]⟩] wr fun e w' => e = .returned (.string (yd (s.1.dropWhile blk))) ∧ Below wr.heap.size wr w' := by
        have := XX (yd s.1) wr
        rw [zI] at this
        exact this
      obtain ⟨r, hr⟩ : ∃ r, s.1.dropWhile blk = r := ⟨_, rfl⟩
      have hrl : r.length ≤ 70000 := by rw [← hr]; exact Nat.le_trans (List.dropWhile_sublist _).length_le hln.n
      obtain ⟨R, hR⟩ : ∃ R, yd r = R := ⟨_, rfl⟩
      obtain ⟨L, hLL⟩ : ∃ L, yd s.1 = L := ⟨_, rfl⟩
      have hRs : R.size = r.length := by rw [← hR]; exact zR r
      have hRl : R.data.toList = r := by rw [← hR]; exact zI r
      rw [hr, hR, hLL] at hT
      rw [hLL] at k1
      rw [hf] at k2
      have HT : Hid (CallsIn Fence.wide (n - 1) Tryz.prog 106 #[.string L, .string ⟨#[32, 9]⟩] wr fun e w' => e = .returned (.string R) ∧ Below wr.heap.size wr w') := callsIn_wide.2 hT
      have HA : Hid (∀ w', CallsIn Fence.wide (n - 1) Tryz.prog 107 #[.string R, .string ⟨#[32, 9]⟩] w' fun e w2 => e = .returned (.int .i64 (if wlen r < r.length then (wlen r : Int) else -1)) ∧ Below w'.heap.size w' w2) := fun w' => by
        have := XW R w' (by omega)
        rw [hRl, hRs] at this
        exact callsIn_wide.2 this
      have HW : Hid (∀ w', Below wr.heap.size wr w' → w'.cell? ⟨B, 0, none⟩ = some (.pointer (some ⟨b, 0, none⟩)) ∧ w'.cell? ⟨b, 1, none⟩ = some (.string L) ∧ w'.frozen? ⟨b, 1, none⟩ = false) := fun w' hb => by
        have h1 := hln.below hb
        refine ⟨(hb.cell (p := ⟨B, 0, none⟩) (Array.getElem?_eq_some_iff.1 hBr).1).trans k0, ?_, h1.fr 1⟩
        rw [h1.c1, hLL]
      by_cases hr0 : r = []
      · have hem : R.toList.isEmpty = true := by rw [Lib.toList_data, hRl, hr0]; rfl
        have HN : Hid (yl s = none) := by show yl s = none; unfold yl; rw [if_neg (fun e => e.2 (hr.trans hr0))]
        have HJ : Hid (J s wr) := hj
        clear hT hR hLL hRs hRl hr hr0 hj hln hBr hrl
        gi_wp2_with (refine ⟨trivial, ?_⟩; gi_at_call 106; refine HT.out.mono ?_; rintro e w1 ⟨rfl, hb1⟩; have HB1 : Hid (Below wr.heap.size wr w1) := hb1; clear hb1)
        refine bodyPost_ret (results_none rfl _ _ _) rfl ?_
        exact ⟨⟨_, rfl⟩, .inl ⟨s, hJ _ _ _ HJ.out (Ofw.of_below HB1.out), HN.out⟩⟩
      · have hem : R.toList.isEmpty = false := by
          rw [Lib.toList_data, hRl]
          cases r with
          | nil => exact absurd rfl hr0
          | cons _ _ => rfl
        have HTk : Hid (yl s = some (r.take (wlen r), (r.drop (wlen r), 0))) := by show yl s = _; unfold yl; rw [if_pos ⟨hf, by rw [hr]; exact hr0⟩, hr]
        have hwl := Z2 r
        obtain ⟨m, hm⟩ : ∃ m, wlen r = m := ⟨_, rfl⟩
        rw [hm] at HA hwl HTk
        have hmI : (m : Int) ≤ (R.size : Int) := by omega
        have HJ : Hid (J s wr) := hj
        have HLn : Hid (Lw va b s wr) := hln
        have HLt := za HTk.out
        have HBr : Hid (wr.heap[B]? = some (.cells #[.pointer (some ⟨b, 0, none⟩)] 113)) := hBr
        have HLR : Hid (r.length = R.size ∧ R = yd r) := ⟨hRs.symm, hR.symm⟩
        have HLt' : Hid ((r.drop m).length < s.1.length) := HLt.1
        clear hT hR hLL hRs hRl hr hr0 hm hj hln hBr hrl HLt
        have fin : ∀ w2, Below wr.heap.size wr w2 → ∃ W5, (w2.setCell ⟨b, 1, none⟩ (.string (yd (r.drop m)))).drew = W5 ∧ Lw va b (r.drop m, 0) W5 ∧ Ofw (fun k => k = b) wr W5 ∧ W5.heap[B]? = some (.cells #[.pointer (some ⟨b, 0, none⟩)] 113) := fun w2 hb2 => by
          refine ⟨_, rfl, ?_, ?_, ?_⟩
          · have h1 := ((HLn.out.below hb2).put1 (r.drop m) (by have := HLn.out.n; have := HLt'.out; omega))
            rw [hf] at h1
            exact h1.below (Below.refl _ _).drew
          · exact ((Ofw.of_below hb2).trans (Ofw.set (S := fun k => k = b) _ rfl)).trans (Ofw.of_below (Below.refl _ _).drew)
          · show (w2.setCell ⟨b, 1, none⟩ _).heap[B]? = _
            rw [Below.heap_setCell w2 ⟨b, 1, none⟩ _ B (by simpa using hBb)]
            exact (hb2.block _ (Array.getElem?_eq_some_iff.1 HBr.out).1).trans HBr.out
        have Hfin : Hid (∀ w2, Below wr.heap.size wr w2 → ∃ W5, (w2.setCell ⟨b, 1, none⟩ (.string (yd (r.drop m)))).drew = W5 ∧ Lw va b (r.drop m, 0) W5 ∧ Ofw (fun k => k = b) wr W5 ∧ W5.heap[B]? = some (.cells #[.pointer (some ⟨b, 0, none⟩)] 113)) := fin
        clear fin
        by_cases hlt : m < r.length
        · rw [if_pos hlt] at HA
          have hm0 : ¬ (m : Int) < 0 := by omega
          clear hlt
          gi_wp2_with (first | (refine ⟨trivial, ?_⟩; gi_at_call 106; refine HT.out.mono ?_; rintro e w1 ⟨rfl, hb1⟩; have HB1 : Hid (Below wr.heap.size wr w1) := hb1; clear hb1) | (refine ⟨trivial, ?_⟩; gi_at_call 107; refine (HA.out w1).mono ?_; rintro e w2 ⟨rfl, hb2⟩; have HB2 : Hid (Below wr.heap.size wr w2) := yj HB1.out hb2; obtain ⟨y0, y1, z1⟩ := HW.out w2 HB2.out; clear hb2))
          gi_region
          obtain ⟨hlen, hRt⟩ := HLR.out
          have x1 : R.extract m R.size = yd (r.drop m) := by rw [hRt, Yh, List.take_of_length_le (by simp [zR])]
          have x2 : R.extract 0 m = yd (r.take m) := by rw [hRt, Yh]; simp
          rw [x1]
          obtain ⟨W5, hW5, ln5, of5, b5⟩ := Hfin.out w2 HB2.out
          rw [hW5]
          obtain ⟨fn, tmps, assign, body, hy, hR⟩ := hY s (r.take m) (r.drop m, 0) wr W5 HJ.out HTk.out ln5 of5
          have hlt5 : xo wr b = s.1.length := HLn.out.len
          clear y0 y1 z1 hW5 hRt hlen x1 k0 k1 k2
          gi_wp2
          refine hR.mono ?_
          rintro e W6 ⟨(⟨rfl, s2, hj6, hle⟩ | ⟨rfl, hj6⟩), _, hk6⟩
          · have hln6 := (hL s2 W6 hj6).len
            gi_wp2
            go_roundw
            case rel => exact ⟨s2, hj6, (hk6 B rfl).trans b5⟩
            case measure => (have := HLt'.out; have h2 : s2.1.length ≤ (r.drop m).length := hle; omega)
          · gi_wp2
            refine bodyPost_ret (results_none rfl _ _ _) rfl ?_
            exact ⟨⟨_, rfl⟩, .inr hj6⟩
        · rw [if_neg hlt] at HA
          have hmR : m = R.size := by have := HLR.out.1; omega
          clear hlt
          gi_wp2_with (first | (refine ⟨trivial, ?_⟩; gi_at_call 106; refine HT.out.mono ?_; rintro e w1 ⟨rfl, hb1⟩; have HB1 : Hid (Below wr.heap.size wr w1) := hb1; clear hb1) | (refine ⟨trivial, ?_⟩; gi_at_call 107; refine (HA.out w1).mono ?_; rintro e w2 ⟨rfl, hb2⟩; have HB2 : Hid (Below wr.heap.size wr w2) := yj HB1.out hb2; obtain ⟨y0, y1, z1⟩ := HW.out w2 HB2.out; clear hb2))
          gi_region
          obtain ⟨hlen, hRt⟩ := HLR.out
          have x1 : ByteArray.empty = yd (r.drop m) := by rw [List.drop_eq_nil_of_le (by omega)]; rfl
          have x2 : R.extract 0 R.size = yd (r.take m) := by rw [← hmR, hRt, Yh]; simp
          have x3 : R.extract 0 r.length = yd (r.take m) := by rw [hlen]; exact x2
          rw [x1]
          obtain ⟨W5, hW5, ln5, of5, b5⟩ := Hfin.out w2 HB2.out
          rw [hW5]
          obtain ⟨fn, tmps, assign, body, hy, hR⟩ := hY s (r.take m) (r.drop m, 0) wr W5 HJ.out HTk.out ln5 of5
          have hlt5 : xo wr b = s.1.length := HLn.out.len
          have hdl : (r.drop m).length < s.1.length := HLt'.out
          rw [hmR] at hy
          clear y0 y1 z1 hW5 hRt hlen x1 k0 k1 k2
          gi_wp2
          refine hR.mono ?_
          rintro e W6 ⟨(⟨rfl, s2, hj6, hle⟩ | ⟨rfl, hj6⟩), _, hk6⟩
          · have hln6 := (hL s2 W6 hj6).len
            gi_wp2
            go_roundw
            case rel => exact ⟨s2, hj6, (hk6 B rfl).trans b5⟩
            case measure => (have := HLt'.out; have h2 : s2.1.length ≤ (r.drop m).length := hle; omega)
          · gi_wp2
            refine bodyPost_ret (results_none rfl _ _ _) rfl ?_
            exact ⟨⟨_, rfl⟩, .inr hj6⟩
    · have k2f : decide (s.2 = 0) = false := decide_eq_false hf
      have HN : Hid (yl s = none) := xf hf
      gi_wp2
      go_end0
      exact ⟨⟨_, rfl⟩, .inl ⟨s, hj, HN.out⟩⟩
theorem y4p {F : Fence} {n : Nat} {P : Program} {g : Operand} {ps : Array Tmp} {assign body : Code} {Q : Exit → Act → World → Prop} {a : Act} {w : World}
    (hro : F.round = none) (h1 : 1 ≤ n) {gf : Nat} {lb : Array Value} (hg : a.eval g = .func (.func gf) #[] lb) (hFg : F.fn gf) (eg : ∀ args w, (callFunc gf args).run P w = .ok (.enter gf args) w)
    {va : Value} {b : Nat} (s0 : St) {T : Nat → Prop} (hT : ∀ k, T k → k < w.heap.size)
    (hseq : ∀ W, RowKit.Below w.heap.size w W → SeqL F (n - 1) P gf lb va b T W) (hps : ps.size = 1)
    (I : St → World → Prop) (I' : Code → World → Prop) (hL : ∀ s W, I s W → Lw va b s W) (hI : ∀ s W W', I s W → Ofw (fun k => k = w.heap.size ∨ k = w.heap.size + 1) W W' → I s W') (hI' : ∀ c W W', I' c W → Ofw (fun k => k = w.heap.size ∨ k = w.heap.size + 1) W W' → I' c W') (h0 : I s0 w) (a₁ : List UInt8 → Act)
    (hassign : ∀ (l : Nat) (x : List UInt8) (W : World) (K : Act → World → Prop), K (a₁ x) W → assign.wpIn (F.inRound l) (n - 1 - 1) P (Exit.then K (fun _ _ _ => False)) { tmps := (ps.zip #[.string (yd x)]).foldl (fun t (p, v) => t.setIfInBounds p v) a.tmps, defers := [] } W)
    (hbody : ∀ (l : Nat) (s : St) (x : List UInt8) (s1 : St) (W W1 : World), I s W → yl s = some (x, s1) → Lw va b s1 W1 → Ofw (fun k => k = b ∨ k = w.heap.size ∨ k = w.heap.size + 1) W W1 → w.heap.size + 2 ≤ W1.heap.size → (∀ k, (k = w.heap.size ∨ k = w.heap.size + 1) → ∀ c t z, W1.heap[k]? ≠ some (.cells c t z)) →
      body.wpIn (F.inRound l) (n - 1 - 1) P (fun ex _ W' => QQ I I' s1.1.length ex W' ∧ W1.heap.size ≤ W'.heap.size ∧ ∀ k, (T k ∨ k = w.heap.size ∨ k = w.heap.size + 1) → W'.heap[k]? = W1.heap[k]?) (a₁ x) W1)
    (hdone : ∀ (s : St) (W : World), I s W → yl s = none → W.heap[w.heap.size]? = some (.deferred (some [])) → Q .normal { a with defers := { target := .collected w.heap.size, args := #[] } :: a.defers } W)
    (hstop : ∀ (c : Code) (W : World), I' c W → W.heap[w.heap.size]? = some (.deferred (some [])) → c.wpIn F n P Q { a with defers := { target := .collected w.heap.size, args := #[] } :: a.defers } W) :
    (Code.rangeFunc g ps assign body).wpIn F n P Q a w := by
  refine wpIn_rangeFunc fun fn hfn => ?_
  obtain ⟨rec, hrec⟩ : ∃ rec : LoopState → Option Code → Loop, rec = fun st p => { state := st, pending := p, fn := fn, tmps := a.tmps, params := ps, assign := assign, body := body, defers := w.heap.size } := ⟨_, rfl⟩
  obtain ⟨D, hD⟩ : ∃ D, D = w.heap.size := ⟨_, rfl⟩
  have hnew := run_enterLoop_outer (P := P) (w := w) fn a.tmps ps assign body
  rw [← hro] at hnew
  obtain ⟨W1, hW1⟩ : ∃ W1, (w.alloc (.deferred (some []))).alloc (.loop (rec .ready none)) = W1 := ⟨_, rfl⟩
  have hrr : rec .ready none = { state := .ready, pending := none, fn := fn, tmps := a.tmps, params := ps, assign := assign, body := body, defers := w.heap.size } := by rw [hrec]
  rw [← hrr, hW1] at hnew
  have hb1 : RowKit.Below w.heap.size w W1 := by
    rw [← hW1]
    exact ((Below.refl _ w).alloc (Nat.le_refl _) _).alloc (by simp) _
  have hs1 : W1.heap.size = w.heap.size + 2 := by rw [← hW1]; simp
  have hl1 : W1.heap[D + 1]? = some (.loop (rec .ready none)) := by
    rw [← hW1, hD]
    have := World.alloc_heap_new (w.alloc (.deferred (some []))) (.loop (rec .ready none))
    rwa [World.size_alloc] at this
  have hk1 : W1.heap[D]? = some (.deferred (some [])) := by
    rw [← hW1, hD]
    exact (Below.heap_alloc _ _ _ (by simp)).trans (World.alloc_heap_new w _)
  have hbD : b < D := hD ▸ (hL _ _ h0).lt
  refine ⟨w.heap.size + 1, _, W1, { target := .fn (.func gf) lb, args := #[.func (.yield (w.heap.size + 1)) #[] #[]] }, W1, gf, #[.func (.yield (w.heap.size + 1)) #[] #[]] ++ lb, W1, hnew, ?_, ?_, ?_, fun _ => h1, ?_⟩
  · simp only [resolve, hg]
    simp [go_sem]
  · intro f' hf'
    simp [Target.leads] at hf'
    subst hf'
    exact hFg
  · simp [invoke, go_sem, eg]
  · rw [← hD] at hT hseq hI hI' hbody hdone hstop ⊢
    refine (hseq W1 (hD ▸ hb1) (D + 1) (fun s W => I s W ∧ W.heap[D + 1]? = some (.loop (rec .ready none)) ∧ W.heap[D]? = some (.deferred (some []))) (fun W => ∃ c, I' c W ∧ W.heap[D + 1]? = some (.loop (rec .done (some c))) ∧ W.heap[D]? = some (.deferred (some []))) s0 (fun s W h => hL s W h.1) ?_ ?_ ⟨hI _ _ _ h0 (Ofw.of_below hb1), hl1, hk1⟩ (fun k hk => by have := hT k hk; omega)).mono ?_
    · rintro s W W' ⟨hi, hl, hk⟩ ho
      have h3 := (Array.getElem?_eq_some_iff.1 hl).1
      have h4 := (Array.getElem?_eq_some_iff.1 hk).1
      exact ⟨hI s W W' hi (ho.less fun k h => h.elim), (ho.block _ h3 fun h => h).trans hl, (ho.block _ h4 fun h => h).trans hk⟩
    · rintro s x s1 W Wa ⟨hi, hl0, hk0⟩ hx hln hoa
      have hl : Wa.heap[D + 1]? = some (.loop (rec .ready none)) := (hoa.block _ (Array.getElem?_eq_some_iff.1 hl0).1 (by omega)).trans hl0
      have hk : Wa.heap[D]? = some (.deferred (some [])) := (hoa.block _ (Array.getElem?_eq_some_iff.1 hk0).1 (by omega)).trans hk0
      have h3 := (Array.getElem?_eq_some_iff.1 hl).1
      have hy := run_yield (P := P) (args := #[.string (yd x)]) hl (by rw [hrec]; exact hps.symm)
      rw [hrec] at hy
      refine ⟨fn, _, assign, body, hy, roundIn_of_wpIn hfn (hassign _ x Wa _ ?_)⟩
      obtain ⟨W2, hW2⟩ : ∃ W2, Wa.putObj (D + 1) (.loop { rec .ready none with state := .busy }) = W2 := ⟨_, rfl⟩
      have o2 : Ofw (fun k => k = D ∨ k = D + 1) Wa W2 := hW2 ▸ yY Wa (D + 1) _ (.inr rfl)
      have l2 : W2.heap[D + 1]? = some (.loop { rec .ready none with state := .busy }) := hW2 ▸ World.putObj_heap_same h3
      have k2 : W2.heap[D]? = some (.deferred (some [])) := hW2 ▸ (World.putObj_heap_other (by omega)).trans hk
      have e2 : ∀ k, k ≠ D + 1 → W2.heap[k]? = Wa.heap[k]? := fun k hne => hW2 ▸ World.putObj_heap_other hne
      have s2 : W2.heap.size = Wa.heap.size := by rw [← hW2]; simp
      have ln2 : Lw va b s1 W2 := hln.keep (fun k hk => by omega) o2
      refine ⟨W2, hW2 ▸ run_beginRound hl (by rw [hrec]), wpIn_mono (hbody _ s x s1 W W2 hi hx ln2 ((hoa.less fun k hk => .inl hk).trans (o2.less fun k hk => .inr hk)) (by omega) (fun k hk c t z e => by
        rcases hk with rfl | rfl
        · rw [k2] at e; cases e
        · rw [l2] at e; cases e)) ?_⟩
      rintro ex a3 W3 ⟨hex, hs3, hk3⟩
      have l3 := (hk3 (D + 1) (.inr (.inr rfl))).trans l2
      have h5 : D + 1 < W3.heap.size := (Array.getElem?_eq_some_iff.1 l3).1
      have fin : ∀ (st : LoopState) (p : Option Code), (W3.putObj (D + 1) (.loop (rec st p))).heap[D + 1]? = some (.loop (rec st p)) ∧ (W3.putObj (D + 1) (.loop (rec st p))).heap[D]? = some (.deferred (some [])) ∧ Wa.heap.size ≤ (W3.putObj (D + 1) (.loop (rec st p))).heap.size ∧ ∀ k, T k → (W3.putObj (D + 1) (.loop (rec st p))).heap[k]? = Wa.heap[k]? := fun st p => by
        refine ⟨World.putObj_heap_same h5, (World.putObj_heap_other (by omega)).trans ((hk3 D (.inr (.inl rfl))).trans k2), by simp; omega, fun k hTk => ?_⟩
        have hne : k ≠ D + 1 := fun e => by have := hT k hTk; omega
        exact (World.putObj_heap_other hne).trans ((hk3 k (.inl hTk)).trans (e2 k hne))
      have stop : ∀ c : Code, I' c W3 → ∃ v w', (Instr.endRound (D + 1) (some c)).run P W3 = .ok v w' ∧ ((((Ending.returned v) = .returned (.bool true) ∧ ∃ s2, (I s2 w' ∧ w'.heap[D + 1]? = some (.loop (rec .ready none)) ∧ w'.heap[D]? = some (.deferred (some []))) ∧ s2.1.length ≤ s1.1.length) ∨ ((Ending.returned v) = .returned (.bool false) ∧ ∃ c, I' c w' ∧ w'.heap[D + 1]? = some (.loop (rec .done (some c))) ∧ w'.heap[D]? = some (.deferred (some [])))) ∧ Wa.heap.size ≤ w'.heap.size ∧ ∀ k, T k → w'.heap[k]? = Wa.heap[k]?) := fun c hi3 => by
        have hr := run_endRound (P := P) (some c) l3
        have hre : ({ { rec .ready none with state := .busy } with state := if (some c : Option Code).isNone then .ready else .done, pending := some c } : Loop) = rec .done (some c) := by rw [hrec]; rfl
        rw [hre] at hr
        obtain ⟨f1, f2, f3, f4⟩ := fin .done (some c)
        exact ⟨_, _, hr, .inr ⟨rfl, c, hI' _ _ _ hi3 (yY W3 (D + 1) _ (.inr rfl)), f1, f2⟩, f3, f4⟩
      rcases hex with ⟨rfl, s2', hi3, hle⟩ | ⟨rfl, hi3⟩ | ⟨id, rfl, hi3⟩
      · have hr := run_endRound (P := P) none l3
        have hre : ({ { rec .ready none with state := .busy } with state := if (none : Option Code).isNone then .ready else .done, pending := none } : Loop) = rec .ready none := by rw [hrec]; rfl
        rw [hre] at hr
        obtain ⟨f1, f2, f3, f4⟩ := fin .ready none
        exact ⟨_, _, hr, .inl ⟨rfl, s2', ⟨hI _ _ _ hi3 (yY W3 (D + 1) _ (.inr rfl)), f1, f2⟩, hle⟩, f3, f4⟩
      · exact stop .ret hi3
      · exact stop (.exit id) hi3
    · rintro e W2 ⟨⟨v, rfl⟩, (⟨s, ⟨hi, hl, hk⟩, hn⟩ | ⟨c, hi, hl, hk⟩)⟩
      · have he := run_endLoop (P := P) hl (by rw [hrec]; simp)
        have hp : (rec .ready none).pending = none := by rw [hrec]
        rw [hp] at he
        exact ⟨none, _, he, hdone s _ (hI _ _ _ hi (yY W2 (D + 1) _ (.inr rfl))) hn ((World.putObj_heap_other (by omega)).trans hk)⟩
      · have he := run_endLoop (P := P) hl (by rw [hrec]; simp)
        have hp : (rec .done (some c)).pending = some c := by rw [hrec]
        rw [hp] at he
        exact ⟨some c, _, he, hstop c _ (hI' _ _ _ hi (yY W2 (D + 1) _ (.inr rfl))) ((World.putObj_heap_other (by omega)).trans hk)⟩
end Go.Proofs.YthohnmplbjhjaaaGreatDoor
