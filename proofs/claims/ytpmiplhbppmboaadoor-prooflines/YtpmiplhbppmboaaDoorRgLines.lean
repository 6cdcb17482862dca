/-
  strings.Lines: what a range over it comes to.
-/
import Derived.Test.YtpmiplhbppmboaaDoorRgLaw
import Derived.Test.YtpmiplhbppmboaaDoorRgMath
namespace Go.Proofs.YtpmiplhbppmboaaDoor
open Go.RowKit Go.Shelf Go.Lib
attribute [local go_sem] Oper.semAt_some

/-- What a round is handed: a line. -/
def lineEnc (x : List UInt8) : Array Value := #[.string (txtOf x)]
/-- The length of the text in a box. -/
def boxLen (w : World) (b : Nat) : Nat := match w.cell? ⟨b, 0, none⟩ with
  | some (.string s) => s.size
  | _ => 0
/-- A box of a text. -/
def TBox (w : World) (b : Nat) (s : List UInt8) : Prop := w.heap[b]? = some (.cells #[.string (txtOf s)] 9)
theorem TBox.cell {w : World} {b : Nat} {s : List UInt8} (h : TBox w b s) : w.cell? ⟨b, 0, none⟩ = some (.string (txtOf s)) := by unfold TBox at h; simp [World.cell?, h]
theorem TBox.free {w : World} {b : Nat} {s : List UInt8} (h : TBox w b s) : w.frozen? ⟨b, 0, none⟩ = false := by unfold TBox at h; simp [World.frozen?, h]
theorem TBox.set {w : World} {b : Nat} {s : List UInt8} (h : TBox w b s) (r : List UInt8) : TBox (w.setCell ⟨b, 0, none⟩ (.string (txtOf r))) b r := by
  unfold TBox at h ⊢
  simp [World.setCell, Array.getElem?_modify, h]
theorem txt_size (l : List UInt8) : (txtOf l).size = l.length := by simp [txtOf, ByteArray.size]
theorem TBox.len {w : World} {b : Nat} {s : List UInt8} (h : TBox w b s) : boxLen w b = s.length := by
  unfold boxLen
  rw [h.cell]
  exact txt_size s
theorem txt_list (l : List UInt8) : (txtOf l).data.toList = l := by simp [txtOf]
theorem txt_empty : (⟨#[]⟩ : ByteArray) = txtOf [] := rfl
theorem ext_from (l : List UInt8) (f i : Nat) : (txtOf l).extract f i = txtOf ((l.drop f).take (i - f)) := by rw [ext_is, txt_list]

set_option maxRecDepth 100000 in
set_option maxHeartbeats 2000000 in
theorem lines1_in (n : Nat) (hn : 1 ≤ n) (Bs : Nat) (s : List UInt8) (hs : s.length ≤ 400000) (W : World) (hB : TBox W Bs s)
    (hX : ∀ (t : List UInt8) (w : World), CallsIn Fence.wide (n - 1) Tryd.prog 49 #[.string (txtOf t), .int .u8 10] w fun e w' => e = .returned (.int .i64 (indexByte t 10)) ∧ w' = w) :
    SeqW Fence.wide n Tryd.prog 48 #[.pointer (some ⟨Bs, 0, none⟩)] lineEnc (fun k => k = Bs) 0 (raws s []) W := by
  intro l J hJ hY h0
  refine callsIn_of_wp Tryd.func48 rfl trivial ?_ rfl
  simp only [Tryd.ntmps48, List.size_toArray, List.length_cons, List.length_nil, Nat.reduceAdd, Nat.reduceSub, Array.replicate_succ, Array.replicate_zero, List.push_toArray, List.append_toArray, List.nil_append, List.cons_append]
  gi_wp2
  gi_loopw [3] (fun _ wr => ∃ (pre : List (List UInt8)) (r : List UInt8), raws s [] = pre ++ raws r [] ∧ r.length ≤ 400000 ∧ TBox wr Bs r ∧ J pre wr) (fun _ wr => boxLen wr Bs)
  case atStart => exact ⟨[], s, rfl, hs, hB, h0⟩
  case round =>
    obtain ⟨pre, r, hpr, hrl, hT, hj⟩ := hrel
    have hc := hT.cell
    have hf := hT.free
    by_cases hr : r = []
    · subst hr
      have hz : (txtOf []).size = 0 := rfl
      have hq : raws s [] = pre := by rw [hpr, raws_nil, List.append_nil]
      gi_wp2
      go_end0
      exact ⟨⟨_, rfl⟩, hq ▸ hj⟩
    · have hN : 0 < r.length := List.length_pos_iff.2 hr
      have hX' := hX r wr
      obtain ⟨S, hS⟩ : ∃ S, S = txtOf r := ⟨_, rfl⟩
      have hSz : S.size = r.length := by rw [hS]; exact txt_size r
      rw [← hS] at hc hX'
      have HS : Hid (S = txtOf r) := hS
      have hSI : (0 : Int) < (S.size : Int) := by omega
      rcases Int.lt_or_le (indexByte r 10) 0 with hi | hi
      · have hi1 : indexByte r 10 = -1 := by have := indexByte_ge r 10; omega
        obtain ⟨W5, hW5⟩ : ∃ W5, wr.setCell ⟨Bs, 0, none⟩ (.string ⟨#[]⟩) = W5 := ⟨_, rfl⟩
        have hT5 : TBox W5 Bs [] := hW5 ▸ hT.set []
        have hj5 : J pre W5 := hJ _ _ _ hj (hW5 ▸ Off.set _ rfl)
        obtain ⟨fn, tmps, assign, body, hy, hR⟩ := hY pre r [] W5 (by rw [hpr, raws_last hi1 hr]) hj5 (Nat.zero_le _)
        simp only [lineEnc, ← hS] at hy
        clear hS
        rw [hi1] at hX'
        gi_wp2_with (refine ⟨trivial, ?_⟩; gi_at_call 49; refine hX'.mono ?_; rintro e w' ⟨rfl, rfl⟩)
        refine hR.mono ?_
        rintro e W6 ⟨rfl, hj6, _, hk6⟩
        have hT6 : TBox W6 Bs [] := (hk6 Bs rfl).trans hT5
        gi_wp2
        go_roundw
        case rel => exact ⟨pre ++ [r], [], by rw [hpr, raws_last hi1 hr, raws_nil, List.append_nil], by simp, hT6, hj6⟩
        case measure => rw [hT6.len, hT.len]; exact hN
      · obtain ⟨o, ho⟩ : ∃ o : Nat, indexByte r 10 = (o : Int) := ⟨(indexByte r 10).toNat, by omega⟩
        obtain ⟨hl1, hl2⟩ := raws_some ho
        rw [ho] at hX'
        have hw : wrap64 ((o : Int) + 1) = (o : Int) + 1 := by unfold wrap64; omega
        have hoI : (0 : Int) ≤ (o : Int) := by omega
        have HT0 : Hid (TBox wr Bs r) := hT
        clear hS
        gi_wp2_with (refine ⟨trivial, ?_⟩; gi_at_call 49; refine hX'.mono ?_; rintro e w' ⟨rfl, rfl⟩)
        gi_region
        have hS := HS.out
        have e1 : S.extract 0 (o + 1) = txtOf (r.take (o + 1)) := by rw [hS, ext_from]; simp
        have e2 : S.extract (o + 1) r.length = txtOf (r.drop (o + 1)) := by rw [hS, ext_from, List.take_of_length_le (by simp)]
        rw [e1, e2]
        clear hS e1 e2 hX' hw hoI
        obtain ⟨W5, hW5⟩ : ∃ W5, (w'.setCell ⟨Bs, 0, none⟩ (.string (txtOf (r.drop (o + 1))))).drew = W5 := ⟨_, rfl⟩
        rw [hW5]
        have hT5 : TBox W5 Bs (r.drop (o + 1)) := hW5 ▸ hT.set (r.drop (o + 1))
        have hj5 : J pre W5 := hJ _ _ _ hj (hW5 ▸ (Off.set (S := fun k => k = Bs) _ rfl).trans (Off.of_below (Below.refl _ _).drew))
        obtain ⟨fn, tmps, assign, body, hy, hR⟩ := hY pre (r.take (o + 1)) (raws (r.drop (o + 1)) []) W5 (by rw [hpr, hl1]) hj5 (Nat.zero_le _)
        simp only [lineEnc] at hy
        clear hc hf hT hW5
        gi_wp2
        refine hR.mono ?_
        rintro e W6 ⟨rfl, hj6, _, hk6⟩
        have hT6 : TBox W6 Bs (r.drop (o + 1)) := (hk6 Bs rfl).trans hT5
        gi_wp2
        go_roundw
        case rel => exact ⟨pre ++ [r.take (o + 1)], r.drop (o + 1), by rw [hpr, hl1, List.append_assoc]; rfl, by rw [List.length_drop]; omega, hT6, hj6⟩
        case measure => rw [hT6.len, HT0.out.len, List.length_drop]; omega
end Go.Proofs.YtpmiplhbppmboaaDoor
