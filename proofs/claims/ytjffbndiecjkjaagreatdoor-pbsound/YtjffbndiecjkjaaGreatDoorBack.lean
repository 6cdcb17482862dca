/-
  slices.Backward over limbs: what a range over it comes to.
-/
import Derived.RangeFuncNested
import Derived.RangeFuncBound
import Derived.RangeFuncCalls
import Derived.RangeFuncLeaves
import Derived.RangeFuncFrom
import Derived.Shelf.Abstract
import Derived.Shelf.RegionOpen
import Derived.OwnWalkIn
import Derived.TacticsInMore
import Derived.LoopNIn
import Derived.LoopIn
import Derived.Test.YtjffbndiecjkjaaGreatDoorLimbs
namespace Go.Proofs.YtjffbndiecjkjaaGreatDoor
open Go.RowKit Go.Shelf
open Bn (limbs)
attribute [local go_sem] Oper.semAt_some

/-- The places of n, the last one first. -/
def backF (n : Nat) : List (Fin n) := (List.ofFn fun i : Fin n => i).reverse
theorem backF_length (n : Nat) : (backF n).length = n := by simp [backF]
theorem backF_get (n k : Nat) (h : k < n) : (backF n)[k]? = some ⟨n - 1 - k, by omega⟩ := by
  rw [List.getElem?_eq_getElem (by rw [backF_length]; exact h)]
  congr 1
  simp only [backF, List.getElem_reverse, List.getElem_ofFn, List.length_ofFn]
theorem backF_take (n k : Nat) (h : k < n) : (backF n).take (k + 1) = (backF n).take k ++ [⟨n - 1 - k, by omega⟩] := by
  have hl : k < (backF n).length := by rw [backF_length]; exact h
  rw [List.take_succ_eq_append_getElem hl]
  congr 2
  have := backF_get n k h
  rw [List.getElem?_eq_getElem hl] at this
  exact Option.some.inj this
theorem backF_all (n : Nat) : (backF n).take n = backF n := List.take_of_length_le (by rw [backF_length]; exact Nat.le_refl _)

/-- What a round over limbs is handed: a place, and its limb. -/
def limbEnc (zs : List Nat) (x : Fin zs.length) : Array Value := #[.int .i64 (x.val : Int), .int .u32 ((zs[x] : Nat) : Int)]

/-- What a round keeps: what lay below n₀, and the box of the slice. -/
def KpB (n₀ Bs : Nat) (W W' : World) : Prop := Below n₀ W W' ∧ W'.cell? ⟨Bs, 0, none⟩ = W.cell? ⟨Bs, 0, none⟩
theorem KpB.trans {n₀ Bs : Nat} {A B C : World} (h : KpB n₀ Bs A B) (k : KpB n₀ Bs B C) : KpB n₀ Bs A C := ⟨h.1.trans k.1, k.2.trans h.2⟩
theorem KpB.refl (n₀ Bs : Nat) (W : World) : KpB n₀ Bs W W := ⟨Below.refl _ _, rfl⟩
theorem KpB.putObj {n₀ Bs : Nat} {w : World} (hn : n₀ ≤ w.heap.size) (hB : Bs < w.heap.size) (W : World) (l : Nat) (o o' : Obj) (hl : w.heap.size ≤ l) (h : W.heap[l]? = some o) (h1 : o.isCells = false) (h2 : o.isWalk = false) : KpB n₀ Bs W (W.putObj l o') :=
  ⟨belowK_b hn W l o o' hl h h1 h2, World.cell?_of_block (a := ⟨Bs, 0, none⟩) ((grownBy_putObj' W l o').block Bs (by have := (Array.getElem?_eq_some_iff.1 h).1; omega) (fun e => by injection e with e; omega))⟩

set_option maxRecDepth 100000 in
set_option maxHeartbeats 2000000 in
/-- Backward's closure, whatever the loop's body that keeps what lay below n₀ and the slice's box. -/
theorem back1_in (F : Fence) (n : Nat) (h70 : F.fn 100) (hro : F.round = none) (hn : 1 ≤ n) (l Bs n₀ b off cap : Nat) (zs : List Nat) (hreach : zs.length ≤ 1000000000) (hb : b < n₀) (J Jx : List (Fin zs.length) → World → Prop)
    (hY : ∀ pre (x : Fin zs.length) W, J pre W → pre.length < zs.length → YieldAt F (n - 1) Tryz.prog l (limbEnc zs x) W fun e W' =>
      (e = .returned (.bool true) ∧ J (pre ++ [x]) W' ∧ KpB n₀ Bs W W') ∨ (e = .returned (.bool false) ∧ Jx (pre ++ [x]) W'))
    (W : World) (hBs : W.cell? ⟨Bs, 0, none⟩ = some (.slice (some ⟨b, off, none⟩) zs.length cap)) (hc : ∀ j (h : j < zs.length), W.cell? ⟨b, off + j, none⟩ = some (.int .u32 ((zs[j] : Nat) : Int))) (h0 : J [] W) :
    CallsIn F n Tryz.prog 100 #[.func (.yield l) #[] #[], .pointer (some ⟨Bs, 0, none⟩)] W fun e W' => (∃ v, e = .returned v) ∧
      ((∃ ys, ys = backF zs.length ∧ J ys W') ∨ (∃ pre, (∃ k, k < zs.length ∧ pre = (backF zs.length).take (k + 1)) ∧ Jx pre W')) := by
  refine callsIn_of_wp Tryz.func100 rfl h70 ?_ hro
  simp only [Tryz.ntmps100, List.size_toArray, List.length_cons, List.length_nil, Nat.reduceAdd, Nat.reduceSub, Array.replicate_succ, Array.replicate_zero, List.push_toArray, List.append_toArray, List.nil_append, List.cons_append]
  gi_wp2
  gi_loopw [3] (fun i wr => ∃ (k : Nat) (i' : Int), k ≤ zs.length ∧ i = .int .i64 i' ∧ i' = (zs.length : Int) - 1 - (k : Int) ∧ J ((backF zs.length).take k) wr ∧ KpB n₀ Bs W wr)
    (fun i _ => (intOf i + 1).toNat)
  case atStart => exact ⟨0, _, Nat.zero_le _, rfl, by simp, h0, KpB.refl _ _ _⟩
  case round =>
    obtain ⟨k, i', hk, rfl, hi', hJs, hnx⟩ := hrel
    have hBs' : wr.cell? ⟨Bs, 0, none⟩ = some (.slice (some ⟨b, off, none⟩) zs.length cap) := hnx.2.trans hBs
    by_cases hlt : k < zs.length
    · obtain ⟨m, hm⟩ : ∃ m : Nat, m = zs.length - 1 - k := ⟨_, rfl⟩
      obtain rfl : i' = (m : Int) := by omega
      have hml : m < zs.length := by omega
      have hcx : wr.cell? ⟨b, off + m, none⟩ = some (.int .u32 ((zs[m] : Nat) : Int)) := (hnx.1.cell (p := ⟨b, off + m, none⟩) hb).trans (hc m hml)
      have hmI : (m : Int) < (zs.length : Int) := by omega
      obtain ⟨fn, tmps, assign, body, hy, hR⟩ := hY _ ⟨m, hml⟩ wr hJs (by rw [List.length_take, backF_length]; omega)
      simp only [limbEnc, Fin.getElem_fin] at hy
      have HR : Hid ((backF zs.length).take (k + 1) = (backF zs.length).take k ++ [⟨m, hml⟩]) := by
        show _ = _
        subst hm
        exact backF_take _ _ hlt
      have HM : Hid (m = zs.length - 1 - k) := hm
      clear hi' hm hc
      gi_wp2
      refine hR.mono ?_
      rintro e W3 (⟨rfl, hJ3, hk3⟩ | ⟨rfl, hJx3⟩)
      · gi_wp2
        go_roundw
        case rel => exact ⟨k + 1, _, by omega, rfl, by have := HM.out; omega, by rw [HR.out]; exact hJ3, hnx.trans hk3⟩
        case measure => simp [intOf]
      · gi_wp2
        refine bodyPost_ret (results_none rfl _ _ _) rfl ?_
        exact ⟨⟨_, rfl⟩, .inr ⟨_, ⟨k, hlt, HR.out.symm⟩, hJx3⟩⟩
    · obtain rfl : k = zs.length := by omega
      obtain rfl : i' = -1 := by omega
      clear hi'
      gi_wp2
      go_end0
      exact ⟨⟨_, rfl⟩, .inl ⟨_, (backF_all _), hJs⟩⟩

set_option maxRecDepth 100000 in
set_option maxHeartbeats 1000000 in
/-- .. at the nil slice: no round. -/
theorem back1_nil_in (F : Fence) (n : Nat) (h70 : F.fn 100) (hro : F.round = none) (l Bs : Nat) (J : World → Prop) (W : World) (hBs : W.cell? ⟨Bs, 0, none⟩ = some (.slice none 0 0)) (h0 : J W) :
    CallsIn F n Tryz.prog 100 #[.func (.yield l) #[] #[], .pointer (some ⟨Bs, 0, none⟩)] W fun e W' => (∃ v, e = .returned v) ∧ J W' := by
  refine callsIn_of_wp Tryz.func100 rfl h70 ?_ hro
  simp only [Tryz.ntmps100, List.size_toArray, List.length_cons, List.length_nil, Nat.reduceAdd, Nat.reduceSub, Array.replicate_succ, Array.replicate_zero, List.push_toArray, List.append_toArray, List.nil_append, List.cons_append]
  gi_wp2
  gi_loopw [3] (fun i wr => i = .int .i64 (-1) ∧ J wr) (fun _ _ => 0)
  case atStart => exact ⟨rfl, h0⟩
  case round =>
    obtain ⟨rfl, hJs⟩ := hrel
    gi_wp2
    go_end0
    exact ⟨⟨_, rfl⟩, hJs⟩

set_option maxHeartbeats 1000000 in
/-- slices.Backward: the slice value is boxed; the function value captures the box. -/
theorem backward_in (F : Fence) (n : Nat) (h44 : F.fn 73) (hro : F.round = none) (a : Option Addr) (len cap : Nat) (w : World) :
    CallsIn F n Tryz.prog 73 #[.slice a len cap] w fun e w' => e = .returned (.func (.func 100) #[] #[.pointer (some ⟨w.heap.size, 0, none⟩)]) ∧ w' = w.alloc (.cells #[.slice a len cap] 76) := by
  refine callsIn_of_wp Tryz.func73 rfl h44 ?_ hro
  simp only [Tryz.ntmps73, List.size_toArray, List.length_cons, List.length_nil, Nat.reduceAdd, Nat.reduceSub, Array.replicate_succ, Array.replicate_zero, List.push_toArray, List.append_toArray, List.nil_append, List.cons_append]
  gi_wp2
  go_ret
  exact ⟨rfl, rfl⟩

/-- slices.Backward hands back a value that goes through all places, the last one first, or stops. -/
theorem backward_stops (F : Fence) (n : Nat) (h70 : F.fn 100) (hro : F.round = none) (hn : 1 ≤ n) (Bs : Nat) (sv : Value) (zs : List Nat) (hreach : zs.length ≤ 1000000000) (w w₁ : World) (hBs : Bs < w₁.heap.size) (hw : Below w.heap.size w w₁)
    (hc : w₁.cell? ⟨Bs, 0, none⟩ = some sv) (hI : U32At w sv zs) :
    SeqStopsK F n Tryz.prog 100 #[.pointer (some ⟨Bs, 0, none⟩)] (limbEnc zs) (KpB w.heap.size Bs) (fun ys => ys = backF zs.length) (fun pre => ∃ k, k < zs.length ∧ pre = (backF zs.length).take (k + 1)) zs.length w₁ := fun l J Jx W hW _ _ hY h0 => by
  have hc' := (hW.cell (p := ⟨Bs, 0, none⟩) hBs).trans hc
  have hBw : Below w.heap.size w W := hw.trans (hW.mono hw.size)
  rcases hI.below hBw with ⟨rfl, rfl⟩ | ⟨b, off, cap, rfl, hb, _, _, hcs⟩
  · exact (back1_nil_in F n h70 hro l Bs (J []) W hc' h0).mono fun e W' ⟨he, hj⟩ => ⟨he, .inl ⟨_, rfl, hj⟩⟩
  · rcases hI with ⟨e1, _⟩ | ⟨b', off', cap', e1, hb', _⟩
    · cases e1
    · have hbb : b < w.heap.size := by
        injection e1 with e1 _ _
        injection e1 with e1
        injection e1 with e1 _ _
        omega
      exact back1_in F n h70 hro hn l Bs w.heap.size b off cap zs hreach hbb J Jx hY W hc' hcs h0

end Go.Proofs.YtjffbndiecjkjaaGreatDoor
