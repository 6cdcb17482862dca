/-
  Package pb: sorted.
-/
import Derived.Test.YtjffbndiecjkjaaGreatDoorPbSorts
import Derived.Test.YtjffbndiecjkjaaGreatDoorSortShelf
namespace Go.Proofs.YtjffbndiecjkjaaGreatDoor
open Go.Shelf Go.RowKit Go.Lib Go.Sort
open Bn (limbs)

theorem cmpV_lt (x y : PcV) : ltOf (fun x y : PcV => Lib.compareInt (vv x.2.2) (vv y.2.2)) x y = decide (vv x.2.2 < vv y.2.2) := by
  unfold ltOf Lib.compareInt
  by_cases h1 : vv x.2.2 < vv y.2.2
  · simp [h1]
  · by_cases h2 : vv y.2.2 < vv x.2.2 <;> simp [h1, h2]
theorem cmpV_swo : SWO (ltOf fun x y : PcV => Lib.compareInt (vv x.2.2) (vv y.2.2)) where
  irrefl x := by rw [cmpV_lt]; simp
  trans x y z h1 h2 := by rw [cmpV_lt] at *; simp at *; omega
  ntrans x y z h1 h2 := by rw [cmpV_lt] at *; simp at *; omega

theorem isAggPiece : ∀ w, (isAgg 67).run Tryz.prog w = .ok true w := Tryz.isAgg67
theorem sizeOfPiece : ∀ w, (Go.sizeOf 67).run Tryz.prog w = .ok 3 w := Tryz.sizeOf67

set_option maxRecDepth 100000 in
set_option maxHeartbeats 1000000 in
theorem sort_call (blk off cap : Nat) (d : Array PcV) (w : World) (hH : HoldsK encP 3 w blk off d) (hblk : blk < w.heap.size) (hsz : d.size ≤ 1000000) :
    Calls Tryz.prog 70 #[.slice (some ⟨blk, off, none⟩) d.size cap, .func (.func 68) #[] #[]] w fun e w' => e = .returned (.tuple #[]) ∧ ∃ d' n os, PermIn 0 d.size d d' ∧ SortedIn (ltOf fun x y : PcV => Lib.compareInt (vv x.2.2) (vv y.2.2)) 0 d.size d' ∧ w' = sortWorldK encP 3 w blk off n d' os := by
  have eg : ∀ args w, (callFunc 68 args).run Tryz.prog w = .ok (.enter 68 args) w := enters_of Tryz.func68 (by kernel_rfl) rfl
  exact AnyQ.slices_SortFunc Tryz.sortPieces 3 isAggPiece sizeOfPiece encP (fun _ => rfl) (fun x v hv => by simp [encP] at hv; rcases hv with rfl | rfl | rfl <;> rfl) (fun x y => Lib.compareInt (vv x.2.2) (vv y.2.2)) cmpV_swo 68 #[] blk off cap d w eg
    (fun _ _ _ _ x y => by simpa [encP] using byVariable_any x y _) hH hblk (by omega)

set_option maxRecDepth 100000 in
set_option maxHeartbeats 1000000 in
theorem sorted_call (blk off cap : Nat) (d : Array PcV) (w : World) (hH : HoldsK encP 3 w blk off d) (hblk : blk < w.heap.size) (hsz : d.size ≤ 1000000) :
    Calls Tryz.prog 39 #[.slice (some ⟨blk, off, none⟩) d.size cap] w fun e w' => e = .returned (.slice (some ⟨blk, off, none⟩) d.size cap) ∧ ∃ d' n os, PermIn 0 d.size d d' ∧ SortedIn (ltOf fun x y : PcV => Lib.compareInt (vv x.2.2) (vv y.2.2)) 0 d.size d' ∧ w' = sortWorldK encP 3 w blk off n d' os := by
  have HC : Hid (Calls Tryz.prog 70 #[.slice (some ⟨blk, off, none⟩) d.size cap, .func (.func 68) #[] #[]] w fun e w' => e = .returned (.tuple #[]) ∧ ∃ d' n os, PermIn 0 d.size d d' ∧ SortedIn (ltOf fun x y : PcV => Lib.compareInt (vv x.2.2) (vv y.2.2)) 0 d.size d' ∧ w' = sortWorldK encP 3 w blk off n d' os) := sort_call blk off cap d w hH hblk hsz
  clear hH
  generalize d.size = n at *
  go_enter Tryz.func39, Tryz.ntmps39
  go_wp2_with (go_at_call 70; refine calls_at HC.out (by with_reducible rfl) (by with_reducible rfl) ?_; rintro e w' ⟨rfl, d', m, os, hp, hs, hw⟩)
  go_ret
  exact ⟨rfl, d', m, os, hp, hs, rfl⟩

theorem sortWorld_grown (w : World) (b off m : Nat) (d : Array PcV) (os : Array Obj) : w.grownBy (sortWorldK encP 3 w b off m d os) (some b) := by
  refine ⟨rfl, rfl, rfl, size_sortWorldK_c encP 3 w b off m d os, fun k hk hne => ?_⟩
  have hkb : k ≠ b := fun h => hne (by rw [h])
  unfold sortWorldK grow putRowK putRow
  show ((mapBlock (Sort.ahead w m) b _).heap ++ os)[k]? = _
  rw [Array.getElem?_append_left (by simp [mapBlock]; exact hk)]
  simp [mapBlock, Array.getElem?_modify, Ne.symm hkb, Sort.ahead]

theorem sorted_any (b cap : Nat) (L : List PcV) (ps : List (Int × Int)) (w : World) (hH : HoldsK encP 3 w b 0 L.toArray) (hb : b < w.heap.size) (hC : Clean w b) (hS : Says w L ps) (hlit : ∀ p ∈ ps, IsLit p.2) (hn : L.length ≤ 1000000) :
    Calls Tryz.prog 39 #[.slice (some ⟨b, 0, none⟩) L.length cap] w fun e w' => e = .returned (.slice (some ⟨b, 0, none⟩) L.length cap) ∧
      ∃ L' ps', ps'.Perm ps ∧ Says w' L' ps' ∧ HoldsK encP 3 w' b 0 L'.toArray ∧ Climbs ps' ∧ w.grownBy w' (some b) ∧ L'.length = L.length := by
  have h := sorted_call b 0 cap L.toArray w hH hb (by simpa using hn)
  simp only [List.size_toArray] at h
  refine h.mono ?_
  rintro e w' ⟨he, d', m, os, hp, hs, rfl⟩
  have hg := sortWorld_grown w b 0 m d' os
  have hsz : d'.size = L.length := by have := hp.1; simpa using this
  have hperm : d'.toList.Perm L := by
    have := hp.2.2
    rw [show d'.extract 0 L.length = d' by rw [← hsz]; simp, show L.toArray.extract 0 L.length = L.toArray by simp] at this
    simpa using this
  obtain ⟨ps', h1, h2⟩ := hS.perm hperm
  refine ⟨he, d'.toList, ps', h1, h2.mono (fun v z hB => hB.clean hC hg), ?_, ?_, hg, by simpa using hsz⟩
  · have := holdsK_sortWorldK encP 3 w b 0 m L.toArray d' os hb hH (by simpa using hsz)
    simpa using this
  · intro i j hi hj hij
    have hl : ps'.length = d'.size := by have := h2.1; simpa using this.symm
    have hlt := hs i j (Nat.zero_le _) hij (by rw [← hsz]; omega)
    rw [cmpV_lt, decide_eq_false_iff_not] at hlt
    have hi' : i < d'.size := by omega
    have hj' : j < d'.size := by omega
    rw [getElem!_pos d' i hi', getElem!_pos d' j hj'] at hlt
    have e1 := (h2.2 i (by simpa using hi') hi).2
    have e2 := (h2.2 j (by simpa using hj') hj).2
    simp only [Array.getElem_toList] at e1 e2
    rw [e1, e2] at hlt
    have l1 := hlit _ (h1.mem_iff.1 (List.getElem_mem hi))
    have l2 := hlit _ (h1.mem_iff.1 (List.getElem_mem hj))
    rw [vv_lit l1, vv_lit l2] at hlt
    omega
end Go.Proofs.YtjffbndiecjkjaaGreatDoor
