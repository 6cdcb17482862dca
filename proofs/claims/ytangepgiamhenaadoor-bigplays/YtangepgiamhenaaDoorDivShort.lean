/-
  Package big: divShort.
-/
import Derived.Test.YtangepgiamhenaaDoorDivMath
import Derived.Test.YtangepgiamhenaaDoorGive
import Derived.Deep.OwnRows
import Derived.Laws.CopyOwn
namespace Go.Proofs.YtangepgiamhenaaDoor
open Go.RowKit
open Bn (limbs)

/-- A row of noughts that has just been made. -/
theorem RowAt.made (w : World) (n : Nat) : RowAt (w.alloc (.cells (madeCells #[.int .u32 0] n) 75)) w.heap.size 0 (List.replicate n 0) := by
  intro j hj
  have h := World.rowIs_made w (.int .u32 0) n 75
  have hj' : j < n := by simpa using hj
  rw [Nat.zero_add]
  refine ⟨?_, h.frozen j⟩
  rw [h.cell hj']
  simp

theorem short_step {s B l d q r A Q : Nat} (hA : A = s * Q + l) (hq : l * B + d = s * q + r) : d + B * A = s * (q + B * Q) + r := by
  rw [hA, Nat.mul_add, Nat.mul_add, Nat.mul_left_comm B s Q, Nat.mul_comm B l]
  omega

set_option maxHeartbeats 2000000 in
set_option maxRecDepth 100000 in
/-- divShort. -/
theorem divShort_any (x s : Nat) (va : Value) (w : World) (ha : U32At w va (limbs x)) (hl : (limbs x).length ≤ 5000000) (hs0 : 0 < s) (hs : s < 1000000000) :
    Calls Tryd.prog 81 #[va, .int .u64 (s : Int)] w fun e w' => ∃ v, e = .returned (.tuple #[v, .bool (decide (x % s = 0))]) ∧ U32At w' v (limbs (x / s)) ∧ Below w.heap.size w w' := by
  obtain ⟨i0, hi0, hz0, hz1, hz2⟩ := info_parts Tryd.info75
  obtain ⟨n, hn⟩ : ∃ n, n = (limbs x).length := ⟨_, rfl⟩
  obtain ⟨pa, ca, hva, hma⟩ := ha.form
  rw [← hn] at hva hl
  subst hva
  have HA : Hid (U32At w (.slice pa n ca) (limbs x)) := ha
  have HN : Hid (n = (limbs x).length) := hn
  clear ha hma hn
  go_enter Tryd.func81, Tryd.ntmps81
  go_wp2_with (refine wpList_make_row _ rfl _ _ 66 rfl 75 i0 (.int .u32 0) Tryd.underlying66 hi0 hz0 hz1 rfl .i64 .i64 n rfl rfl (by rw [hz2]; omega) (by omega) ?_)
  obtain ⟨W, hW⟩ : ∃ W, W = w.alloc (.cells (madeCells #[.int .u32 0] n) 75) := ⟨_, rfl⟩
  have hR0 : RowAt W w.heap.size 0 (List.replicate n 0) := by rw [hW]; exact RowAt.made w n
  have hbW : Below w.heap.size w W := by rw [hW]; exact (Below.refl _ _).alloc (Nat.le_refl _) _
  have hsW : w.heap.size < W.heap.size := by rw [hW]; simp
  rw [← hW]
  clear hW
  go_loopw [6, 7] (fun lv iv wr => ∃ (k l : Nat) (q : List Nat), iv = .int .i64 ((k : Int) - 1) ∧ k ≤ n ∧ lv = .int .u64 (l : Int) ∧ l < s ∧ Hid (q.length + k = n ∧ (∀ d ∈ q, d < 1000000000) ∧ Bn.val ((limbs x).drop k) = s * Bn.val q + l) ∧ RowAt wr w.heap.size 0 (List.replicate k 0 ++ q) ∧ Below w.heap.size w wr ∧ w.heap.size < wr.heap.size) (fun _ iv _ => (intOf iv + 1).toNat)
  case atStart => exact ⟨n, 0, [], rfl, Nat.le_refl _, rfl, hs0, ⟨by simp, by simp, by rw [HN.out, List.drop_length]; simp [Bn.val]⟩, by rw [List.append_nil]; exact hR0, hbW, hsW⟩
  case round =>
    obtain ⟨k, l, q, rfl, hk, rfl, hls, HQ, hR, hbel, hwr⟩ := hrel
    cases k with
    | zero =>
      have hq := HQ.out
      have HU : Hid (Calls Tryd.prog 67 #[.slice (some ⟨w.heap.size, 0, none⟩) n n] wr fun e w' => ∃ v', e = .returned v' ∧ U32At wr v' (limbs (x / s)) ∧ w' = wr) := by
        have hql : q.length = n := by have := hq.1; omega
        have h := trimmed_any q (.slice (some ⟨w.heap.size, 0, none⟩) n n) wr (.inr ⟨w.heap.size, 0, n, by rw [hql], hwr, by omega, by unfold maxLen; omega, fun j hj => by have := hR j (by simpa using hj); simpa using this.1⟩) (fun d hd => by have := hq.2.1 d hd; omega)
        have hv := hq.2.2
        rw [List.drop_zero, Bn.val_limbs'] at hv
        rw [trim_eq _ hq.2.1, show Bn.val q = x / s from by rw [hv, Nat.mul_add_div hs0, Nat.div_eq_of_lt hls, Nat.add_zero]] at h
        refine h.mono ?_
        rintro e w' ⟨v', h1, h2, h3, _⟩
        exact ⟨v', h1, h2, h3⟩
      have HE : Hid (((l : Int) == 0) = decide (x % s = 0)) := by
        show _ = _
        have hv := hq.2.2
        rw [List.drop_zero, Bn.val_limbs'] at hv
        rw [show x % s = l from by rw [hv, Nat.mul_add_mod, Nat.mod_eq_of_lt hls]]
        rw [Bool.eq_iff_iff, beq_iff_eq, decide_eq_true_iff]
        omega
      clear hq HQ hR
      go_wp2_with fail
      refine HU.out.mono ?_
      rintro e w1 ⟨v, rfl, hU, rfl⟩
      obtain ⟨pv, cv, hvv, _⟩ := hU.form
      subst hvv
      go_wp2
      go_ret2
      refine ⟨.slice pv _ cv, ?_, hU, hbel⟩
      show Ending.returned (.tuple #[.slice pv (limbs (x / s)).length cv, .bool ((l : Int) == 0)]) = _
      rw [HE.out]
    | succ j =>
      have hj : j < (limbs x).length := by have := HN.out; omega
      obtain ⟨b, off, cap', hv, hbs, hl1, hm1, hc⟩ := (HA.out.below hbel).pos (by omega)
      injection hv with hv1 hv2 hv3
      subst hv1
      subst hv3
      have hck := hc j hj
      have hd := Bn.limbs_get_lt hj
      have hva := val_at (limbs x) j hj
      generalize (limbs x)[j] = d at *
      have hR' : RowAt wr w.heap.size 0 (List.replicate j 0 ++ 0 :: q) := by
        rw [List.replicate_succ', List.append_assoc] at hR; exact hR
      obtain ⟨hc1, hc2⟩ := hR' j (by simp)
      rw [Nat.zero_add] at hc1 hc2
      rw [show ((List.replicate j 0 ++ 0 :: q)[j]'(by simp)) = 0 from by simp] at hc1
      obtain ⟨t, et⟩ : ∃ t, t = l * 1000000000 + d := ⟨_, rfl⟩
      have eT : (l : Int) * 1000000000 + (d : Int) = (t : Int) := by rw [et]; simp
      have ht : t < s * 1000000000 := by
        have := Nat.mul_le_mul_right 1000000000 (show l + 1 ≤ s from hls)
        omega
      have hq0 : t / s < 1000000000 := by rw [Nat.div_lt_iff_lt_mul hs0, Nat.mul_comm]; exact ht
      have hr0 : t % s < s := Nat.mod_lt _ hs0
      have eq0 : (t : Int) / (s : Int) = ((t / s : Nat) : Int) := rfl
      have er0 : (t : Int) % (s : Int) = ((t % s : Nat) : Int) := rfl
      have HST : Hid (d + 1000000000 * Bn.val ((limbs x).drop (j + 1)) = s * (t / s + 1000000000 * Bn.val q) + t % s) := short_step HQ.out.2.2 (by rw [← et]; exact (Nat.div_add_mod t s).symm)
      have htI : t < 1000000000000000000 := by omega
      obtain ⟨q0, hq0e⟩ : ∃ q0, q0 = t / s := ⟨_, rfl⟩
      obtain ⟨r0, hr0e⟩ : ∃ r0, r0 = t % s := ⟨_, rfl⟩
      rw [← hq0e] at hq0 eq0 HST
      rw [← hr0e] at hr0 er0 HST
      have HV : Hid (Bn.val ((limbs x).drop j) = d + 1000000000 * Bn.val ((limbs x).drop (j + 1))) := hva
      have HR : Hid (RowAt wr w.heap.size 0 (List.replicate j 0 ++ 0 :: q)) := hR'
      have hsI : (0 : Int) < (s : Int) := by omega
      have hjI : (j : Int) < (n : Int) := by omega
      clear hv2 hq0e hr0e et hc hva hR hR'
      go_wp2
      have hset := HR.out.set (k := j) (n := q0) (u := (q0 : Int)) (by simp) rfl
      rw [Nat.zero_add, List.append_assoc] at hset
      have hq := HQ.out
      refine ⟨⟨j, r0, q0 :: q, rfl, by omega, by rw [er0], hr0, ⟨by have := hq.1; simp; omega, fun e he => ?_, ?_⟩, hset, hbel.setCell (p := ⟨w.heap.size, j, none⟩) (Nat.le_refl _) _, by simpa [World.setCell] using hwr⟩, by simp [intOf]⟩
      · rcases List.mem_cons.1 he with rfl | he
        · exact hq0
        · exact hq.2.1 e he
      · rw [HV.out, HST.out]; rfl

theorem made_toList (n : Nat) : (madeCells #[.int .u32 0] n).toList = cells32 (List.replicate n 0) := by
  apply List.ext_getElem
  · simp [size_madeCells, cells32]
  · intro i h1 h2
    simp [madeCells, cells32, Nat.mod_one]

theorem add_none (b o j : Nat) : (⟨b, o, none⟩ : Addr).add j = ⟨b, o + j, none⟩ := by
  cases j <;> simp [Addr.add]

theorem copied {W : World} {lb n : Nat} {S : List Nat} (hL : W.heap[lb]? = some (.cells (madeCells #[.int .u32 0] n) 75 (0, 0))) {V : World}
    (hV : V = W.setRow lb ((madeCells #[.int .u32 0] n).toList.take 0 ++ cells32 S ++ (madeCells #[.int .u32 0] n).toList.drop (0 + (cells32 S).length)).toArray) :
    RowAt V lb 0 (S ++ List.replicate (n - S.length) 0) ∧ V.heap.size = W.heap.size ∧ (∀ k, k ≠ lb → V.heap[k]? = W.heap[k]?) ∧ Below lb W V := by
  have e : ((madeCells #[.int .u32 0] n).toList.take 0 ++ cells32 S ++ (madeCells #[.int .u32 0] n).toList.drop (0 + (cells32 S).length)) = cells32 (S ++ List.replicate (n - S.length) 0) := by
    rw [made_toList]
    simp [cells32]
  rw [e] at hV
  subst hV
  refine ⟨fun j hj => ?_, by simp [World.setRow], fun k hk => setRow_other W lb k _ hk, ⟨rfl, rfl, rfl, by simp [World.setRow], fun k hk => setRow_other W lb k _ (by omega)⟩⟩
  have hh := setRow_heap W lb _ (cells32 (S ++ List.replicate (n - S.length) 0)).toArray 75 _ hL
  rw [Nat.zero_add]
  generalize hM : S ++ List.replicate (n - S.length) 0 = M at *
  generalize hX : W.setRow lb (cells32 M).toArray = X at *
  constructor
  · simp only [World.cell?, hh]
    simp [cells32, hj]
  · simp [World.frozen?, hh]
end Go.Proofs.YtangepgiamhenaaDoor
