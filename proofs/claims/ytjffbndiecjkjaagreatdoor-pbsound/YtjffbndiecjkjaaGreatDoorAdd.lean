/-
  Package big: addLimbs, size, limbs.
-/
import Derived.Test.YtjffbndiecjkjaaGreatDoorAddLimbs
namespace Go.Proofs.YtjffbndiecjkjaaGreatDoor
open Go.RowKit
open Bn (limbs)

set_option maxHeartbeats 1000000 in
set_option maxRecDepth 100000 in
/-- size. -/
theorem size_any (n : Int) (w : World) (h1 : -9223372036854775808 ≤ n) (h2 : n ≤ 9223372036854775807) :
    Calls Tryz.prog 84 #[.int .i64 n] w fun e w' => e = .returned (.int .u64 (n.natAbs : Int)) ∧ w' = w := by
  by_cases h : n < 0
  · have e : IntKind.u64.wrap (-IntKind.u64.wrap n) = (n.natAbs : Int) := by rw [IntKind.wrap_u64, IntKind.wrap_u64]; omega
    have E : Hid _ := e
    clear e
    go_enter Tryz.func84, Tryz.ntmps84
    go_wp2
    go_ret
    exact ⟨ret_int E.out, rfl⟩
  · have e : n = (n.natAbs : Int) := by omega
    have E : Hid _ := e
    clear e
    go_enter Tryz.func84, Tryz.ntmps84
    go_wp2
    go_ret
    exact ⟨ret_int E.out, rfl⟩

theorem alloc_first (V : World) (o : Value) (t : TypeId) : (V.alloc (.cells #[o] t)).cell? ⟨V.heap.size, 0, none⟩ = some o := by simp

set_option maxHeartbeats 1000000 in
set_option maxRecDepth 100000 in
/-- addLimbs. -/
theorem addLimbs_any (x y : Nat) (va vb : Value) (w : World) (ha : U32At w va (limbs x)) (hb : U32At w vb (limbs y)) (hx : (limbs x).length ≤ 5000000) (hy : (limbs y).length ≤ 5000000) :
    Calls Tryz.prog 64 #[va, vb] w fun e w' => ∃ v, e = .returned v ∧ U32At w' v (limbs (x + y)) ∧ Below w.heap.size w w' ∧ (∀ k, v.ownBlock = some k → w.heap.size ≤ k) := by
  have hmf : ∀ (fn : Fn) (first cap : Array Value) (w : World), (Instr.makeFunc fn first cap).run Tryz.prog w = .ok (.func fn first cap) w := fun _ _ _ _ => rfl
  obtain ⟨pa, ca, rfl, hma⟩ := ha.form
  obtain ⟨pb, cb, rfl, hmb⟩ := hb.form
  obtain ⟨n, hn⟩ : ∃ n, n = max (limbs x).length (limbs y).length := ⟨_, rfl⟩
  have hnI : max ((limbs x).length : Int) ((limbs y).length : Int) = (n : Int) := by omega
  obtain ⟨W3, hW3⟩ : ∃ W3, W3 = ((w.alloc (.cells #[.slice pa (limbs x).length ca] 76)).alloc (.cells #[.slice pb (limbs y).length cb] 76)).alloc (.cells #[.int .i64 (n : Int)] 3) := ⟨_, rfl⟩
  have hs3 : W3.heap.size = w.heap.size + 3 := by rw [hW3]; simp
  have hb3 : Below w.heap.size w W3 := by
    rw [hW3]; exact (((Below.refl _ _).alloc (Nat.le_refl _) _).alloc (by simp) _).alloc (by simp; omega) _
  have k0 : W3.cell? ⟨w.heap.size, 0, none⟩ = some (.slice pa (limbs x).length ca) := by rw [hW3, World.cell?_alloc_past _ _ _ (by simp; omega), World.cell?_alloc_past _ _ _ (by simp)]; simp
  have k1 : W3.cell? ⟨w.heap.size + 1, 0, none⟩ = some (.slice pb (limbs y).length cb) := by
    rw [hW3, World.cell?_alloc_past _ _ _ (by simp)]
    have : (w.alloc (.cells #[.slice pa (limbs x).length ca] 76)).heap.size = w.heap.size + 1 := by simp
    rw [← this]; simp
  have k2 : W3.cell? ⟨w.heap.size + 1 + 1, 0, none⟩ = some (.int .i64 (n : Int)) := by
    rw [hW3]
    have : ((w.alloc (.cells #[.slice pa (limbs x).length ca] 76)).alloc (.cells #[.slice pb (limbs y).length cb] 76)).heap.size = w.heap.size + 1 + 1 := by simp
    rw [← this]; exact alloc_first _ _ _
  have hC := tallied_any 90 #[.pointer (some ⟨w.heap.size + 1 + 1, 0, none⟩), .pointer (some ⟨w.heap.size, 0, none⟩), .pointer (some ⟨w.heap.size + 1, 0, none⟩)] (n + 1) (told (fun p => lAt (limbs x) p + lAt (limbs y) p) n).2 (told (fun p => lAt (limbs x) p + lAt (limbs y) p) n).1 W3 (by omega)
    (by have := told_carry (fun p => lAt (limbs x) p + lAt (limbs y) p) 2000000000 (fun p => by have := lAt_lt (fun d h => Bn.limbs_lt' (m := x) h) p; have := lAt_lt (fun d h => Bn.limbs_lt' (m := y) h) p; show _ + _ ≤ _; omega) n; omega)
    (by rw [told_length]; omega) (told_lt _ _) enter75
    (fun W base tb hB hbs hT => addLimbs1_any (limbs x) (limbs y) _ _ n w.heap.size (w.heap.size + 1) (w.heap.size + 1 + 1) base tb W hT (by omega)
      ((hB.cell (p := ⟨w.heap.size, 0, none⟩) (show w.heap.size < W3.heap.size by omega)).trans k0) ((hB.cell (p := ⟨w.heap.size + 1, 0, none⟩) (show w.heap.size + 1 < W3.heap.size by omega)).trans k1) ((hB.cell (p := ⟨w.heap.size + 1 + 1, 0, none⟩) (show w.heap.size + 1 + 1 < W3.heap.size by omega)).trans k2) (by omega) (by omega)
      (fun W' hB' => ha.below (hb3.trans ((hB.mono hb3.size).trans (hB'.mono (by omega))))) (fun W' hB' => hb.below (hb3.trans ((hB.mono hb3.size).trans (hB'.mono (by omega))))) (fun d h => Bn.limbs_lt' h) (fun d h => Bn.limbs_lt' h))
  rw [told_trim, sumP_add, sumP_all (by omega), sumP_all (by omega), Bn.val_limbs', Bn.val_limbs', hW3] at hC
  have HC : Hid (Calls Tryz.prog 89 #[.int .i64 ((n : Int) + 1), .func (.func 90) #[] #[.pointer (some ⟨w.heap.size + 1 + 1, 0, none⟩), .pointer (some ⟨w.heap.size, 0, none⟩), .pointer (some ⟨w.heap.size + 1, 0, none⟩)]]
    (((w.alloc (.cells #[.slice pa (limbs x).length ca] 76)).alloc (.cells #[.slice pb (limbs y).length cb] 76)).alloc (.cells #[.int .i64 (n : Int)] 3)) fun e w' => ∃ v, e = .returned v ∧ U32At w' v (limbs (x + y)) ∧ Below w.heap.size w w' ∧ (∀ k, v.ownBlock = some k → w.heap.size ≤ k)) := by
    refine hC.mono ?_
    rw [← hW3]
    rintro e w' ⟨v, rfl, hU, hB, hfr⟩
    exact ⟨v, rfl, hU, hb3.trans (hB.mono hb3.size), fun k hk => Nat.le_trans hb3.size (hfr k hk)⟩
  have hnb : n ≤ 5000000 := by omega
  clear hC k0 k1 k2 hb3 hs3 hW3 ha hb hn
  go_enter Tryz.func64, Tryz.ntmps64
  go_wp2_with fail
  refine HC.out.mono ?_
  rintro e w' ⟨v, rfl, hU, hB, hfr⟩
  go_wp2
  go_ret
  exact ⟨_, rfl, hU, hB, hfr⟩

set_option maxHeartbeats 1000000 in
set_option maxRecDepth 100000 in
/-- limbs. -/
theorem limbs_any (z : Int) (v : Value) (w : World) (h : BigAt w v z) :
    Calls Tryz.prog 63 #[v] w fun e w' => ∃ r, e = .returned r ∧ U32At w' r (limbs z.natAbs) ∧ Below w.heap.size w w' := by
  rcases h with ⟨hf, rfl⟩ | ⟨hf, p, s, rfl, hp, h0, h1, hU⟩
  · have HF : Hid (Fits z) := hf
    have hb0 : Below w.heap.size w (w.alloc (.cells #[.int .i64 z, .pointer none] 33)) := (Below.refl _ _).alloc (Nat.le_refl _) _
    clear hf
    go_enter Tryz.func63, Tryz.ntmps63
    go_wp2_with fail
    refine (size_any z _ HF.out.1 HF.out.2).mono ?_
    rintro e w1 ⟨rfl, hw1⟩
    go_wp2_with fail
    refine (limbsOf_any z.natAbs _ (by have := HF.out; unfold Fits at this; omega)).mono ?_
    rintro e w2 ⟨v, rfl, hU, hb, _⟩
    go_wp2
    go_ret
    exact ⟨_, rfl, hU, hb0.trans (hb.mono (by simp))⟩
  · have hb0 : Below w.heap.size w (w.alloc (.cells #[.int .i64 0, .pointer (some ⟨p, 0, none⟩)] 33)) := (Below.refl _ _).alloc (Nat.le_refl _) _
    go_enter Tryz.func63, Tryz.ntmps63
    go_wp2_with fail
    go_ret
    exact ⟨_, rfl, hU.below hb0, hb0⟩

end Go.Proofs.YtjffbndiecjkjaaGreatDoor
