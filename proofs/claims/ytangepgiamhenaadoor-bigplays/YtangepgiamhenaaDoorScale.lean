/-
  Package big: scaleLimbs.
-/
import Derived.Test.YtangepgiamhenaaDoorAdd
namespace Go.Proofs.YtangepgiamhenaaDoor
open Go.RowKit
open Bn (limbs)

theorem enter103 (args : Array Value) (w : World) : (callFunc 103 args).run Tryd.prog w = .ok (.enter 103 args) w := enter_body Tryd.func103 (by kernel_rfl) rfl args w

set_option maxHeartbeats 1000000 in
set_option maxRecDepth 100000 in
theorem scaleLimbs1_any (a : List Nat) (va : Value) (s ab sb base tb : Nat) (W : World) (hT : TallyAt W base tb [] 0) (hn : a.length ≤ 10000000) (hs : s ≤ 1000000000)
    (hca : W.cell? ⟨ab, 0, none⟩ = some va) (hcs : W.cell? ⟨sb, 0, none⟩ = some (.int .u64 (s : Int)))
    (hsb : sb < base) (hua : ∀ W', Below base W W' → U32At W' va a) (hda : ∀ d ∈ a, d < 1000000000) :
    Calls Tryd.prog 103 (#[.func (.func 92) #[.pointer (some ⟨tb, 0, none⟩)] #[]] ++ #[.pointer (some ⟨ab, 0, none⟩), .pointer (some ⟨sb, 0, none⟩)]) W fun e W' => e = .returned (.tuple #[]) ∧ TallyAt W' base tb (told (fun p => s * lAt a p) a.length).1 (told (fun p => s * lAt a p) a.length).2 ∧ Below base W W' := by
  obtain ⟨pa, cap, rfl, hml⟩ := (hua W (Below.refl _ _)).form
  go_enter Tryd.func103, Tryd.ntmps103
  go_wp2
  go_loopw [8] (fun iv wr => ∃ k : Nat, iv = .int .i64 (k : Int) ∧ k ≤ a.length ∧ TallyAt wr base tb (told (fun p => s * lAt a p) k).1 (told (fun p => s * lAt a p) k).2 ∧ Below base W wr) (fun iv _ => a.length - (intOf iv).toNat)
  case atStart => exact ⟨0, rfl, Nat.zero_le _, hT, Below.refl _ _⟩
  case round =>
    clear hT
    obtain ⟨k, rfl, hk, hT, hbel⟩ := hrel
    have hcs' : wr.cell? ⟨sb, 0, none⟩ = some (.int .u64 (s : Int)) := (hbel.cell (p := ⟨sb, 0, none⟩) hsb).trans hcs
    by_cases hlt : k < a.length
    · have hltI : (k : Int) < (a.length : Int) := by omega
      have h1 := lAt_lt hda k
      obtain ⟨b, off, cap', hv, hbs, hl1, hm1, hc⟩ := (hua wr hbel).pos (by omega)
      injection hv with hv1 hv2 hv3
      subst hv1
      subst hv3
      have hck := hc k hlt
      rw [← lAt_get hlt] at hck
      have hc' := told_carry (fun p => s * lAt a p) 1000000000000000000 (fun p => by have := lAt_lt hda p; exact Nat.le_trans (Nat.mul_le_mul hs (Nat.le_of_lt this)) (by decide)) k
      have hlen : (told (fun p => s * lAt a p) k).1.length ≤ 100000000 := by rw [told_length]; omega
      have HN : Hid (∀ W' : World, TallyAt W' base tb ((told (fun p => s * lAt a p) k).1 ++ [((told (fun p => s * lAt a p) k).2 + s * lAt a k) % 1000000000]) (((told (fun p => s * lAt a p) k).2 + s * lAt a k) / 1000000000) → TallyAt W' base tb (told (fun p => s * lAt a p) (k + 1)).1 (told (fun p => s * lAt a p) (k + 1)).2) := fun _ h => h
      generalize (told (fun p => s * lAt a p) k).1 = L at *
      generalize (told (fun p => s * lAt a p) k).2 = c at *
      obtain ⟨d, ed⟩ : ∃ d, d = lAt a k := ⟨_, rfl⟩
      rw [← ed] at HN h1 hck
      clear ed
      obtain ⟨m, em⟩ : ∃ m, m = s * d := ⟨_, rfl⟩
      have hmul : (d : Int) * (s : Int) = (m : Int) := by rw [em, Nat.mul_comm]; simp
      have hm : m ≤ 1000000000000000000 := by
        rw [em]; exact Nat.le_trans (Nat.mul_le_mul hs (Nat.le_of_lt h1)) (by decide)
      rw [← em] at HN
      have HD : Hid (Calls Tryd.prog 92 #[.pointer (some ⟨tb, 0, none⟩), .int .u64 0, .int .u64 (m : Int)] wr fun e w' => e = .returned (.tuple #[]) ∧ TallyAt w' base tb (L ++ [(c + m) % 1000000000]) ((c + m) / 1000000000) ∧ Below base wr w') :=
        tell_any base tb 0 m c ((c + m) / 1000000000) ((c + m) % 1000000000) L wr hT (by omega) (by omega) (by omega) hlen
      clear hca hcs hua hda hT em hc
      go_wp2_with (go_at_call 92; refine calls_of HD.out (by with_reducible rfl) ?_; rintro e w' ⟨rfl, hT', hb'⟩)
      go_roundw
      case rel => exact ⟨k + 1, by go_num, by omega, HN.out _ hT', hbel.trans hb'⟩
      case measure => simp [intOf]; omega
    · obtain rfl : k = a.length := by omega
      go_wp2
      go_end0
      exact ⟨rfl, hT, hbel⟩

set_option maxHeartbeats 1000000 in
set_option maxRecDepth 100000 in
/-- scaleLimbs. -/
theorem scaleLimbs_any (x s : Nat) (va : Value) (w : World) (ha : U32At w va (limbs x)) (hx : (limbs x).length ≤ 5000000) (hs : s ≤ 1000000000) :
    Calls Tryd.prog 94 #[va, .int .u64 (s : Int)] w fun e w' => ∃ v, e = .returned v ∧ U32At w' v (limbs (s * x)) ∧ Below w.heap.size w w' ∧ (∀ k, v.ownBlock = some k → w.heap.size ≤ k) := by
  have hmf : ∀ (fn : Fn) (first cap : Array Value) (w : World), (Instr.makeFunc fn first cap).run Tryd.prog w = .ok (.func fn first cap) w := fun _ _ _ _ => rfl
  obtain ⟨pa, ca, rfl, hma⟩ := ha.form
  obtain ⟨W3, hW3⟩ : ∃ W3, W3 = (w.alloc (.cells #[.slice pa (limbs x).length ca] 66)).alloc (.cells #[.int .u64 (s : Int)] 74) := ⟨_, rfl⟩
  have hs3 : W3.heap.size = w.heap.size + 2 := by rw [hW3]; simp
  have hb3 : Below w.heap.size w W3 := by
    rw [hW3]; exact ((Below.refl _ _).alloc (Nat.le_refl _) _).alloc (by simp) _
  have k0 : W3.cell? ⟨w.heap.size, 0, none⟩ = some (.slice pa (limbs x).length ca) := by rw [hW3, World.cell?_alloc_past _ _ _ (by simp)]; simp
  have k1 : W3.cell? ⟨w.heap.size + 1, 0, none⟩ = some (.int .u64 (s : Int)) := by
    rw [hW3]
    have : (w.alloc (.cells #[.slice pa (limbs x).length ca] 66)).heap.size = w.heap.size + 1 := by simp
    rw [← this]; exact alloc_first _ _ _
  have hcar := told_carry (fun p => s * lAt (limbs x) p) 1000000000000000000 (fun p => by have := lAt_lt (fun d h => Bn.limbs_lt' (m := x) h) p; exact Nat.le_trans (Nat.mul_le_mul hs (Nat.le_of_lt this)) (by decide)) (limbs x).length
  have hC := tallied_any 103 #[.pointer (some ⟨w.heap.size, 0, none⟩), .pointer (some ⟨w.heap.size + 1, 0, none⟩)] ((limbs x).length + 1) (told (fun p => s * lAt (limbs x) p) (limbs x).length).2 (told (fun p => s * lAt (limbs x) p) (limbs x).length).1 W3 (by omega)
    (by omega) (by rw [told_length]; omega) (told_lt _ _) enter103
    (fun W base tb hB hbs hT => scaleLimbs1_any (limbs x) _ s w.heap.size (w.heap.size + 1) base tb W hT (by omega) hs
      ((hB.cell (p := ⟨w.heap.size, 0, none⟩) (show w.heap.size < W3.heap.size by omega)).trans k0) ((hB.cell (p := ⟨w.heap.size + 1, 0, none⟩) (show w.heap.size + 1 < W3.heap.size by omega)).trans k1) (by omega)
      (fun W' hB' => ha.below (hb3.trans ((hB.mono hb3.size).trans (hB'.mono (by omega))))) (fun d h => Bn.limbs_lt' h))
  rw [told_trim, sumP_mul, sumP_all (Nat.le_refl _), Bn.val_limbs', hW3] at hC
  have HC : Hid (Calls Tryd.prog 74 #[.int .i64 (((limbs x).length : Int) + 1), .func (.func 103) #[] #[.pointer (some ⟨w.heap.size, 0, none⟩), .pointer (some ⟨w.heap.size + 1, 0, none⟩)]]
    ((w.alloc (.cells #[.slice pa (limbs x).length ca] 66)).alloc (.cells #[.int .u64 (s : Int)] 74)) fun e w' => ∃ v, e = .returned v ∧ U32At w' v (limbs (s * x)) ∧ Below w.heap.size w w' ∧ (∀ k, v.ownBlock = some k → w.heap.size ≤ k)) := by
    refine hC.mono ?_
    rw [← hW3]
    rintro e w' ⟨v, rfl, hU, hB, hfr⟩
    exact ⟨v, rfl, hU, hb3.trans (hB.mono hb3.size), fun k hk => Nat.le_trans hb3.size (hfr k hk)⟩
  clear hC k0 k1 hb3 hs3 hW3 ha hcar
  go_enter Tryd.func94, Tryd.ntmps94
  go_wp2_with fail
  refine HC.out.mono ?_
  rintro e w' ⟨v, rfl, hU, hB, hfr⟩
  go_wp2
  go_ret
  exact ⟨_, rfl, hU, hB, hfr⟩
end Go.Proofs.YtangepgiamhenaaDoor
