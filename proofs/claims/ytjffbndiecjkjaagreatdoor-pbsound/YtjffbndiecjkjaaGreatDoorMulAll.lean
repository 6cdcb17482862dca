/-
  Put together: Column, MulLimbs, Mul, MulInts.
-/
import Derived.Test.YtjffbndiecjkjaaGreatDoorAddLimbs
import Derived.Test.YtjffbndiecjkjaaGreatDoorAdd
import Derived.Test.YtjffbndiecjkjaaGreatDoorPlus
namespace Go.Proofs.YtjffbndiecjkjaaGreatDoor
open Go.RowKit
open Bn (limbs)

theorem col_num {hi lo m s c : Nat} (hs : s = (lo + m) % 18446744073709551616) (hc : c = (lo + m) / 18446744073709551616) : (hi + c) * 18446744073709551616 + s = hi * 18446744073709551616 + lo + m := by
  rw [Nat.add_mul]
  have h := Nat.div_add_mod (lo + m) 18446744073709551616
  rw [← hs, ← hc, Nat.mul_comm] at h
  rw [Nat.add_assoc, h, Nat.add_assoc]

set_option maxRecDepth 100000 in
set_option maxHeartbeats 1000000 in
/-- column. -/
theorem column_any (a b : List Nat) (p : Nat) (va vb : Value) (w : World) (ha : U32At w va a) (hb : U32At w vb b) (hda : ∀ d ∈ a, d < 1000000000) (hdb : ∀ d ∈ b, d < 1000000000) (hla : a.length ≤ 5000000) (hlb : b.length ≤ 5000000) (hp : p ≤ 10000000) :
    Calls Tryz.prog 103 #[va, vb, .int .i64 (p : Int)] w fun e w' => ∃ hi lo : Nat, e = .returned (.tuple #[.int .u64 (hi : Int), .int .u64 (lo : Int)]) ∧ hi * 18446744073709551616 + lo = conv a b p ∧ lo < 18446744073709551616 ∧ Below w.heap.size w w' := by
  have HA : Hid (U32At w va a) := ha
  have HB : Hid (U32At w vb b) := hb
  obtain ⟨pa, ca, rfl, hma⟩ := ha.form
  obtain ⟨pb, cb, rfl, hmb⟩ := hb.form
  have hi0 : ∃ i0 : Nat, max 0 ((p : Int) - (b.length : Int) + 1) = (i0 : Int) ∧ (i0 = 0 ∨ i0 + b.length ≤ p + 1) ∧ p + 1 ≤ i0 + b.length := ⟨p + 1 - b.length, by omega, by omega, by omega⟩
  obtain ⟨i0, hi1, hi2, hi3⟩ := hi0
  have H0 : Hid (psum a b p i0 = 0) := by
    show _ = _
    rcases hi2 with h | h
    · rw [h]; rfl
    · exact psum_lo a b p i0 h
  clear ha hb
  go_enter Tryz.func103, Tryz.ntmps103
  go_wp2
  go_loopw [6, 7, 8] (fun hv lv iv wr => ∃ i hi lo : Nat, iv = .int .i64 (i : Int) ∧ hv = .int .u64 (hi : Int) ∧ lv = .int .u64 (lo : Int) ∧ Hid (hi * 18446744073709551616 + lo = psum a b p i) ∧ lo < 18446744073709551616 ∧ (i ≤ min (p + 1) a.length ∨ i + b.length ≤ p + 1) ∧ p + 1 ≤ i + b.length ∧ i ≤ 10000001 ∧ Below w.heap.size w wr) (fun _ _ iv _ => 10000001 - (intOf iv).toNat)
  case atStart => exact ⟨i0, 0, 0, rfl, rfl, rfl, by show _ = _; rw [H0.out], by omega, by omega, hi3, by omega, Below.refl _ _⟩
  case round =>
    clear hi1 hi2 hi3 H0
    obtain ⟨i, hi, lo, rfl, rfl, rfl, hH, hlo, h1, h2, h3, hbel⟩ := hrel
    by_cases hlt : i < min (p + 1) a.length
    · have hcI : (i : Int) < min ((p : Int) + 1) (a.length : Int) := by omega
      obtain ⟨j, hj⟩ : ∃ j, j = p - i := ⟨_, rfl⟩
      have hjI : (p : Int) - (i : Int) = (j : Int) := by omega
      have hia : i < a.length := by omega
      have hjb : j < b.length := by omega
      obtain ⟨ba, oa, ca', hva, hba, _, _, hca⟩ := HA.out.pos (by omega)
      obtain ⟨bb, ob, cb', hvb, hbb, _, _, hcb⟩ := HB.out.pos (by omega)
      injection hva with e1 _ e3
      injection hvb with e4 _ e6
      subst e1 e3 e4 e6
      have k1 : wr.cell? ⟨ba, oa + i, none⟩ = some (.int .u32 ((lAt a i : Nat) : Int)) := by rw [lAt_get hia]; exact (hbel.cell (p := ⟨ba, oa + i, none⟩) hba).trans (hca i hia)
      have k2 : wr.cell? ⟨bb, ob + j, none⟩ = some (.int .u32 ((lAt b j : Nat) : Int)) := by rw [lAt_get hjb]; exact (hbel.cell (p := ⟨bb, ob + j, none⟩) hbb).trans (hcb j hjb)
      have u1 := lAt_lt hda i
      have u2 := lAt_lt hdb j
      have hps := psum_le a b hda hdb p i
      have hH' := hH.out
      have hhi : hi ≤ 1000000 := by omega
      have HN : Hid (psum a b p (i + 1) = psum a b p i + lAt a i * lAt b j) := by show _ = _; rw [psum, if_pos (by omega), ← hj]
      have hiI : (i : Int) < (a.length : Int) := by omega
      have hjI2 : (j : Int) < (b.length : Int) := by omega
      generalize lAt a i = u at *
      generalize lAt b j = v at *
      obtain ⟨m, hm⟩ : ∃ m, m = u * v := ⟨_, rfl⟩
      have hmul : (u : Int) * (v : Int) = (m : Int) := by rw [hm]; simp
      have hmb2 : m ≤ 1000000000000000000 := by rw [hm]; exact Nat.le_trans (Nat.mul_le_mul (Nat.le_of_lt u1) (Nat.le_of_lt u2)) (by decide)
      rw [← hm] at HN
      obtain ⟨s, hs⟩ : ∃ s : Nat, s = (lo + m) % 18446744073709551616 := ⟨_, rfl⟩
      obtain ⟨c, hc⟩ : ∃ c : Nat, c = (lo + m) / 18446744073709551616 := ⟨_, rfl⟩
      have hadd : ∀ w, (callFunc 125 #[.int .u64 (lo : Int), .int .u64 (m : Int), .int .u64 0]).run Tryz.prog w = .ok (.value (.tuple #[.int .u64 (s : Int), .int .u64 (c : Int)])) w := by
        have e1 : ((lo : Int) + (m : Int)) % 18446744073709551616 = (s : Int) := by omega
        have e2 : ((lo : Int) + (m : Int)) / 18446744073709551616 = (c : Int) := by omega
        intro w
        have h := add64 (lo : Int) (m : Int) (Int.natCast_nonneg lo) (Int.natCast_nonneg m) w
        simp only [e1, e2] at h
        exact h
      have HS : Hid ((hi + c) * 18446744073709551616 + s = psum a b p (i + 1)) := by show _ = _; rw [HN.out, ← hH', col_num hs hc]
      have hsb : s < 18446744073709551616 := by omega
      have hcb1 : c ≤ 1 := by omega
      clear hH hH' HN hm hs hc hps hj hca hcb
      go_wp2
      go_quiet (fail)
      go_wp2
      go_roundw
      case rel => exact ⟨i + 1, hi + c, s, by go_num, by rw [Int.natCast_add], rfl, HS.out, hsb, .inl (by omega), by omega, by omega, below_drewN hbel _⟩
      case measure => simp [intOf]; omega
    · have hcI : ¬ (i : Int) < min ((p : Int) + 1) (a.length : Int) := by omega
      have HF : Hid (hi * 18446744073709551616 + lo = conv a b p) := by
        show _ = _
        rw [hH.out, conv_min]
        rcases h1 with h | h
        · rw [show i = min (p + 1) a.length from by omega]
        · rw [psum_lo a b p i h, psum_lo a b p (min (p + 1) a.length) (by omega)]
      clear hH
      go_wp2
      go_ret2
      exact ⟨hi, lo, rfl, HF.out, hlo, hbel⟩
end Go.Proofs.YtjffbndiecjkjaaGreatDoor

namespace Go.Proofs.YtjffbndiecjkjaaGreatDoor
open Go.RowKit
open Bn (limbs)

theorem ownsRow_below {w w' : World} {base : Nat} {e : TypeId} {size : Nat} {v : Value} {n : Nat} {xs : List Value} (h : w.ownsRow base e size v n xs) (hb : Below w.heap.size w w') : w'.ownsRow base e size v n xs := by
  have hlt := h.lt
  obtain ⟨h1, h2 | ⟨g, cap, cur, hv, hg, hh, r⟩⟩ := h
  · exact ⟨h1, .inl h2⟩
  · exact ⟨h1, .inr ⟨g, cap, cur, hv, hg, (hb.block g (hlt g (by rw [hv]; rfl)).2).trans hh, r⟩⟩
theorem TallyAt.below {w w' : World} {base tb : Nat} {l : List Nat} {c : Nat} (h : TallyAt w base tb l c) (hb : Below w.heap.size w w') : TallyAt w' base tb l c := by
  obtain ⟨v, h1, h2, h3, h4, hown, hne, htb, hbt⟩ := h
  exact ⟨v, (hb.cell (p := ⟨tb, 0, none⟩) htb).trans h1, (hb.cell (p := ⟨tb, 1, none⟩) htb).trans h2, (hb.frozen (p := ⟨tb, 0, none⟩) htb).trans h3, (hb.frozen (p := ⟨tb, 1, none⟩) htb).trans h4, ownsRow_below hown hb, hne, Nat.lt_of_lt_of_le htb hb.size, hbt⟩
theorem enter79 (args : Array Value) (w : World) : (callFunc 102 args).run Tryz.prog w = .ok (.enter 102 args) w := enter_body Tryz.func102 (by kernel_rfl) rfl args w

theorem conv_le (a b : List Nat) (ha : ∀ d ∈ a, d < 1000000000) (hb : ∀ d ∈ b, d < 1000000000) (hl : a.length ≤ 5000000) (p : Nat) : conv a b p ≤ 5000000000000000000000000 := by
  rw [conv_psum]
  exact Nat.le_trans (psum_le a b ha hb p a.length) (Nat.le_trans (Nat.mul_le_mul_right _ hl) (by decide))
theorem told_small (f : Nat → Nat) (M : Nat) (h : ∀ p, f p ≤ M) (k : Nat) : (told f k).2 ≤ M / 999999999 + 1 := by
  induction k with
  | zero => simp [told]
  | succ k ih => simp only [told]; have := h k; omega

theorem mul_num {hi lo c f : Nat} (hE : hi * 18446744073709551616 + lo = f) : hi * 18446744073709551616 + lo + c = (c + f) / 1000000000 * 1000000000 + (c + f) % 1000000000 := by
  rw [hE]
  have h := Nat.div_add_mod (c + f) 1000000000
  rw [Nat.mul_comm] at h
  rw [h, Nat.add_comm]
theorem mul_bound {c f : Nat} (hc : c ≤ 5000000000000000000000000 / 999999999 + 1) (hf : f ≤ 5000000000000000000000000) : (c + f) / 1000000000 < 18446744073709551616 := by
  omega

set_option maxHeartbeats 1000000 in
set_option maxRecDepth 100000 in
theorem mulLimbs1_any (a b : List Nat) (va vb : Value) (n ab bb nb base tb : Nat) (W : World) (hT : TallyAt W base tb [] 0) (hn : n ≤ 10000000)
    (hca : W.cell? ⟨ab, 0, none⟩ = some va) (hcb : W.cell? ⟨bb, 0, none⟩ = some vb) (hcn : W.cell? ⟨nb, 0, none⟩ = some (.int .i64 (n : Int)))
    (hab : ab < base) (hbb : bb < base) (hua : ∀ W', Below base W W' → U32At W' va a) (hub : ∀ W', Below base W W' → U32At W' vb b) (hda : ∀ d ∈ a, d < 1000000000) (hdb : ∀ d ∈ b, d < 1000000000) (hla : a.length ≤ 5000000) (hlb : b.length ≤ 5000000) (hbase : base ≤ W.heap.size) :
    Calls Tryz.prog 102 (#[.func (.func 108) #[.pointer (some ⟨tb, 0, none⟩)] #[]] ++ #[.pointer (some ⟨nb, 0, none⟩), .pointer (some ⟨ab, 0, none⟩), .pointer (some ⟨bb, 0, none⟩)]) W fun e W' => e = .returned (.tuple #[]) ∧ TallyAt W' base tb (told (conv a b) n).1 (told (conv a b) n).2 ∧ Below base W W' := by
  go_enter Tryz.func102, Tryz.ntmps102
  go_wp2
  go_loopw [7] (fun iv wr => ∃ k : Nat, iv = .int .i64 (k : Int) ∧ k ≤ n ∧ TallyAt wr base tb (told (conv a b) k).1 (told (conv a b) k).2 ∧ Below base W wr) (fun iv _ => n - (intOf iv).toNat)
  case atStart => exact ⟨0, rfl, Nat.zero_le _, hT, Below.refl _ _⟩
  case round =>
    clear hT
    obtain ⟨k, rfl, hk, hT, hbel⟩ := hrel
    have hca' : wr.cell? ⟨ab, 0, none⟩ = some va := (hbel.cell (p := ⟨ab, 0, none⟩) hab).trans hca
    have hcb' : wr.cell? ⟨bb, 0, none⟩ = some vb := (hbel.cell (p := ⟨bb, 0, none⟩) hbb).trans hcb
    by_cases hlt : k < n
    · have hltI : (k : Int) < (n : Int) := by omega
      have hsz : base ≤ wr.heap.size := Nat.le_trans hbase hbel.size
      have HC : Hid (∀ W', W' = wr ∨ W' = wr.drew → Calls Tryz.prog 103 #[va, vb, .int .i64 (k : Int)] W' fun e w' => ∃ hi lo : Nat, e = .returned (.tuple #[.int .u64 (hi : Int), .int .u64 (lo : Int)]) ∧ hi * 18446744073709551616 + lo = conv a b k ∧ lo < 18446744073709551616 ∧ Below wr.heap.size wr w') := by
        rintro W' (rfl | rfl)
        · exact column_any a b k va vb _ (hua _ hbel) (hub _ hbel) hda hdb hla hlb (by omega)
        · exact (column_any a b k va vb _ (hua _ hbel.drew) (hub _ hbel.drew) hda hdb hla hlb (by omega)).mono fun e w' ⟨hi, lo, h1, h2, h3, h4⟩ => ⟨hi, lo, h1, h2, h3, (Below.refl wr.heap.size wr).drew.trans h4⟩
      have hcv := conv_le a b hda hdb hla k
      have hcy := told_small (conv a b) _ (conv_le a b hda hdb hla) k
      have hlen : (told (conv a b) k).1.length ≤ 100000000 := by rw [told_length]; omega
      have HN : Hid (∀ W' : World, TallyAt W' base tb ((told (conv a b) k).1 ++ [((told (conv a b) k).2 + conv a b k) % 1000000000]) (((told (conv a b) k).2 + conv a b k) / 1000000000) → TallyAt W' base tb (told (conv a b) (k + 1)).1 (told (conv a b) (k + 1)).2) := fun _ h => h
      generalize (told (conv a b) k).1 = L at *
      generalize (told (conv a b) k).2 = c at *
      generalize conv a b k = f at *
      clear hca hcb hcn hua hub hda hdb
      go_wp2_with fail
      refine (HC.out _ (.inl rfl)).mono ?_
      rintro e w1 ⟨hi, lo, rfl, hE, hlo, hb1⟩
      have HD : Hid (Calls Tryz.prog 108 #[.pointer (some ⟨tb, 0, none⟩), .int .u64 (hi : Int), .int .u64 (lo : Int)] w1 fun e w' => e = .returned (.tuple #[]) ∧ TallyAt w' base tb (L ++ [(c + f) % 1000000000]) ((c + f) / 1000000000) ∧ Below base w1 w') :=
        tell_any base tb hi lo c ((c + f) / 1000000000) ((c + f) % 1000000000) L w1 (hT.below hb1) (mul_bound hcy hcv) (Nat.mod_lt _ (by decide)) (mul_num hE) hlen
      have hbel1 : Below base W w1 := hbel.trans (hb1.mono hsz)
      clear hE hlo hb1 HC hT
      go_wp2_with fail
      refine HD.out.mono ?_
      rintro e w2 ⟨rfl, hT', hb'⟩
      go_wp2
      go_roundw
      case rel => exact ⟨k + 1, by go_num, by omega, HN.out _ hT', hbel1.trans hb'⟩
      case measure => simp [intOf]; omega
    · obtain rfl : k = n := by omega
      go_wp2
      go_end0
      exact ⟨rfl, hT, hbel⟩


set_option maxHeartbeats 1000000 in
set_option maxRecDepth 100000 in
/-- mulLimbs. -/
theorem mulLimbs_any (x y : Nat) (va vb : Value) (w : World) (ha : U32At w va (limbs x)) (hb : U32At w vb (limbs y)) (hx : (limbs x).length ≤ 5000000) (hy : (limbs y).length ≤ 5000000) :
    Calls Tryz.prog 85 #[va, vb] w fun e w' => ∃ v, e = .returned v ∧ U32At w' v (limbs (x * y)) ∧ Below w.heap.size w w' := by
  have hmf : ∀ (fn : Fn) (first cap : Array Value) (w : World), (Instr.makeFunc fn first cap).run Tryz.prog w = .ok (.func fn first cap) w := fun _ _ _ _ => rfl
  obtain ⟨pa, ca, rfl, hma⟩ := ha.form
  obtain ⟨pb, cb, rfl, hmb⟩ := hb.form
  obtain ⟨n, hn⟩ : ∃ n, n = (limbs x).length + (limbs y).length := ⟨_, rfl⟩
  have hnI : ((limbs x).length : Int) + ((limbs y).length : Int) = (n : Int) := by omega
  obtain ⟨W3, hW3⟩ : ∃ W3, W3 = ((w.alloc (.cells #[.slice pa (limbs x).length ca] 76)).alloc (.cells #[.slice pb (limbs y).length cb] 76)).alloc (.cells #[.int .i64 (n : Int)] 3) := ⟨_, rfl⟩
  have hs3 : W3.heap.size = w.heap.size + 3 := by rw [hW3]; simp
  have hb3 : Below w.heap.size w W3 := by
    rw [hW3]; exact (((Below.refl _ _).alloc (Nat.le_refl _) _).alloc (by simp) _).alloc (by simp; omega) _
  have k0 : W3.cell? ⟨w.heap.size, 0, none⟩ = some (.slice pa (limbs x).length ca) := by rw [hW3, World.cell?_alloc_past _ _ _ (by simp; omega), World.cell?_alloc_past _ _ _ (by simp)]; simp
  have k1 : W3.cell? ⟨w.heap.size + 1, 0, none⟩ = some (.slice pb (limbs y).length cb) := by
    rw [hW3, World.cell?_alloc_past _ _ _ (by simp)]
    have : (w.alloc (.cells #[.slice pa (limbs x).length ca] 76)).heap.size = w.heap.size + 1 := by simp
    rw [← this]; exact alloc_first _ _ _
  have k2 : W3.cell? ⟨w.heap.size + 1 + 1, 0, none⟩ = some (.int .i64 (n : Int)) := by
    rw [hW3]
    have : ((w.alloc (.cells #[.slice pa (limbs x).length ca] 76)).alloc (.cells #[.slice pb (limbs y).length cb] 76)).heap.size = w.heap.size + 1 + 1 := by simp
    rw [← this]; exact alloc_first _ _ _
  have hC := tallied_any 102 #[.pointer (some ⟨w.heap.size + 1 + 1, 0, none⟩), .pointer (some ⟨w.heap.size, 0, none⟩), .pointer (some ⟨w.heap.size + 1, 0, none⟩)] n (told (conv (limbs x) (limbs y)) n).2 (told (conv (limbs x) (limbs y)) n).1 W3 (by omega)
    (by have := told_small (conv (limbs x) (limbs y)) _ (conv_le (limbs x) (limbs y) (fun d h => Bn.limbs_lt' h) (fun d h => Bn.limbs_lt' h) hx) n; omega)
    (by rw [told_length]; omega) (told_lt _ _) enter79
    (fun W base tb hB hbs hT => mulLimbs1_any (limbs x) (limbs y) _ _ n w.heap.size (w.heap.size + 1) (w.heap.size + 1 + 1) base tb W hT (by omega)
      ((hB.cell (p := ⟨w.heap.size, 0, none⟩) (show w.heap.size < W3.heap.size by omega)).trans k0) ((hB.cell (p := ⟨w.heap.size + 1, 0, none⟩) (show w.heap.size + 1 < W3.heap.size by omega)).trans k1) ((hB.cell (p := ⟨w.heap.size + 1 + 1, 0, none⟩) (show w.heap.size + 1 + 1 < W3.heap.size by omega)).trans k2) (by omega) (by omega)
      (fun W' hB' => ha.below (hb3.trans ((hB.mono hb3.size).trans (hB'.mono (by omega))))) (fun W' hB' => hb.below (hb3.trans ((hB.mono hb3.size).trans (hB'.mono (by omega))))) (fun d h => Bn.limbs_lt' h) (fun d h => Bn.limbs_lt' h) hx hy (by obtain ⟨_, _, _, _, _, _, _, htb, hbt⟩ := hT; omega))
  rw [told_trim, sumP_conv _ _ _ (by omega), Bn.val_limbs', Bn.val_limbs', hW3] at hC
  have HC : Hid (Calls Tryz.prog 89 #[.int .i64 (n : Int), .func (.func 102) #[] #[.pointer (some ⟨w.heap.size + 1 + 1, 0, none⟩), .pointer (some ⟨w.heap.size, 0, none⟩), .pointer (some ⟨w.heap.size + 1, 0, none⟩)]]
    (((w.alloc (.cells #[.slice pa (limbs x).length ca] 76)).alloc (.cells #[.slice pb (limbs y).length cb] 76)).alloc (.cells #[.int .i64 (n : Int)] 3)) fun e w' => ∃ v, e = .returned v ∧ U32At w' v (limbs (x * y)) ∧ Below w.heap.size w w') := by
    refine hC.mono ?_
    rw [← hW3]
    rintro e w' ⟨v, rfl, hU, hB, hfr⟩
    exact ⟨v, rfl, hU, hb3.trans (hB.mono hb3.size)⟩
  have hnb : n ≤ 10000000 := by omega
  clear hC k0 k1 k2 hb3 hs3 hW3 ha hb hn
  go_enter Tryz.func85, Tryz.ntmps85
  go_wp2_with fail
  refine HC.out.mono ?_
  rintro e w' ⟨v, rfl, hU, hB⟩
  go_wp2
  go_ret
  exact ⟨_, rfl, hU, hB⟩

end Go.Proofs.YtjffbndiecjkjaaGreatDoor

namespace Go.Proofs.YtjffbndiecjkjaaGreatDoor
open Go.RowKit
open Bn (limbs)
attribute [local go_sem ↓] Go.wp_at_zero Go.wp_at_succ

theorem sg_mul (x y : Int) : sg (!(decide (x < 0) == decide (y < 0))) (x.natAbs * y.natAbs) = x * y := by
  rw [← Int.natAbs_mul]
  have hxc : x < 0 ∨ 0 ≤ x := by omega
  have hyc : y < 0 ∨ 0 ≤ y := by omega
  rcases hxc with hx | hx <;> rcases hyc with hy | hy
  · have h : 0 ≤ x * y := Int.mul_nonneg_of_nonpos_of_nonpos (by omega) (by omega)
    rw [decide_eq_true hx, decide_eq_true hy]
    show ((x * y).natAbs : Int) = _
    omega
  · have h : x * y ≤ 0 := Int.mul_nonpos_of_nonpos_of_nonneg (by omega) hy
    rw [decide_eq_true hx, decide_eq_false (by omega)]
    show -((x * y).natAbs : Int) = _
    omega
  · have h : x * y ≤ 0 := Int.mul_nonpos_of_nonneg_of_nonpos hx (by omega)
    rw [decide_eq_false (p := x < 0) (by omega), decide_eq_true hy]
    show -((x * y).natAbs : Int) = _
    omega
  · have h : 0 ≤ x * y := Int.mul_nonneg hx hy
    rw [decide_eq_false (p := x < 0) (by omega), decide_eq_false (p := y < 0) (by omega)]
    show ((x * y).natAbs : Int) = _
    omega

set_option maxRecDepth 100000 in
set_option maxHeartbeats 1000000 in
/-- Mul, where a is no int. -/
theorem mul_wideA (x y : Int) (n1 n2 : Int) (p1 : Addr) (q2 : Option Addr) (w : World) (HA : Hid (BigAt w (.agg #[.int .i64 n1, .pointer (some p1)]) x)) (HB : Hid (BigAt w (.agg #[.int .i64 n2, .pointer q2]) y)) (hx : (limbs x.natAbs).length ≤ 1000000) (hy : (limbs y.natAbs).length ≤ 1000000) :
    Calls Tryz.prog 58 #[.agg #[.int .i64 n1, .pointer (some p1)], .agg #[.int .i64 n2, .pointer q2]] w fun e w' => ∃ r, e = .returned r ∧ BigAt w' r (x * y) ∧ Below w.heap.size w w' := by
  obtain ⟨d1, E1⟩ : ∃ d1, Hid (d1 = decide (x < 0)) := ⟨_, rfl⟩
  obtain ⟨d2, E2⟩ : ∃ d2, Hid (d2 = decide (y < 0)) := ⟨_, rfl⟩
  have HE : Hid (sg (!(d1 == d2)) (x.natAbs * y.natAbs) = x * y) := by show _ = _; rw [E1.out, E2.out]; exact sg_mul x y
  go_enter Tryz.func58, Tryz.ntmps58
  go_wp2_with fail
  generalize hW : ((w.alloc (.cells #[.int .i64 n1, .pointer (some p1)] 33)).alloc (.cells #[.int .i64 n2, .pointer q2] 33)).alloc (.cells #[.int .i64 0, .pointer none] 33) = W
  obtain ⟨hA, hB, hR, hBW, hsz⟩ := three_boxes w n1 n2 (some p1) q2 hW
  have HA' : Hid (BigAt W (.agg #[.int .i64 n1, .pointer (some p1)]) x) := HA.out.below hBW
  have HB' : Hid (BigAt W (.agg #[.int .i64 n2, .pointer q2]) y) := HB.out.below hBW
  obtain ⟨a0, a1, _, _⟩ := box_facts hA
  obtain ⟨b0, b1, _, _⟩ := box_facts hB
  have HNa : Hid (∀ w', Two W w.heap.size n1 n2 (some p1) q2 w' → Calls Tryz.prog 46 #[.agg #[.int .i64 n1, .pointer (some p1)]] w' fun e w'' => e = .returned (.bool d1) ∧ Below w'.heap.size w' w'') :=
    fun w' h => by rw [E1.out]; exact negative_big x _ w' (HA'.out.below h.2.2.2.2.2)
  have HNb : Hid (∀ w', Two W w.heap.size n1 n2 (some p1) q2 w' → Calls Tryz.prog 46 #[.agg #[.int .i64 n2, .pointer q2]] w' fun e w'' => e = .returned (.bool d2) ∧ Below w'.heap.size w' w'') :=
    fun w' h => by rw [E2.out]; exact negative_big y _ w' (HB'.out.below h.2.2.2.2.2)
  have hS : Two W w.heap.size n1 n2 (some p1) q2 W.drew := Two.next ⟨a0, a1, b0, b1, by omega, Below.refl _ _⟩ (Below.refl _ _).drew
  clear hW
  go_region_held3 (fun w' => w'.cell? ⟨w.heap.size, 0, none⟩ = some (.int .i64 n1) ∧ w'.cell? ⟨w.heap.size, 1, none⟩ = some (.pointer (some p1)) ∧ w'.cell? ⟨w.heap.size + 1, 0, none⟩ = some (.int .i64 n2) ∧ w'.cell? ⟨w.heap.size + 1, 1, none⟩ = some (.pointer q2) ∧ w.heap.size + 1 < w'.heap.size ∧ Below W.heap.size W w')
    (first | exact hS | (refine Two.next (by assumption) (by assumption)))
    (first
      | (go_at_call 46; refine calls_at (HNa.out _ (by assumption)) (by with_reducible rfl) (by with_reducible rfl) ?_; rintro e w' ⟨rfl, hb⟩)
      | (go_at_call 46; refine calls_at (HNb.out _ (by assumption)) (by with_reducible rfl) (by with_reducible rfl) ?_; rintro e w' ⟨rfl, hb⟩))
  rename_i hHeld
  have hWw : Below W.heap.size W w' := hHeld.2.2.2.2.2
  obtain ⟨t0, t1, t2, t3, t4, _⟩ := id hHeld
  generalize (!(d1 == d2)) = dd at *
  go_wp2_with fail
  have HCa : Hid (Calls Tryz.prog 63 #[.agg #[.int .i64 n1, .pointer (some p1)]] w'.drew fun e w'' => ∃ r, e = .returned r ∧ U32At w'' r (limbs x.natAbs) ∧ Below w'.heap.size w' w'') :=
    (limbs_any x _ w'.drew (HA'.out.below hWw.drew)).mono fun e w'' ⟨r, h1, h2, h3⟩ => ⟨r, h1, h2, (Below.refl w'.heap.size w').drew.trans h3⟩
  have HCb : Hid (∀ w1, Below w'.heap.size w' w1 → Calls Tryz.prog 63 #[.agg #[.int .i64 n2, .pointer q2]] w1 fun e w'' => ∃ r, e = .returned r ∧ U32At w'' r (limbs y.natAbs) ∧ Below w1.heap.size w1 w'') :=
    fun w1 h => limbs_any y _ w1 ((HB'.out.below hWw).below h)
  have HT : Hid (Two W w.heap.size n1 n2 (some p1) q2 w') := hHeld
  clear hHeld HNa HNb hS
  go_region_with (first
    | (go_at_call 63; refine calls_at HCa.out (by with_reducible rfl) (by with_reducible rfl) ?_; rintro e w1 ⟨xv, rfl, hUx, hb1⟩; obtain ⟨_, _, b01, b11, _, _⟩ := Two.next HT.out hb1; obtain ⟨xa, xc, hxv, _⟩ := hUx.form; subst hxv)
    | (go_at_call 63; refine calls_at (HCb.out _ hb1) (by with_reducible rfl) (by with_reducible rfl) ?_; rintro e w2 ⟨yv, rfl, hUy, hb2⟩; obtain ⟨ya, yc, hyv, _⟩ := hUy.form; subst hyv)
    | (go_at_call 85; refine calls_at (mulLimbs_any x.natAbs y.natAbs _ _ w2 (hUx.below hb2) hUy (by omega) (by omega)) (by with_reducible rfl) (by with_reducible rfl) ?_; rintro e w3 ⟨pv, rfl, hUp, hb3⟩; obtain ⟨ma, mc, hpv, _⟩ := hUp.form; subst hpv)
    | (go_at_call 44; refine calls_at (settled_any dd (x.natAbs * y.natAbs) _ w3 hUp) (by with_reducible rfl) (by with_reducible rfl) ?_; rintro e w4 ⟨r, rfl, hr, hb4⟩; obtain ⟨y3, q4, hr3⟩ := hr.shape; subst hr3; have hb02 : Below W.heap.size W w2 := hWw.trans ((hb1.mono hWw.size).trans (hb2.mono (Nat.le_trans hWw.size hb1.size))); have hb04 : Below W.heap.size W w4 := hb02.trans ((hb3.mono hb02.size).trans (hb4.mono (Nat.le_trans hb02.size hb3.size))); have hR2 := (hb04.block (w.heap.size + 1 + 1) (by omega)).trans hR; obtain ⟨r0, r1, r2, r3⟩ := box_facts hR2))
  all_goals
    obtain ⟨m0, m1⟩ := box_set hR2 (.int .i64 y3) (.pointer q4)
    rw [HE.out] at hr
    go_wp2
    exact bodyPost_ret (v := .agg #[.int .i64 y3, .pointer q4]) (by simp [results, Tryz.results58, go_sem, m0, m1]) rfl ⟨_, rfl, hr.setBox hR2 _ _, ((hBW.trans (hb04.mono hBW.size)).setCell (p := ⟨w.heap.size + 1 + 1, 0, none⟩) (by show w.heap.size ≤ w.heap.size + 1 + 1; omega) _).setCell (p := ⟨w.heap.size + 1 + 1, 1, none⟩) (by show w.heap.size ≤ w.heap.size + 1 + 1; omega) _⟩

set_option maxRecDepth 100000 in
set_option maxHeartbeats 1000000 in
/-- Mul, where b is no int. -/
theorem mul_wideB (x y : Int) (n1 n2 : Int) (p2 : Addr) (w : World) (HA : Hid (BigAt w (.agg #[.int .i64 n1, .pointer none]) x)) (HB : Hid (BigAt w (.agg #[.int .i64 n2, .pointer (some p2)]) y)) (hx : (limbs x.natAbs).length ≤ 1000000) (hy : (limbs y.natAbs).length ≤ 1000000) :
    Calls Tryz.prog 58 #[.agg #[.int .i64 n1, .pointer none], .agg #[.int .i64 n2, .pointer (some p2)]] w fun e w' => ∃ r, e = .returned r ∧ BigAt w' r (x * y) ∧ Below w.heap.size w w' := by
  obtain ⟨d1, E1⟩ : ∃ d1, Hid (d1 = decide (x < 0)) := ⟨_, rfl⟩
  obtain ⟨d2, E2⟩ : ∃ d2, Hid (d2 = decide (y < 0)) := ⟨_, rfl⟩
  have HE : Hid (sg (!(d1 == d2)) (x.natAbs * y.natAbs) = x * y) := by show _ = _; rw [E1.out, E2.out]; exact sg_mul x y
  go_enter Tryz.func58, Tryz.ntmps58
  go_wp2_with fail
  generalize hW : ((w.alloc (.cells #[.int .i64 n1, .pointer none] 33)).alloc (.cells #[.int .i64 n2, .pointer (some p2)] 33)).alloc (.cells #[.int .i64 0, .pointer none] 33) = W
  obtain ⟨hA, hB, hR, hBW, hsz⟩ := three_boxes w n1 n2 none (some p2) hW
  have HA' : Hid (BigAt W (.agg #[.int .i64 n1, .pointer none]) x) := HA.out.below hBW
  have HB' : Hid (BigAt W (.agg #[.int .i64 n2, .pointer (some p2)]) y) := HB.out.below hBW
  obtain ⟨a0, a1, _, _⟩ := box_facts hA
  obtain ⟨b0, b1, _, _⟩ := box_facts hB
  have HNa : Hid (∀ w', Two W w.heap.size n1 n2 none (some p2) w' → Calls Tryz.prog 46 #[.agg #[.int .i64 n1, .pointer none]] w' fun e w'' => e = .returned (.bool d1) ∧ Below w'.heap.size w' w'') :=
    fun w' h => by rw [E1.out]; exact negative_big x _ w' (HA'.out.below h.2.2.2.2.2)
  have HNb : Hid (∀ w', Two W w.heap.size n1 n2 none (some p2) w' → Calls Tryz.prog 46 #[.agg #[.int .i64 n2, .pointer (some p2)]] w' fun e w'' => e = .returned (.bool d2) ∧ Below w'.heap.size w' w'') :=
    fun w' h => by rw [E2.out]; exact negative_big y _ w' (HB'.out.below h.2.2.2.2.2)
  have hS : Two W w.heap.size n1 n2 none (some p2) W.drew := Two.next ⟨a0, a1, b0, b1, by omega, Below.refl _ _⟩ (Below.refl _ _).drew
  clear hW
  go_region_held3 (fun w' => w'.cell? ⟨w.heap.size, 0, none⟩ = some (.int .i64 n1) ∧ w'.cell? ⟨w.heap.size, 1, none⟩ = some (.pointer none) ∧ w'.cell? ⟨w.heap.size + 1, 0, none⟩ = some (.int .i64 n2) ∧ w'.cell? ⟨w.heap.size + 1, 1, none⟩ = some (.pointer (some p2)) ∧ w.heap.size + 1 < w'.heap.size ∧ Below W.heap.size W w')
    (first | exact hS | (refine Two.next (by assumption) (by assumption)))
    (first
      | (go_at_call 46; refine calls_at (HNa.out _ (by assumption)) (by with_reducible rfl) (by with_reducible rfl) ?_; rintro e w' ⟨rfl, hb⟩)
      | (go_at_call 46; refine calls_at (HNb.out _ (by assumption)) (by with_reducible rfl) (by with_reducible rfl) ?_; rintro e w' ⟨rfl, hb⟩))
  rename_i hHeld
  have hWw : Below W.heap.size W w' := hHeld.2.2.2.2.2
  obtain ⟨t0, t1, t2, t3, t4, _⟩ := id hHeld
  generalize (!(d1 == d2)) = dd at *
  go_wp2_with fail
  have HCa : Hid (Calls Tryz.prog 63 #[.agg #[.int .i64 n1, .pointer none]] w'.drew fun e w'' => ∃ r, e = .returned r ∧ U32At w'' r (limbs x.natAbs) ∧ Below w'.heap.size w' w'') :=
    (limbs_any x _ w'.drew (HA'.out.below hWw.drew)).mono fun e w'' ⟨r, h1, h2, h3⟩ => ⟨r, h1, h2, (Below.refl w'.heap.size w').drew.trans h3⟩
  have HCb : Hid (∀ w1, Below w'.heap.size w' w1 → Calls Tryz.prog 63 #[.agg #[.int .i64 n2, .pointer (some p2)]] w1 fun e w'' => ∃ r, e = .returned r ∧ U32At w'' r (limbs y.natAbs) ∧ Below w1.heap.size w1 w'') :=
    fun w1 h => limbs_any y _ w1 ((HB'.out.below hWw).below h)
  have HT : Hid (Two W w.heap.size n1 n2 none (some p2) w') := hHeld
  clear hHeld HNa HNb hS
  go_region_with (first
    | (go_at_call 63; refine calls_at HCa.out (by with_reducible rfl) (by with_reducible rfl) ?_; rintro e w1 ⟨xv, rfl, hUx, hb1⟩; obtain ⟨_, _, b01, b11, _, _⟩ := Two.next HT.out hb1; obtain ⟨xa, xc, hxv, _⟩ := hUx.form; subst hxv)
    | (go_at_call 63; refine calls_at (HCb.out _ hb1) (by with_reducible rfl) (by with_reducible rfl) ?_; rintro e w2 ⟨yv, rfl, hUy, hb2⟩; obtain ⟨ya, yc, hyv, _⟩ := hUy.form; subst hyv)
    | (go_at_call 85; refine calls_at (mulLimbs_any x.natAbs y.natAbs _ _ w2 (hUx.below hb2) hUy (by omega) (by omega)) (by with_reducible rfl) (by with_reducible rfl) ?_; rintro e w3 ⟨pv, rfl, hUp, hb3⟩; obtain ⟨ma, mc, hpv, _⟩ := hUp.form; subst hpv)
    | (go_at_call 44; refine calls_at (settled_any dd (x.natAbs * y.natAbs) _ w3 hUp) (by with_reducible rfl) (by with_reducible rfl) ?_; rintro e w4 ⟨r, rfl, hr, hb4⟩; obtain ⟨y3, q4, hr3⟩ := hr.shape; subst hr3; have hb02 : Below W.heap.size W w2 := hWw.trans ((hb1.mono hWw.size).trans (hb2.mono (Nat.le_trans hWw.size hb1.size))); have hb04 : Below W.heap.size W w4 := hb02.trans ((hb3.mono hb02.size).trans (hb4.mono (Nat.le_trans hb02.size hb3.size))); have hR2 := (hb04.block (w.heap.size + 1 + 1) (by omega)).trans hR; obtain ⟨r0, r1, r2, r3⟩ := box_facts hR2))
  all_goals
    obtain ⟨m0, m1⟩ := box_set hR2 (.int .i64 y3) (.pointer q4)
    rw [HE.out] at hr
    go_wp2
    exact bodyPost_ret (v := .agg #[.int .i64 y3, .pointer q4]) (by simp [results, Tryz.results58, go_sem, m0, m1]) rfl ⟨_, rfl, hr.setBox hR2 _ _, ((hBW.trans (hb04.mono hBW.size)).setCell (p := ⟨w.heap.size + 1 + 1, 0, none⟩) (by show w.heap.size ≤ w.heap.size + 1 + 1; omega) _).setCell (p := ⟨w.heap.size + 1 + 1, 1, none⟩) (by show w.heap.size ≤ w.heap.size + 1 + 1; omega) _⟩

end Go.Proofs.YtjffbndiecjkjaaGreatDoor

namespace Go.Proofs.YtjffbndiecjkjaaGreatDoor
open Go.RowKit
open Bn (limbs)
attribute [local go_sem ↓] Go.wp_at_zero Go.wp_at_succ

set_option maxRecDepth 100000 in
set_option maxHeartbeats 1000000 in
/-- Mul, of two ints. -/
theorem mul_small (x y : Int) (H L : Nat) (hfx : Fits x) (hfy : Fits y) (HM : Hid (H = x.natAbs * y.natAbs / 18446744073709551616)) (HL : Hid (L = x.natAbs * y.natAbs % 18446744073709551616)) (hH : ((H : Int) == 0) = true) (HLb : Hid (L < 18446744073709551616)) (HLE : Hid (L = x.natAbs * y.natAbs)) (w : World) (HA : Hid (BigAt w (.agg #[.int .i64 x, .pointer none]) x)) (HB : Hid (BigAt w (.agg #[.int .i64 y, .pointer none]) y)) :
    Calls Tryz.prog 58 #[.agg #[.int .i64 x, .pointer none], .agg #[.int .i64 y, .pointer none]] w fun e w' => ∃ r, e = .returned r ∧ BigAt w' r (x * y) ∧ Below w.heap.size w w' := by
  obtain ⟨d1, E1⟩ : ∃ d1, Hid (d1 = decide (x < 0)) := ⟨_, rfl⟩
  obtain ⟨d2, E2⟩ : ∃ d2, Hid (d2 = decide (y < 0)) := ⟨_, rfl⟩
  have HE : Hid (sg (!(d1 == d2)) (x.natAbs * y.natAbs) = x * y) := by show _ = _; rw [E1.out, E2.out]; exact sg_mul x y
  go_enter Tryz.func58, Tryz.ntmps58
  go_wp2_with fail
  generalize hW : ((w.alloc (.cells #[.int .i64 x, .pointer none] 33)).alloc (.cells #[.int .i64 y, .pointer none] 33)).alloc (.cells #[.int .i64 0, .pointer none] 33) = W
  obtain ⟨hA, hB, hR, hBW, hsz⟩ := three_boxes w x y none none hW
  have HA' : Hid (BigAt W (.agg #[.int .i64 x, .pointer none]) x) := HA.out.below hBW
  have HB' : Hid (BigAt W (.agg #[.int .i64 y, .pointer none]) y) := HB.out.below hBW
  obtain ⟨a0, a1, _, _⟩ := box_facts hA
  obtain ⟨b0, b1, _, _⟩ := box_facts hB
  have HNa : Hid (∀ w', Two W w.heap.size x y none none w' → Calls Tryz.prog 46 #[.agg #[.int .i64 x, .pointer none]] w' fun e w'' => e = .returned (.bool d1) ∧ Below w'.heap.size w' w'') :=
    fun w' h => by rw [E1.out]; exact negative_big x _ w' (HA'.out.below h.2.2.2.2.2)
  have HNb : Hid (∀ w', Two W w.heap.size x y none none w' → Calls Tryz.prog 46 #[.agg #[.int .i64 y, .pointer none]] w' fun e w'' => e = .returned (.bool d2) ∧ Below w'.heap.size w' w'') :=
    fun w' h => by rw [E2.out]; exact negative_big y _ w' (HB'.out.below h.2.2.2.2.2)
  have hS : Two W w.heap.size x y none none W.drew := Two.next ⟨a0, a1, b0, b1, by omega, Below.refl _ _⟩ (Below.refl _ _).drew
  clear hW
  go_region_held3 (fun w' => w'.cell? ⟨w.heap.size, 0, none⟩ = some (.int .i64 x) ∧ w'.cell? ⟨w.heap.size, 1, none⟩ = some (.pointer none) ∧ w'.cell? ⟨w.heap.size + 1, 0, none⟩ = some (.int .i64 y) ∧ w'.cell? ⟨w.heap.size + 1, 1, none⟩ = some (.pointer none) ∧ w.heap.size + 1 < w'.heap.size ∧ Below W.heap.size W w')
    (first | exact hS | (refine Two.next (by assumption) (by assumption)))
    (first
      | (go_at_call 46; refine calls_at (HNa.out _ (by assumption)) (by with_reducible rfl) (by with_reducible rfl) ?_; rintro e w' ⟨rfl, hb⟩)
      | (go_at_call 46; refine calls_at (HNb.out _ (by assumption)) (by with_reducible rfl) (by with_reducible rfl) ?_; rintro e w' ⟨rfl, hb⟩))
  rename_i hHeld
  have hWw : Below W.heap.size W w' := hHeld.2.2.2.2.2
  obtain ⟨t0, t1, t2, t3, t4, _⟩ := id hHeld
  generalize (!(d1 == d2)) = dd at *
  have HSa : Hid (∀ v', Two W w.heap.size x y none none v' → Calls Tryz.prog 84 #[.int .i64 x] v' fun e w'' => e = .returned (.int .u64 (x.natAbs : Int)) ∧ Below v'.heap.size v' w'') :=
    fun v' _ => (size_any x v' hfx.1 hfx.2).mono fun e w'' ⟨h1, h2⟩ => ⟨h1, by rw [h2]; exact Below.refl _ _⟩
  have HSb : Hid (∀ v', Two W w.heap.size x y none none v' → Calls Tryz.prog 84 #[.int .i64 y] v' fun e w'' => e = .returned (.int .u64 (y.natAbs : Int)) ∧ Below v'.heap.size v' w'') :=
    fun v' _ => (size_any y v' hfy.1 hfy.2).mono fun e w'' ⟨h1, h2⟩ => ⟨h1, by rw [h2]; exact Below.refl _ _⟩
  have HMu : Hid (∀ v', Two W w.heap.size x y none none v' → Calls Tryz.prog 83 #[.int .u64 (x.natAbs : Int), .int .u64 (y.natAbs : Int)] v' fun e w'' => e = .returned (.tuple #[.int .u64 (H : Int), .int .u64 (L : Int)]) ∧ Below v'.heap.size v' w'') := by
    intro v' _
    rw [HM.out, HL.out]
    exact (Tryz.bits_Mul64 x.natAbs y.natAbs (by have := hfx; unfold Fits at this; omega) (by have := hfy; unfold Fits at this; omega) v').mono fun e w'' ⟨h1, h2⟩ => ⟨h1, by rw [h2]; exact Below.refl _ _⟩
  have hS' : Two W w.heap.size x y none none w'.drew := Two.next hHeld (Below.refl _ _).drew
  clear hHeld hS HNa HNb
  go_wp2_with fail
  go_region_held3 (fun v' => v'.cell? ⟨w.heap.size, 0, none⟩ = some (.int .i64 x) ∧ v'.cell? ⟨w.heap.size, 1, none⟩ = some (.pointer none) ∧ v'.cell? ⟨w.heap.size + 1, 0, none⟩ = some (.int .i64 y) ∧ v'.cell? ⟨w.heap.size + 1, 1, none⟩ = some (.pointer none) ∧ w.heap.size + 1 < v'.heap.size ∧ Below W.heap.size W v')
    (first | exact hS' | (refine Two.next (by assumption) (by assumption)))
    (first
      | (go_at_call 84; refine calls_at (HSa.out _ (by assumption)) (by with_reducible rfl) (by with_reducible rfl) ?_; rintro e w' ⟨rfl, hb⟩)
      | (go_at_call 84; refine calls_at (HSb.out _ (by assumption)) (by with_reducible rfl) (by with_reducible rfl) ?_; rintro e w' ⟨rfl, hb⟩)
      | (go_at_call 83; refine calls_at (HMu.out _ (by assumption)) (by with_reducible rfl) (by with_reducible rfl) ?_; rintro e w' ⟨rfl, hb⟩))
  rename_i hHeld
  have hWw : Below W.heap.size W w' := hHeld.2.2.2.2.2
  obtain ⟨t0, t1, t2, t3, t4, _⟩ := id hHeld
  go_wp2_with fail
  refine (settledSmall_any dd L _ HLb.out).mono ?_
  rintro e w4 ⟨r, rfl, hr, hb4⟩
  obtain ⟨y3, q4, hr3⟩ := hr.shape
  subst hr3
  have hb04 : Below W.heap.size W w4 := hWw.trans (hb4.mono hWw.size)
  have hR2 := (hb04.block (w.heap.size + 1 + 1) (by omega)).trans hR
  obtain ⟨r0, r1, r2, r3⟩ := box_facts hR2
  obtain ⟨m0, m1⟩ := box_set hR2 (.int .i64 y3) (.pointer q4)
  rw [HLE.out, HE.out] at hr
  go_wp2
  exact bodyPost_ret (v := .agg #[.int .i64 y3, .pointer q4]) (by simp [results, Tryz.results58, go_sem, m0, m1]) rfl ⟨_, rfl, hr.setBox hR2 _ _, ((hBW.trans (hb04.mono hBW.size)).setCell (p := ⟨w.heap.size + 1 + 1, 0, none⟩) (by show w.heap.size ≤ w.heap.size + 1 + 1; omega) _).setCell (p := ⟨w.heap.size + 1 + 1, 1, none⟩) (by show w.heap.size ≤ w.heap.size + 1 + 1; omega) _⟩

set_option maxRecDepth 100000 in
set_option maxHeartbeats 1000000 in
/-- Mul, of two ints. -/
theorem mul_over (x y : Int) (H L : Nat) (hfx : Fits x) (hfy : Fits y) (HM : Hid (H = x.natAbs * y.natAbs / 18446744073709551616)) (HL : Hid (L = x.natAbs * y.natAbs % 18446744073709551616)) (hH : ((H : Int) == 0) = false) (w : World) (HA : Hid (BigAt w (.agg #[.int .i64 x, .pointer none]) x)) (HB : Hid (BigAt w (.agg #[.int .i64 y, .pointer none]) y)) (hx : (limbs x.natAbs).length ≤ 1000000) (hy : (limbs y.natAbs).length ≤ 1000000) :
    Calls Tryz.prog 58 #[.agg #[.int .i64 x, .pointer none], .agg #[.int .i64 y, .pointer none]] w fun e w' => ∃ r, e = .returned r ∧ BigAt w' r (x * y) ∧ Below w.heap.size w w' := by
  obtain ⟨d1, E1⟩ : ∃ d1, Hid (d1 = decide (x < 0)) := ⟨_, rfl⟩
  obtain ⟨d2, E2⟩ : ∃ d2, Hid (d2 = decide (y < 0)) := ⟨_, rfl⟩
  have HE : Hid (sg (!(d1 == d2)) (x.natAbs * y.natAbs) = x * y) := by show _ = _; rw [E1.out, E2.out]; exact sg_mul x y
  go_enter Tryz.func58, Tryz.ntmps58
  go_wp2_with fail
  generalize hW : ((w.alloc (.cells #[.int .i64 x, .pointer none] 33)).alloc (.cells #[.int .i64 y, .pointer none] 33)).alloc (.cells #[.int .i64 0, .pointer none] 33) = W
  obtain ⟨hA, hB, hR, hBW, hsz⟩ := three_boxes w x y none none hW
  have HA' : Hid (BigAt W (.agg #[.int .i64 x, .pointer none]) x) := HA.out.below hBW
  have HB' : Hid (BigAt W (.agg #[.int .i64 y, .pointer none]) y) := HB.out.below hBW
  obtain ⟨a0, a1, _, _⟩ := box_facts hA
  obtain ⟨b0, b1, _, _⟩ := box_facts hB
  have HNa : Hid (∀ w', Two W w.heap.size x y none none w' → Calls Tryz.prog 46 #[.agg #[.int .i64 x, .pointer none]] w' fun e w'' => e = .returned (.bool d1) ∧ Below w'.heap.size w' w'') :=
    fun w' h => by rw [E1.out]; exact negative_big x _ w' (HA'.out.below h.2.2.2.2.2)
  have HNb : Hid (∀ w', Two W w.heap.size x y none none w' → Calls Tryz.prog 46 #[.agg #[.int .i64 y, .pointer none]] w' fun e w'' => e = .returned (.bool d2) ∧ Below w'.heap.size w' w'') :=
    fun w' h => by rw [E2.out]; exact negative_big y _ w' (HB'.out.below h.2.2.2.2.2)
  have hS : Two W w.heap.size x y none none W.drew := Two.next ⟨a0, a1, b0, b1, by omega, Below.refl _ _⟩ (Below.refl _ _).drew
  clear hW
  go_region_held3 (fun w' => w'.cell? ⟨w.heap.size, 0, none⟩ = some (.int .i64 x) ∧ w'.cell? ⟨w.heap.size, 1, none⟩ = some (.pointer none) ∧ w'.cell? ⟨w.heap.size + 1, 0, none⟩ = some (.int .i64 y) ∧ w'.cell? ⟨w.heap.size + 1, 1, none⟩ = some (.pointer none) ∧ w.heap.size + 1 < w'.heap.size ∧ Below W.heap.size W w')
    (first | exact hS | (refine Two.next (by assumption) (by assumption)))
    (first
      | (go_at_call 46; refine calls_at (HNa.out _ (by assumption)) (by with_reducible rfl) (by with_reducible rfl) ?_; rintro e w' ⟨rfl, hb⟩)
      | (go_at_call 46; refine calls_at (HNb.out _ (by assumption)) (by with_reducible rfl) (by with_reducible rfl) ?_; rintro e w' ⟨rfl, hb⟩))
  rename_i hHeld
  have hWw : Below W.heap.size W w' := hHeld.2.2.2.2.2
  obtain ⟨t0, t1, t2, t3, t4, _⟩ := id hHeld
  generalize (!(d1 == d2)) = dd at *
  have HSa : Hid (∀ v', Two W w.heap.size x y none none v' → Calls Tryz.prog 84 #[.int .i64 x] v' fun e w'' => e = .returned (.int .u64 (x.natAbs : Int)) ∧ Below v'.heap.size v' w'') :=
    fun v' _ => (size_any x v' hfx.1 hfx.2).mono fun e w'' ⟨h1, h2⟩ => ⟨h1, by rw [h2]; exact Below.refl _ _⟩
  have HSb : Hid (∀ v', Two W w.heap.size x y none none v' → Calls Tryz.prog 84 #[.int .i64 y] v' fun e w'' => e = .returned (.int .u64 (y.natAbs : Int)) ∧ Below v'.heap.size v' w'') :=
    fun v' _ => (size_any y v' hfy.1 hfy.2).mono fun e w'' ⟨h1, h2⟩ => ⟨h1, by rw [h2]; exact Below.refl _ _⟩
  have HMu : Hid (∀ v', Two W w.heap.size x y none none v' → Calls Tryz.prog 83 #[.int .u64 (x.natAbs : Int), .int .u64 (y.natAbs : Int)] v' fun e w'' => e = .returned (.tuple #[.int .u64 (H : Int), .int .u64 (L : Int)]) ∧ Below v'.heap.size v' w'') := by
    intro v' _
    rw [HM.out, HL.out]
    exact (Tryz.bits_Mul64 x.natAbs y.natAbs (by have := hfx; unfold Fits at this; omega) (by have := hfy; unfold Fits at this; omega) v').mono fun e w'' ⟨h1, h2⟩ => ⟨h1, by rw [h2]; exact Below.refl _ _⟩
  have hS' : Two W w.heap.size x y none none w'.drew := Two.next hHeld (Below.refl _ _).drew
  clear hHeld hS HNa HNb
  go_wp2_with fail
  go_region_held3 (fun v' => v'.cell? ⟨w.heap.size, 0, none⟩ = some (.int .i64 x) ∧ v'.cell? ⟨w.heap.size, 1, none⟩ = some (.pointer none) ∧ v'.cell? ⟨w.heap.size + 1, 0, none⟩ = some (.int .i64 y) ∧ v'.cell? ⟨w.heap.size + 1, 1, none⟩ = some (.pointer none) ∧ w.heap.size + 1 < v'.heap.size ∧ Below W.heap.size W v')
    (first | exact hS' | (refine Two.next (by assumption) (by assumption)))
    (first
      | (go_at_call 84; refine calls_at (HSa.out _ (by assumption)) (by with_reducible rfl) (by with_reducible rfl) ?_; rintro e w' ⟨rfl, hb⟩)
      | (go_at_call 84; refine calls_at (HSb.out _ (by assumption)) (by with_reducible rfl) (by with_reducible rfl) ?_; rintro e w' ⟨rfl, hb⟩)
      | (go_at_call 83; refine calls_at (HMu.out _ (by assumption)) (by with_reducible rfl) (by with_reducible rfl) ?_; rintro e w' ⟨rfl, hb⟩))
  rename_i hHeld
  have hWw : Below W.heap.size W w' := hHeld.2.2.2.2.2
  obtain ⟨t0, t1, t2, t3, t4, _⟩ := id hHeld
  go_wp2_with fail
  have HCa : Hid (Calls Tryz.prog 63 #[.agg #[.int .i64 x, .pointer none]] w'.drew fun e w'' => ∃ r, e = .returned r ∧ U32At w'' r (limbs x.natAbs) ∧ Below w'.heap.size w' w'') :=
    (limbs_any x _ w'.drew (HA'.out.below hWw.drew)).mono fun e w'' ⟨r, h1, h2, h3⟩ => ⟨r, h1, h2, (Below.refl w'.heap.size w').drew.trans h3⟩
  have HCb : Hid (∀ w1, Below w'.heap.size w' w1 → Calls Tryz.prog 63 #[.agg #[.int .i64 y, .pointer none]] w1 fun e w'' => ∃ r, e = .returned r ∧ U32At w'' r (limbs y.natAbs) ∧ Below w1.heap.size w1 w'') :=
    fun w1 h => limbs_any y _ w1 ((HB'.out.below hWw).below h)
  have HT : Hid (Two W w.heap.size x y none none w') := hHeld
  clear hHeld
  go_region_with (first
    | (go_at_call 63; refine calls_at HCa.out (by with_reducible rfl) (by with_reducible rfl) ?_; rintro e w1 ⟨xv, rfl, hUx, hb1⟩; obtain ⟨_, _, b01, b11, _, _⟩ := Two.next HT.out hb1; obtain ⟨xa, xc, hxv, _⟩ := hUx.form; subst hxv)
    | (go_at_call 63; refine calls_at (HCb.out _ hb1) (by with_reducible rfl) (by with_reducible rfl) ?_; rintro e w2 ⟨yv, rfl, hUy, hb2⟩; obtain ⟨ya, yc, hyv, _⟩ := hUy.form; subst hyv)
    | (go_at_call 85; refine calls_at (mulLimbs_any x.natAbs y.natAbs _ _ w2 (hUx.below hb2) hUy (by omega) (by omega)) (by with_reducible rfl) (by with_reducible rfl) ?_; rintro e w3 ⟨pv, rfl, hUp, hb3⟩; obtain ⟨ma, mc, hpv, _⟩ := hUp.form; subst hpv)
    | (go_at_call 44; refine calls_at (settled_any dd (x.natAbs * y.natAbs) _ w3 hUp) (by with_reducible rfl) (by with_reducible rfl) ?_; rintro e w4 ⟨r, rfl, hr, hb4⟩; obtain ⟨y3, q4, hr3⟩ := hr.shape; subst hr3; have hb02 : Below W.heap.size W w2 := hWw.trans ((hb1.mono hWw.size).trans (hb2.mono (Nat.le_trans hWw.size hb1.size))); have hb04 : Below W.heap.size W w4 := hb02.trans ((hb3.mono hb02.size).trans (hb4.mono (Nat.le_trans hb02.size hb3.size))); have hR2 := (hb04.block (w.heap.size + 1 + 1) (by omega)).trans hR; obtain ⟨r0, r1, r2, r3⟩ := box_facts hR2))
  all_goals
    obtain ⟨m0, m1⟩ := box_set hR2 (.int .i64 y3) (.pointer q4)
    rw [HE.out] at hr
    go_wp2
    exact bodyPost_ret (v := .agg #[.int .i64 y3, .pointer q4]) (by simp [results, Tryz.results58, go_sem, m0, m1]) rfl ⟨_, rfl, hr.setBox hR2 _ _, ((hBW.trans (hb04.mono hBW.size)).setCell (p := ⟨w.heap.size + 1 + 1, 0, none⟩) (by show w.heap.size ≤ w.heap.size + 1 + 1; omega) _).setCell (p := ⟨w.heap.size + 1 + 1, 1, none⟩) (by show w.heap.size ≤ w.heap.size + 1 + 1; omega) _⟩

/-- Mul. -/
theorem mul_big (x y : Int) (va vb : Value) (w : World) (ha : BigAt w va x) (hb : BigAt w vb y) (hx : (limbs x.natAbs).length ≤ 1000000) (hy : (limbs y.natAbs).length ≤ 1000000) :
    Calls Tryz.prog 58 #[va, vb] w fun e w' => ∃ r, e = .returned r ∧ BigAt w' r (x * y) ∧ Below w.heap.size w w' := by
  have HA : Hid (BigAt w va x) := ha
  have HB : Hid (BigAt w vb y) := hb
  rcases ha with ⟨hfx, rfl⟩ | ⟨_, p, s, rfl, _⟩
  · rcases hb with ⟨hfy, rfl⟩ | ⟨_, p, s, rfl, _⟩
    · by_cases hm : x.natAbs * y.natAbs < 18446744073709551616
      · exact mul_small x y _ _ hfx hfy rfl rfl (by rw [Nat.div_eq_of_lt hm]; rfl) (Nat.mod_lt _ (by decide)) (Nat.mod_eq_of_lt hm) w HA HB
      · refine mul_over x y _ _ hfx hfy rfl rfl ?_ w HA HB hx hy
        rw [beq_eq_false_iff_ne]
        intro h
        have h0 : x.natAbs * y.natAbs / 18446744073709551616 = 0 := by exact_mod_cast h
        rcases Nat.div_eq_zero_iff.1 h0 with h1 | h1
        · cases h1
        · exact hm h1
    · exact mul_wideB x y _ _ _ w HA HB hx hy
  · obtain ⟨n2, q2, rfl⟩ := hb.shape
    exact mul_wideA x y _ _ _ _ w HA HB hx hy

end Go.Proofs.YtjffbndiecjkjaaGreatDoor
