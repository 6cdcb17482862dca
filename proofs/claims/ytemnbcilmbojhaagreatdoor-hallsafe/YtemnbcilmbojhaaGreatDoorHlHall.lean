/-
  Package hall: a Hall of an interval.
-/
import Derived.Test.YtemnbcilmbojhaaGreatDoorHlIv
import Derived.Test.YtemnbcilmbojhaaGreatDoorJ34
import Derived.Test.YtemnbcilmbojhaaGreatDoorJ36
namespace Go.Proofs.YtemnbcilmbojhaaGreatDoor
open Go.RowKit

theorem make_ints (c : Int) (h0 : 0 ≤ c) (h1 : c ≤ 100000000) (w : World) : (Instr.makeSlice 28 (.int .i64 0) (.int .i64 c)).run Tryz.prog w = .ok (.slice (some ⟨w.heap.size, 0, none⟩) 0 c.toNat) (w.alloc (.cells (madeCells #[.int .i64 0] c.toNat) 3)) := by
  obtain ⟨i, hi, hz, hs, hbb⟩ := info_of info3
  have hr := run_make (P := Tryz.prog) w 28 3 i (.int .i64 0) und28 hi hz .i64 .i64 0 c (Int.le_refl _) h0 (by rw [hbb]; omega) (by omega)
  rw [hs, Nat.mul_one] at hr
  exact hr
theorem made_own (w : World) (B n : Nat) (hB : B ≤ w.heap.size) (hn : n ≤ 100000000) : (w.alloc (.cells (madeCells #[.int .i64 0] n) 3)).ownsRow B 3 1 (.slice (some ⟨w.heap.size, 0, none⟩) 0 n) 0 [] := by
  refine ⟨rfl, .inr ⟨w.heap.size, n, _, rfl, hB, heap_alloc_new w _, Nat.zero_le _, by unfold maxLen; omega, ?_, ?_⟩⟩
  · unfold madeCells
    simp
  · simp
/-- Behind the making of the Hall. -/
def HlR (W : World) (lo hi : Int) (s5 : Value) (wx : World) : Prop := ∃ Hb v, s5 = .pointer (some ⟨Hb, 0, none⟩) ∧ Hid (wx.heap[Hb]? = some (.cells #[.int .i64 lo, .int .i64 hi, v] 37 (0, 0))) ∧ Hid (wx.ownsRow W.heap.size 3 1 v 0 []) ∧ Hid (W.heap.size ≤ Hb) ∧ Hid (Below W.heap.size W wx)
theorem hlR_a {W : World} {lo hi : Int} {n : Nat} (hn : n ≤ 100000000) : HlR W lo hi (.pointer (some ⟨W.heap.size + 1, 0, none⟩)) ((W.alloc (.cells (madeCells #[.int .i64 0] n) 3)).alloc (.cells #[.int .i64 lo, .int .i64 hi, .slice (some ⟨W.heap.size, 0, none⟩) 0 n] 37)).drew :=
  ⟨_, _, rfl, heap_alloc2_new W _ _, (made_own W _ n (Nat.le_refl _) hn).alloc _, Nat.le_succ _, (((Below.refl _ _).alloc (Nat.le_refl _) _).alloc (by simp) _).drew⟩
theorem hlR_b {W : World} {lo hi : Int} {n : Nat} (hn : n ≤ 100000000) : HlR W lo hi (.pointer (some ⟨W.heap.size, 0, none⟩)) ((W.alloc (.cells #[.int .i64 lo, .int .i64 hi, .slice (some ⟨W.heap.size + 1, 0, none⟩) 0 n] 37)).alloc (.cells (madeCells #[.int .i64 0] n) 3)).drew := by
  have h1 := made_own (W.alloc (.cells #[.int .i64 lo, .int .i64 hi, .slice (some ⟨W.heap.size + 1, 0, none⟩) 0 n] 37)) W.heap.size n (by simp) hn
  have e : (W.alloc (.cells #[.int .i64 lo, .int .i64 hi, .slice (some ⟨W.heap.size + 1, 0, none⟩) 0 n] 37)).heap.size = W.heap.size + 1 := by simp
  rw [e] at h1
  exact ⟨_, _, rfl, (heap_alloc_old (W.alloc _) _ (by simp)).trans (heap_alloc_new W _), h1, Nat.le_refl _, (((Below.refl _ _).alloc (Nat.le_refl _) _).alloc (by simp) _).drew⟩
theorem own_base2 {w : World} {B B' : Nat} {e : TypeId} {size : Nat} {v : Value} {n : Nat} {xs : List Value} (h : w.ownsRow B e size v n xs) (hB : B' ≤ B) : w.ownsRow B' e size v n xs := by
  obtain ⟨h1, h2⟩ := h
  refine ⟨h1, ?_⟩
  rcases h2 with h2 | ⟨g, cap, cur, e1, e2, e3⟩
  · exact .inl h2
  · exact .inr ⟨g, cap, cur, e1, Nat.le_trans hB e2, e3⟩
theorem own_bl {w w' : World} {B : Nat} {e : TypeId} {size : Nat} {v : Value} {n : Nat} {xs : List Value} (h : w.ownsRow B e size v n xs) (hb : Below w.heap.size w w') : w'.ownsRow B e size v n xs := own_off h (S := fun _ => False) (fun _ _ h => h) ⟨hb.size, fun k hk _ => hb.block k hk⟩
/-- The Hall while it grows. -/
def HlI (W : World) (Hb : Nat) (lo hi : Int) (L : List Int) (wr : World) : Prop := ∃ v, wr.heap[Hb]? = some (.cells #[.int .i64 lo, .int .i64 hi, v] 37 (0, 0)) ∧ wr.ownsRow W.heap.size 3 1 v L.length (L.map (.int .i64)) ∧ Below W.heap.size W wr
theorem hlI_next {W w7 wr : World} {Hb : Nat} {lo hi x : Int} {L : List Int} {v v7 : Value} (hH : W.heap.size ≤ Hb) (h0 : wr.heap[Hb]? = some (.cells #[.int .i64 lo, .int .i64 hi, v] 37 (0, 0))) (hb : Below W.heap.size W wr) (ho : wr.ownsRow W.heap.size 3 1 v L.length (L.map (.int .i64)))
    (h7 : w7.ownsRow W.heap.size 3 1 v7 (L.length + 1) (L.map (.int .i64) ++ [.int .i64 x])) (hg : (wr.alloc (.cells [.int .i64 x].toArray 3)).grownBy w7 v.ownBlock) (hn : v7.ownBlock = v.ownBlock ∨ v7.ownBlock = some (wr.heap.size + 1)) : HlI W Hb lo hi (L ++ [x]) (w7.setCell ⟨Hb, 2, none⟩ v7) ∧ w7.cell? ⟨Hb, 2, none⟩ = some v ∧ w7.frozen? ⟨Hb, 2, none⟩ = false := by
  have lH := (Array.getElem?_eq_some_iff.1 h0).1
  have hne : v.ownBlock ≠ some Hb := fun e => by
    rcases ho.2 with ⟨rfl, _⟩ | ⟨g, cap, cur, rfl, _, h3, _⟩
    · cases e
    · have e : g = Hb := by simpa [Value.ownBlock] using e
      subst e
      rw [h0] at h3
      injection h3 with h3
      injection h3 with _ h4 _
      cases h4
  have k0 : w7.heap[Hb]? = some (.cells #[.int .i64 lo, .int .i64 hi, v] 37 (0, 0)) := (hg.block _ (by simp; omega) (fun e => hne e.symm)).trans ((heap_alloc_old wr _ lH).trans h0)
  have hbs := hb.size
  refine ⟨⟨v7, ?_, ?_, ?_⟩, cell_of k0 2, frozen_of k0 2⟩
  · have hE := heap_setCell_same w7 Hb 2 _ 37 v7 k0
    simpa only [List.setIfInBounds_toArray, List.set_cons_zero, List.set_cons_succ] using hE
  · rw [List.length_append, List.map_append]
    refine own_off h7 (fun g hgg e => ?_) (Off.set (S := fun b => b = Hb) _ rfl)
    have e : g = Hb := e
    rcases hn with hn | hn
    · rw [hn, e] at hgg
      exact hne hgg
    · rw [hn] at hgg
      injection hgg with hgg
      omega
  · exact (((hb.alloc hbs _).grown hg (by simp; omega) (fun k hk => (ho.lt k hk).1))).setCell hH _
theorem set3h {w : World} {N : Nat} {a0 a1 a2 : Value} {t : TypeId} (h : w.heap[N]? = some (.cells #[a0, a1, a2] t (0, 0))) (b0 b1 b2 : Value) : (((w.setCell ⟨N, 0, none⟩ b0).setCell ⟨N, 1, none⟩ b1).setCell ⟨N, 2, none⟩ b2).heap[N]? = some (.cells #[b0, b1, b2] t (0, 0)) := by
  have hE := heap_setCell_same _ N 2 _ t b2 (heap_setCell_same _ N 1 _ t b1 (heap_setCell_same w N 0 _ t b0 h))
  simpa only [List.setIfInBounds_toArray, List.set_cons_zero, List.set_cons_succ] using hE
theorem info37s : (Tryz.prog.info? 37).map (·.size) = some 3 := by kernel_rfl
theorem fil_next {xs : List Int} {f : Int → Bool} {k : Nat} (hk : k < xs.length) : (xs.take (k + 1)).filter f = (xs.take k).filter f ++ if f xs[k] then [xs[k]] else [] := by
  rw [List.take_succ_eq_append_getElem hk, List.filter_append]
  congr 1
  by_cases h : f xs[k] = true
  · simp [h]
  · simp [h]

set_option maxRecDepth 10000 in
set_option maxHeartbeats 4000000 in
theorem hall_any (xa : Option Addr) (xc : Nat) (xs : List Int) (vg : Value) (i : Iv) (w : World) (hX : IntsAt w (.slice xa xs.length xc) xs) (hx : ∀ x ∈ xs, 0 ≤ x ∧ x < 32) (hi : i.Ok) (hl : xs.length ≤ 1000000) : Calls Tryz.prog 32 #[.agg #[.slice xa xs.length xc, vg], i.val] w fun e w' => ∃ v, e = .returned (.agg #[.int .i64 i.lo, .int .i64 i.hi, v]) ∧ Hid (w'.ownsRow w.heap.size 3 1 v (xs.filter fun x => i.f x.toNat).length ((xs.filter fun x => i.f x.toNat).map (.int .i64))) ∧ Below w.heap.size w w' := by
  obtain ⟨lo, hi', f, n⟩ := i
  obtain ⟨l1, l2, h1, h2, n1, n2⟩ := hi
  unfold Iv.val
  dsimp only at l1 l2 h1 h2 n1 n2 ⊢
  have HAt : Hid (∀ (x : Int) w', 0 ≤ x → x < 32 → Calls Tryz.prog 55 #[bVal f, .int .i64 x] w' fun e w2 => e = .returned (.bool (f x.toNat)) ∧ Below w'.heap.size w' w2) := fun x w' h1 h2 => by
    obtain ⟨y, rfl⟩ : ∃ y : Nat, x = (y : Int) := ⟨x.toNat, by omega⟩
    exact bAt_any f y (by omega) w'
  have HAt0 := HAt.out
  unfold bVal at HAt0
  generalize wd f 0 = a0 at *
  generalize wd f 1 = a1 at *
  generalize wd f 2 = a2 at *
  generalize wd f 3 = a3 at *
  obtain ⟨W, hW⟩ : ∃ W, ((w.alloc (.cells #[.slice xa xs.length xc, vg] 66)).alloc (.cells #[.int .i64 lo, .int .i64 hi', .int .u8 (a0 : Int), .int .u8 (a1 : Int), .int .u8 (a2 : Int), .int .u8 (a3 : Int), .int .i64 n] 76)).alloc (.cells #[.int .i64 0, .int .i64 0, .slice none 0 0] 37) = W := ⟨_, rfl⟩
  have HB : Hid (Below w.heap.size w W) := by rw [← hW]; exact alloc3b w _ _ _
  have g0 : W.heap[w.heap.size]? = some (.cells #[.slice xa xs.length xc, vg] 66 (0, 0)) := by rw [← hW]; exact alloc3_0 w _ _ _
  have g1 : W.heap[w.heap.size + 1]? = some (.cells #[.int .i64 lo, .int .i64 hi', .int .u8 (a0 : Int), .int .u8 (a1 : Int), .int .u8 (a2 : Int), .int .u8 (a3 : Int), .int .i64 n] 76 (0, 0)) := by rw [← hW]; exact alloc3_1 w _ _ _
  have g2 : W.heap[w.heap.size + 1 + 1]? = some (.cells #[.int .i64 0, .int .i64 0, .slice none 0 0] 37 (0, 0)) := by rw [← hW]; exact alloc3_2 w _ _ _
  have e0 := cell_of g1 0
  have e1 := cell_of g1 1
  have e6 := cell_of g1 6
  have hmk := make_ints n n1 n2
  have hlt1 : w.heap.size + 1 < W.heap.size := (Array.getElem?_eq_some_iff.1 g1).1
  have hlt2 : w.heap.size + 1 < W.heap.size + 1 := by omega
  go_enter Tryz.func32, Tryz.ntmps32
  go_upto_region 1 with fail
  try rw [hW]
  clear hW
  go_cut [5] from 8 to 17 (fun s5 wx => HlR W lo hi' s5 wx)
  case first =>
    go_region
    · go_wp2_with fail
      go_meet
      exact hlR_a (by omega)
    · go_wp2_with fail
      go_meet
      exact hlR_b (by omega)
  case rest =>
  obtain ⟨Hb, v0, rfl, H0, HO, HHb, HBx⟩ := hcut
  rename World => wx
  have HI0 : Hid (HlI W Hb lo hi' ((xs.take 0).filter fun x => f x.toNat) wx) := ⟨v0, H0.out, HO.out, HBx.out⟩
  have HAt1 : Hid (∀ (x : Int) w', 0 ≤ x → x < 32 → Calls Tryz.prog 55 #[.agg #[.int .u8 (a0 : Int), .int .u8 (a1 : Int), .int .u8 (a2 : Int), .int .u8 (a3 : Int)], .int .i64 x] w' fun e w2 => e = .returned (.bool (f x.toNat)) ∧ Below w'.heap.size w' w2) := HAt0
  have HX : Hid (∀ w', Below W.heap.size W w' → ∀ (k : Nat) (hk : k < xs.length), ∃ b off, xa = some ⟨b, off, none⟩ ∧ w'.cell? ⟨b, off + k, none⟩ = some (.int .i64 xs[k])) := fun w' hb k hk => by
    obtain ⟨a', c', e, _, hcl⟩ := hX
    injection e with e1 _ _
    subst e1
    obtain ⟨b, off, e, hlt, hc⟩ := hcl (by omega)
    exact ⟨b, off, e, ((HB.out.trans (hb.mono HB.out.size)).cell (p := ⟨b, _, none⟩) hlt).trans (hc k hk)⟩
  have HG : Hid (∀ w', Below W.heap.size W w' → w'.cell? ⟨w.heap.size, 0, none⟩ = some (.slice xa xs.length xc) ∧ (w'.cell? ⟨w.heap.size + 1, 2, none⟩ = some (.int .u8 (a0 : Int)) ∧ w'.cell? ⟨w.heap.size + 1, 3, none⟩ = some (.int .u8 (a1 : Int)) ∧ w'.cell? ⟨w.heap.size + 1, 4, none⟩ = some (.int .u8 (a2 : Int)) ∧ w'.cell? ⟨w.heap.size + 1, 5, none⟩ = some (.int .u8 (a3 : Int))) ∧ w'.heap[w.heap.size + 1 + 1]? = some (.cells #[.int .i64 0, .int .i64 0, .slice none 0 0] 37 (0, 0))) := fun w' hb => by
    have q0 := (hb.block _ (Array.getElem?_eq_some_iff.1 g0).1).trans g0
    have q1 := (hb.block _ (Array.getElem?_eq_some_iff.1 g1).1).trans g1
    exact ⟨cell_of q0 0, ⟨cell_of q1 2, cell_of q1 3, cell_of q1 4, cell_of q1 5⟩, (hb.block _ (Array.getElem?_eq_some_iff.1 g2).1).trans g2⟩
  have Hxs : Hid (∀ (k : Nat) (hk : k < xs.length), 0 ≤ xs[k] ∧ xs[k] < 32) := fun k hk => hx _ (List.getElem_mem hk)
  have Hlt : Hid (w.heap.size + 1 + 1 < W.heap.size) := (Array.getElem?_eq_some_iff.1 g2).1
  clear g0 g1 g2 e0 e1 e6 hmk hlt1 hlt2 H0 HO HBx HAt HAt0 hX hx
  obtain ⟨p0, _⟩ := HG.out wx HI0.out.choose_spec.2.2
  go_upto_region 3 with fail
  clear p0
  go_loopw [21] (fun iv wr => ∃ (k : Nat), iv = .int .i64 (k : Int) ∧ k ≤ xs.length ∧ Hid (HlI W Hb lo hi' ((xs.take k).filter fun x => f x.toNat) wr)) (fun iv _ => xs.length - (intOf iv).toNat)
  case atStart => exact ⟨0, rfl, Nat.zero_le _, HI0⟩
  case round =>
  obtain ⟨k, rfl, hk, HI⟩ := hrel
  obtain ⟨v, j0, jo, jb⟩ := HI.out
  obtain ⟨va, vp, rfl⟩ := own_slice jo
  have HJ0 : Hid (wr.heap[Hb]? = some (.cells #[.int .i64 lo, .int .i64 hi', .slice va ((xs.take k).filter fun x => f x.toNat).length vp] 37 (0, 0))) := j0
  have HJo : Hid (wr.ownsRow W.heap.size 3 1 (.slice va ((xs.take k).filter fun x => f x.toNat).length vp) ((xs.take k).filter fun x => f x.toNat).length (((xs.take k).filter fun x => f x.toNat).map (.int .i64))) := jo
  have HJb : Hid (Below W.heap.size W wr) := jb
  have c0 := cell_of j0 0
  have c1 := cell_of j0 1
  have c2 := cell_of j0 2
  clear j0 jo jb HI
  obtain ⟨_, ⟨q2, q3, q4, q5⟩, _⟩ := HG.out wr HJb.out
  by_cases hkn : k < xs.length
  case neg =>
    have hke : k = xs.length := by omega
    subst hke
    have hkI : ¬ (xs.length : Int) < (xs.length : Int) := by omega
    rw [List.take_length] at *
    obtain ⟨_, _, r2⟩ := HG.out wr HJb.out
    have HR2 : Hid (wr.heap[w.heap.size + 1 + 1]? = some (.cells #[.int .i64 0, .int .i64 0, .slice none 0 0] 37 (0, 0))) := r2
    have s0 := cell_of r2 0
    have s1 := cell_of r2 1
    have s2 := cell_of r2 2
    have sz : ∀ i, wr.frozen? ⟨w.heap.size + 1 + 1, i, none⟩ = false := fun i => frozen_of r2 i
    clear r2
    go_wp2_with fail
    refine bodyPost_ret (v := .agg #[.int .i64 lo, .int .i64 hi', .slice va (xs.filter fun x => f x.toNat).length vp]) (results_cell_row Tryz.results32 _ _ (w.heap.size + 1 + 1) 37 #[.int .i64 lo, .int .i64 hi', .slice va (xs.filter fun x => f x.toNat).length vp] (0, 0) _ rfl (set3h HR2.out _ _ _) Tryz.underlying37 rfl info37s) rfl ⟨_, rfl, ?_, ?_⟩
    · refine own_base2 (own_off HJo.out (fun g hg e => ?_) ((Off.set (S := fun b => b = w.heap.size + 1 + 1) _ rfl).trans ((Off.set (S := fun b => b = w.heap.size + 1 + 1) _ rfl).trans (Off.set (S := fun b => b = w.heap.size + 1 + 1) _ rfl)))) HB.out.size
      have := (HJo.out.lt g hg).1
      have := Hlt.out
      omega
    · exact (((HB.out.trans (HJb.out.mono HB.out.size)).setCell (by show w.heap.size ≤ w.heap.size + 1 + 1; omega) _).setCell (by show w.heap.size ≤ w.heap.size + 1 + 1; omega) _).setCell (by show w.heap.size ≤ w.heap.size + 1 + 1; omega) _
  case pos =>
  have hkI : (k : Int) < (xs.length : Int) := by omega
  obtain ⟨b, off, rfl, x0⟩ := HX.out wr HJb.out k hkn
  have hxk := Hxs.out k hkn
  have HN : Hid ((xs.take (k + 1)).filter (fun x => f x.toNat) = (xs.take k).filter (fun x => f x.toNat) ++ if f xs[k].toNat then [xs[k]] else []) := fil_next hkn
  have HA := HAt1.out xs[k] wr hxk.1 hxk.2
  obtain ⟨x, hx⟩ : ∃ x, xs[k] = x := ⟨_, rfl⟩
  rw [hx] at x0 HN HA
  obtain ⟨r, hr⟩ : ∃ r, f x.toNat = r := ⟨_, rfl⟩
  rw [hr] at HN HA
  have HA2 : Hid (Calls Tryz.prog 55 #[.agg #[.int .u8 (a0 : Int), .int .u8 (a1 : Int), .int .u8 (a2 : Int), .int .u8 (a3 : Int)], .int .i64 x] wr fun e w2 => e = .returned (.bool r) ∧ Below wr.heap.size wr w2) := HA
  have HGL : Hid (∀ w', Below wr.heap.size wr w' → HlI W Hb lo hi' ((xs.take k).filter fun x => f x.toNat) w' ∧ w'.cell? ⟨Hb, 2, none⟩ = some (.slice va ((xs.take k).filter fun x => f x.toNat).length vp)) := fun w' hb => by
    have h1 := (hb.block _ (Array.getElem?_eq_some_iff.1 HJ0.out).1).trans HJ0.out
    exact ⟨⟨_, h1, own_bl HJo.out hb, bl_next HJb.out hb⟩, cell_of h1 2⟩
  have hfl : ((xs.take k).filter fun x => f x.toNat).length ≤ 1000000 := by
    have := List.length_filter_le (fun x : Int => f x.toNat) (xs.take k)
    have := List.length_take_le k xs
    omega
  clear HA hx hr hxk HJo
  obtain ⟨L, hL⟩ : ∃ L, (xs.take k).filter (fun x => f x.toNat) = L := ⟨_, rfl⟩
  rw [hL] at HN HGL hfl HJ0
  cases r with
  | false =>
    go_wp2_with (go_at_call 55; refine calls_at HA2.out (by with_reducible rfl) (by with_reducible rfl) ?_; rintro e w4 ⟨rfl, hb4⟩)
    go_roundw
    case rel => exact ⟨k + 1, by go_num, hkn, (by show HlI _ _ _ _ _ _; rw [HN.out]; simpa using (HGL.out w4 hb4).1)⟩
    case measure => simp [intOf]; omega
  | true =>
    have HOne : Hid (∀ u ∈ ([.int .i64 x] : List Value), u.oneCell' = true) := by
      intro u hu
      rw [List.mem_singleton.1 hu]
      rfl
    have HAp : Hid (∀ w4, Below wr.heap.size wr w4 → ∃ o4, w4.ownsRow W.heap.size 3 1 (.slice va L.length vp) L.length o4 ∧ o4 = L.map (.int .i64) ∧ w4.heap[Hb]? = some (.cells #[.int .i64 lo, .int .i64 hi', .slice va L.length vp] 37 (0, 0)) ∧ Below W.heap.size W w4) := fun w4 hb => by
      obtain ⟨v', q0, qo, qb⟩ := (HGL.out w4 hb).1
      have h1 := (hb.block _ (Array.getElem?_eq_some_iff.1 HJ0.out).1).trans HJ0.out
      have ev : v' = .slice va L.length vp := by
        rw [h1] at q0
        injection q0 with q0
        injection q0 with q0
        have := congrArg (fun a => a[2]?) q0
        simpa using this.symm
      subst ev
      exact ⟨_, qo, rfl, h1, qb⟩
    go_upto_region 6 with (go_at_call 55; refine calls_at HA2.out (by with_reducible rfl) (by with_reducible rfl) ?_; rintro e w4 ⟨rfl, hb4⟩)
    obtain ⟨_, ho4, rfl, hh4, hB4⟩ := HAp.out w4 hb4
    have HO4 : Hid (w4.ownsRow W.heap.size 3 1 (.slice va L.length vp) L.length (L.map (.int .i64))) := ho4
    have HH4 : Hid (w4.heap[Hb]? = some (.cells #[.int .i64 lo, .int .i64 hi', .slice va L.length vp] 37 (0, 0))) := hh4
    have HB4 : Hid (Below W.heap.size W w4) := hB4
    have t2 := cell_of hh4 2
    clear ho4 hh4 hB4 hb4 c0 c1 c2 q2 q3 q4 q5 x0
    go_wp2_with (at_builtin; refine append_els w4 [.int .i64 x] 1 rfl (by decide) rfl (.tmp 30) (.tmp 32) 28 3 (.int .i64 0) 8 rfl und28 info3 rfl W.heap.size _ _ _ (by rfl) HO4.out HOne.out w4.heap.size rfl (by rfl) (by unfold maxLen; omega) (by omega) HB4.out.size ?_; intro v7 w7 ho7 hg7 hn7; (obtain ⟨a7, c7, rfl⟩ := own_slice ho7); (obtain ⟨hN7, hc7, hz7⟩ := hlI_next HHb.out HH4.out HB4.out HO4.out ho7 hg7 hn7); (have HN7 : Hid (HlI W Hb lo hi' (L ++ [x]) (w7.setCell ⟨Hb, 2, none⟩ (.slice a7 (L.length + 1) c7))) := hN7); clear hN7 ho7 hg7 hn7)
    generalize w7.setCell ⟨Hb, 2, none⟩ (.slice a7 (L.length + 1) c7) = w8 at *
    go_roundw
    case rel => exact ⟨k + 1, by go_num, hkn, (by show HlI _ _ _ _ _ _; rw [HN.out]; exact HN7.out)⟩
    case measure => simp [intOf]; omega
end Go.Proofs.YtemnbcilmbojhaaGreatDoor
