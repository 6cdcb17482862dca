/-
  Put together: HlStarts, HlCrowdD, HlSorted.
-/
import Derived.Test.YtemnbcilmbojhaaGreatDoorHlSortG
import Derived.Test.YtemnbcilmbojhaaGreatDoorHlSortN
import Derived.Sort.OwnSortedInts
import Derived.Test.YtemnbcilmbojhaaGreatDoorJ30
namespace Go.Proofs.YtemnbcilmbojhaaGreatDoor
open Go.RowKit Go.Sort Go.Lib Go.Shelf

/-- Where intervals begin, rising. -/
def stL (G : List Gr) : List Int := Lib.compact ((G.map Gr.lo).mergeSort fun x y => decide (x ≤ y))
theorem info3i : (Tryz.prog.info? 3).map (fun i => (i.zero, i.size, i.bytes)) = some (some (.int .i64 0), 1, 8) := by kernel_rfl
/-- What a sort of ints leaves. -/
theorem sortI_out {w : World} {B : Nat} {v : Value} {l : List Int} (ho : w.ownsRow B 3 1 v l.length (l.map (.int .i64))) (hm : l.length ≤ 1000000) : Calls Tryz.prog 70 #[v] w fun e w' => e = .returned (.tuple #[]) ∧ w'.ownsRow B 3 1 v l.length ((l.mergeSort fun x y => decide (x ≤ y)).map (.int .i64)) ∧ Below B w w' := by
  rcases ho.2 with ⟨rfl, hn⟩ | ⟨g, cap, cur, rfl, h2, h3, h4, h5, h6, h7⟩
  · refine (sort0 none 0 w).mono ?_
    rintro e w' ⟨rfl, rfl⟩
    have h0 : l = [] := List.length_eq_zero_iff.1 hn
    subst h0
    exact ⟨rfl, by simpa using World.ownsRow_nil _ _ _ _, Below.refl _ _⟩
  · have hH : Holds (Value.int .i64) w g 0 l.toArray := holds_of_blockI h3 (by rw [Nat.mul_one] at h7; exact h7)
    refine (Tryz.slices_Sort_int g 0 cap l w hH (Array.getElem?_eq_some_iff.1 h3).1 (by omega)).mono ?_
    rintro e w' ⟨rfl, n, os, rfl⟩
    refine ⟨rfl, ownsRow_sortedI (List.length_mergeSort _) h2 h3 h4 h5 h6, ?_⟩
    exact (Below.refl _ _).grown (grownBy_sortedI _) (Nat.le_of_lt (Nat.lt_of_le_of_lt h2 (Array.getElem?_eq_some_iff.1 h3).1)) (fun k hk => by injection hk with hk; omega)
theorem compact_len (l : List Int) : (Lib.compact l).length ≤ l.length := by
  unfold Lib.compact Lib.compactUpTo
  rw [List.length_map]
  exact Nat.le_trans (List.length_filter_le _ _) (by simp)
/-- What a compaction leaves. -/
theorem compI_out {w : World} {B : Nat} {v : Value} {l : List Int} (ho : w.ownsRow B 3 1 v l.length (l.map (.int .i64))) (hm : l.length ≤ 1000000) : Calls Tryz.prog 71 #[v] w fun e w' => ∃ a cp, e = .returned (.slice a (Lib.compact l).length cp) ∧ IntsAt w' (.slice a (Lib.compact l).length cp) (Lib.compact l) ∧ Below B w w' := by
  rcases ho.2 with ⟨rfl, hn⟩ | ⟨g, cap, cur, rfl, h2, h3, h4, h5, h6, h7⟩
  · refine (Tryz.slices_Compact_int_empty none 0 w).mono ?_
    rintro e w' ⟨rfl, rfl⟩
    have h0 : l = [] := List.length_eq_zero_iff.1 hn
    subst h0
    exact ⟨none, 0, rfl, ⟨none, 0, rfl, by decide, fun h => absurd h (by decide)⟩, Below.refl _ _⟩
  · have hH : Holds (Value.int .i64) w g 0 l.toArray := holds_of_blockI h3 (by rw [Nat.mul_one] at h7; exact h7)
    have hg := (Array.getElem?_eq_some_iff.1 h3).1
    refine (Tryz.slices_Compact_int g 0 cap l w hH (by omega) h4).mono ?_
    rintro e w' ⟨rfl, q, rfl⟩
    have hc := compact_len l
    have hP := holds_putRow (Value.int .i64) (Sort.ahead w q) g 0 l.toArray (Lib.compact l ++ List.replicate (l.length - (Lib.compact l).length) 0).toArray hH (by simp; omega)
    refine ⟨_, _, rfl, ⟨_, _, rfl, by unfold maxLen; omega, fun _ => ⟨g, 0, rfl, by simpa using hg, fun k hk => ?_⟩⟩, ?_⟩
    · have := (hP k (by simp; omega)).1
      rw [this]
      congr 2
      simp [List.getElem?_append_left hk, hk]
    · refine ⟨rfl, rfl, rfl, by simp, fun k hk => ?_⟩
      have : g ≠ k := by omega
      simp [putRow, mapBlock, Sort.ahead, Array.getElem?_modify, this]
def StOut (G : List Gr) (w : World) (e : Ending) (w' : World) : Prop := ∃ a cp, e = .returned (.slice a (stL G).length cp) ∧ IntsAt w' (.slice a (stL G).length cp) (stL G) ∧ Below w.heap.size w w'
set_option maxRecDepth 10000 in
set_option maxHeartbeats 2000000 in
theorem starts_any (pv : Value) (ga : Option Addr) (gc : Nat) (G : List Gr) (w : World) (hG : GrsAt w ga G) (hl : G.length ≤ 100000) : Calls Tryz.prog 49 #[.agg #[pv, .slice ga G.length gc]] w (StOut G w) := by
  obtain ⟨W, hW⟩ : ∃ W, w.alloc (.cells #[pv, .slice ga G.length gc] 66) = W := ⟨_, rfl⟩
  have hb0 : Below w.heap.size w W := by rw [← hW]; exact (Below.refl _ _).alloc (Nat.le_refl _) _
  have HB : Hid (Below w.heap.size w W) := hb0
  have g0 : W.heap[w.heap.size]? = some (.cells #[pv, .slice ga G.length gc] 66 (0, 0)) := by rw [← hW]; exact heap_alloc_new w _
  have p1 := cell_of g0 1
  have HG : Hid (∀ w', Below W.heap.size W w' → ∀ k (hk : k < G.length), ∃ b off, ga = some ⟨b, off, none⟩ ∧ GrAt w' b (off + k * 4) G[k]) := fun w' hb k hk => by
    obtain ⟨b, off, e, hlt, hg⟩ := hG k hk
    have hb2 := hb0.trans (hb.mono hb0.size)
    exact ⟨b, off, e, hg.mono (hb2.block b hlt)⟩
  clear hG g0 hb0
  go_enter Tryz.func49, Tryz.ntmps49
  go_upto_region 1 with fail
  try rw [hW]
  clear hW
  go_upto_region 3 with fail
  clear p1
  go_loopw [3, 9] (fun sv iv wr => ∃ (k : Nat), iv = .int .i64 (k : Int) ∧ k ≤ G.length ∧ Hid (wr.ownsRow W.heap.size 3 1 sv k (((G.take k).map Gr.lo).map (.int .i64))) ∧ Hid (Below W.heap.size W wr)) (fun _ iv _ => G.length - (intOf iv).toNat)
  case atStart => exact ⟨0, rfl, Nat.zero_le _, World.ownsRow_nil _ _ _ _, Below.refl _ _⟩
  case round =>
  obtain ⟨k, rfl, hk, HO, HBr⟩ := hrel
  obtain ⟨sa, sc, rfl⟩ := own_slice HO.out
  by_cases hkn : k < G.length
  case neg =>
    have hke : k = G.length := by omega
    subst hke
    have hkI : ¬ (G.length : Int) < (G.length : Int) := by omega
    have HO2 : Hid (wr.ownsRow W.heap.size 3 1 (.slice sa (G.map Gr.lo).length sc) (G.map Gr.lo).length ((G.map Gr.lo).map (.int .i64))) := by
      have := HO.out
      rw [List.take_length] at this
      show wr.ownsRow _ _ _ _ _ _
      rw [List.length_map]
      exact this
    have hS := sortI_out HO2.out (by rw [List.length_map]; omega)
    have HS : Hid (Calls Tryz.prog 70 #[.slice sa G.length sc] wr fun e w' => e = .returned (.tuple #[]) ∧ Calls Tryz.prog 71 #[.slice sa G.length sc] w' (fun e w2 => ∃ a cp, e = .returned (.slice a (stL G).length cp) ∧ IntsAt w2 (.slice a (stL G).length cp) (stL G) ∧ Below W.heap.size W w2)) := by
      rw [List.length_map] at hS
      refine hS.mono ?_
      rintro e w' ⟨rfl, ho', hb'⟩
      refine ⟨rfl, ?_⟩
      have hm : ((G.map Gr.lo).mergeSort fun x y => decide (x ≤ y)).length = G.length := by rw [List.length_mergeSort, List.length_map]
      rw [← hm] at ho'
      have hc := compI_out ho' (by rw [hm]; omega)
      rw [hm] at hc
      refine hc.mono ?_
      rintro e w2 ⟨a, cp, rfl, hi, hb2⟩
      exact ⟨a, cp, rfl, hi, (HBr.out.trans (hb'.mono (Nat.le_refl _))).trans (hb2.mono (Nat.le_refl _))⟩
    clear hS HO HO2
    go_wp2_with (first | (go_at_call 70; refine calls_at HS.out (by with_reducible rfl) (by with_reducible rfl) ?_; intro e w2 hh; (obtain ⟨h1, h2⟩ := hh); subst h1; (have HC : Hid _ := h2); clear h2) | (go_at_call 71; refine calls_at HC.out (by with_reducible rfl) (by with_reducible rfl) ?_; intro e w3 hh; (obtain ⟨a, cp, h1, h2, h3⟩ := hh); subst h1))
    go_ret
    exact ⟨a, cp, rfl, h2, HB.out.trans (h3.mono HB.out.size)⟩
  case pos =>
  have hkI : (k : Int) < (G.length : Int) := by omega
  have HN : Hid (((G.take (k + 1)).map Gr.lo).map (Value.int .i64) = ((G.take k).map Gr.lo).map (Value.int .i64) ++ [.int .i64 G[k].lo]) := by
    show _ = _
    rw [List.take_succ_eq_append_getElem hkn, List.map_append, List.map_append]
    rfl
  obtain ⟨b, off, rfl, hgr⟩ := HG.out wr HBr.out k hkn
  obtain ⟨q0, q1, q2, q3⟩ := hgr
  obtain ⟨⟨lo, hi, x, n⟩, hgk⟩ : ∃ g, G[k] = g := ⟨_, rfl⟩
  rw [hgk] at q0 q1 q2 q3 HN
  dsimp only at q0 q1 q2 q3
  clear hgk
  obtain ⟨V, hV⟩ : ∃ V, wr.alloc (.cells #[.int .i64 lo, .int .i64 hi, .int .i64 (x : Int), .int .i64 n] 79) = V := ⟨_, rfl⟩
  have hbV : Below wr.heap.size wr V := by rw [← hV]; exact (Below.refl _ _).alloc (Nat.le_refl _) _
  have gV : V.heap[wr.heap.size]? = some (.cells #[.int .i64 lo, .int .i64 hi, .int .i64 (x : Int), .int .i64 n] 79 (0, 0)) := by rw [← hV]; exact heap_alloc_new wr _
  have v0 := cell_of gV 0
  have HOV : Hid (V.ownsRow W.heap.size 3 1 (.slice sa k sc) k (((G.take k).map Gr.lo).map (.int .i64))) := own_bl HO.out hbV
  have HBV : Hid (Below W.heap.size W V) := bl_next HBr.out hbV
  clear gV hbV HO
  go_upto_region 5 with fail
  try rw [hV]
  clear hV q0 q1 q2 q3
  go_wp2_with (first
    | (at_builtin; refine append_one V (.int .i64 lo) rfl (.tmp 13) (.tmp 17) 28 3 (.int .i64 0) 8 rfl und28 info3i rfl W.heap.size _ k _ (by rfl) HOV.out rfl V.heap.size rfl (by rfl) (by unfold maxLen; omega) (by omega) HBV.out.size ?_; intro v1 w1 ho1 hg1 hn1))
  go_roundw
  case rel => exact ⟨k + 1, by go_num, hkn, (by show World.ownsRow _ _ _ _ _ _ _; rw [HN.out]; exact ho1), ((HBV.out.alloc HBV.out.size _).grown hg1 (by simp; exact Nat.le_succ_of_le HBV.out.size) (fun g hg => (HOV.out.lt g hg).1))⟩
  case measure => simp [intOf]; omega
end Go.Proofs.YtemnbcilmbojhaaGreatDoor

namespace Go.Proofs.YtemnbcilmbojhaaGreatDoor
open Go.RowKit

theorem und5 : Tryz.prog.underlying 5 = some (.int .u8) := by kernel_rfl
theorem cells5 : Tryz.prog.cellsOf 5 = 1 := by kernel_rfl
theorem info5 : (Tryz.prog.info? 5).map (fun i => (i.zero, i.size, i.bytes)) = some (some (.int .u8 0), 1, 1) := by kernel_rfl
theorem part5 (a0 a1 a2 a3 : Value) (w : World) : (part 5 #[a0, a1, a2, a3] 0).run Tryz.prog w = .ok a0 w ∧ (part 5 #[a0, a1, a2, a3] 1).run Tryz.prog w = .ok a1 w ∧ (part 5 #[a0, a1, a2, a3] 2).run Tryz.prog w = .ok a2 w ∧ (part 5 #[a0, a1, a2, a3] 3).run Tryz.prog w = .ok a3 w := ⟨by kernel_rfl, by kernel_rfl, by kernel_rfl, by kernel_rfl⟩
/-- Two sets of bits held against one another. -/
theorem ne74 (a b c d a' b' c' d' : Int) (w : World) : (binOp .neq 74 (.agg #[.int .u8 a, .int .u8 b, .int .u8 c, .int .u8 d]) (.agg #[.int .u8 a', .int .u8 b', .int .u8 c', .int .u8 d'])).run Tryz.prog w = .ok (.bool (!(a == a' && (b == b' && (c == c' && d == d'))))) w := by
  obtain ⟨i, hi, _⟩ := info_of info5
  rw [run_neq_struct, run_equalIn_array (P := Tryz.prog) w 9999 _ _ und74 hi]
  have pa := part5 (.int .u8 a) (.int .u8 b) (.int .u8 c) (.int .u8 d) w
  have pb := part5 (.int .u8 a') (.int .u8 b') (.int .u8 c') (.int .u8 d') w
  have eq := fun a b => run_equalIn_int (P := Tryz.prog) w 9998 5 .u8 .u8 a b und5
  have r2 : List.range 4 = [0, 1, 2, 3] := rfl
  simp only [r2, Op.eqItems, cells5, Nat.mul_one, Sem.run_bind, pa, pb, eq, Result.andThen_ok, Sem.run_ite, Sem.run_pure]
  cases a == a' <;> cases b == b' <;> cases c == c' <;> cases d == d' <;> simp [Result.andThen]
/-- The same bits. -/
def sameB (f h : Nat → Bool) : Bool := ((wd f 0 : Int) == (wd h 0 : Int)) && (((wd f 1 : Int) == (wd h 1 : Int)) && (((wd f 2 : Int) == (wd h 2 : Int)) && ((wd f 3 : Int) == (wd h 3 : Int))))
/-- How far it has come. -/
structure CfS where
  i : Iv
  nar : Nat → Bool
  out : List Iv
def cf1 (a : Int) (i : Iv) (g : Gr) : Iv := if a ≤ g.lo then Iv.with ⟨i.lo, g.hi, i.f, i.n⟩ g else ⟨i.lo, g.hi, i.f, i.n⟩
def nxE (g : Gr) : List Gr → Bool
  | [] => false
  | g' :: _ => decide (g'.hi = g.hi)
def cfStep (a : Int) (S : CfS) (g : Gr) (G : List Gr) : CfS :=
  if nxE g G then ⟨cf1 a S.i g, S.nar, S.out⟩
  else ⟨cf1 a S.i g, (cf1 a S.i g).f, if (!sameB (cf1 a S.i g).f S.nar && decide ((cf1 a S.i g).num ≤ (cf1 a S.i g).n)) then S.out ++ [cf1 a S.i g] else S.out⟩
def cfR (a : Int) (S : CfS) : List Gr → CfS
  | [] => S
  | g :: G => cfR a (cfStep a S g G) G
def cf0 (a : Int) : CfS := ⟨⟨a, 0, fun _ => false, 0⟩, fun _ => false, []⟩
/-- The crowded intervals from a number on. -/
def cfL (a : Int) (G : List Gr) : List Iv := (cfR a (cf0 a) G).out
def ivs (L : List Iv) : List Value := L.flatMap Iv.cells
theorem ivs_append (G G' : List Iv) : ivs (G ++ G') = ivs G ++ ivs G' := by simp [ivs]
theorem ivs_one (g : Iv) : ivs [g] = g.cells := by simp [ivs]
theorem info76 : (Tryz.prog.info? 76).map (fun i => (i.zero, i.size, i.bytes)) = some (some (.agg #[.int .i64 0, .int .i64 0, .int .u8 0, .int .u8 0, .int .u8 0, .int .u8 0, .int .i64 0]), 7, 32) := by kernel_rfl
theorem und68 : Tryz.prog.underlying 68 = some (.slice 76) := by kernel_rfl
/-- The memory of it. -/
structure CfI (N : Nat) (w : World) (S : CfS) (v : Value) (wr : World) : Prop where
  nar : wr.heap[N]? = some (.cells #[.int .u8 (wd S.nar 0 : Int), .int .u8 (wd S.nar 1 : Int), .int .u8 (wd S.nar 2 : Int), .int .u8 (wd S.nar 3 : Int)] 74 (0, 0))
  iv : wr.heap[N + 1]? = some (.cells #[.int .i64 S.i.lo, .int .i64 S.i.hi, .int .u8 (wd S.i.f 0 : Int), .int .u8 (wd S.i.f 1 : Int), .int .u8 (wd S.i.f 2 : Int), .int .u8 (wd S.i.f 3 : Int), .int .i64 S.i.n] 76 (0, 0))
  own : wr.ownsRow (N + 1 + 1) 76 7 v S.out.length (ivs S.out)
  below : Below N w wr
  size : N + 1 + 1 ≤ wr.heap.size
theorem CfI.later {N : Nat} {w : World} {S : CfS} {v : Value} {wr w' : World} (h : CfI N w S v wr) (hN : N ≤ wr.heap.size) (hb : Below wr.heap.size wr w') : CfI N w S v w' :=
  ⟨(hb.block _ (Array.getElem?_eq_some_iff.1 h.nar).1).trans h.nar, (hb.block _ (Array.getElem?_eq_some_iff.1 h.iv).1).trans h.iv, own_bl h.own hb, h.below.trans (hb.mono hN), Nat.le_trans h.size hb.size⟩
/-- What the interval's block becomes. -/
theorem CfI.setI {N : Nat} {w : World} {S : CfS} {v : Value} {wr w' : World} (h : CfI N w S v wr) (i' : Iv) (ho : Off (fun b => b = N + 1) wr w') (hb : Below (N + 1) wr w') (hi : w'.heap[N + 1]? = some (.cells #[.int .i64 i'.lo, .int .i64 i'.hi, .int .u8 (wd i'.f 0 : Int), .int .u8 (wd i'.f 1 : Int), .int .u8 (wd i'.f 2 : Int), .int .u8 (wd i'.f 3 : Int), .int .i64 i'.n] 76 (0, 0))) : CfI N w ⟨i', S.nar, S.out⟩ v w' :=
  ⟨(hb.block N (by omega)).trans h.nar, hi, own_off h.own (S := fun b => b = N + 1) (fun g hg e => by have := (h.own.lt g hg).1; omega) ho, h.below.trans (hb.mono (by omega)), Nat.le_trans h.size hb.size⟩
theorem CfI.setN {N : Nat} {w : World} {S : CfS} {v : Value} {wr w' : World} (h : CfI N w S v wr) (f : Nat → Bool) (ho : Off (fun b => b = N) wr w') (hb : Below N wr w') (hi : w'.heap[N]? = some (.cells #[.int .u8 (wd f 0 : Int), .int .u8 (wd f 1 : Int), .int .u8 (wd f 2 : Int), .int .u8 (wd f 3 : Int)] 74 (0, 0))) : CfI N w ⟨S.i, f, S.out⟩ v w' :=
  ⟨hi, (ho.2 (N + 1) (by have := h.size; omega) (by omega)).trans h.iv, own_off h.own (S := fun b => b = N) (fun g hg e => by have := (h.own.lt g hg).1; omega) ho, h.below.trans (hb.mono (by omega)), Nat.le_trans h.size hb.size⟩
theorem CfI.put {N : Nat} {w : World} {S : CfS} {v v7 : Value} {V w7 : World} {i : Iv} (h : CfI N w S v V) (h7 : w7.ownsRow (N + 1 + 1) 76 7 v7 (S.out.length + 1) (ivs S.out ++ i.cells)) (hg : V.grownBy w7 v.ownBlock) (hN : N ≤ V.heap.size) : CfI N w ⟨S.i, S.nar, S.out ++ [i]⟩ v7 w7 := by
  have ne : ∀ k, k ≤ N + 1 → v.ownBlock ≠ some k := fun k hk e => by have := (h.own.lt k e).1; omega
  have hs := h.size
  refine ⟨(hg.block _ (by omega) (fun e => ne N (by omega) e.symm)).trans h.nar, (hg.block _ (by omega) (fun e => ne (N + 1) (by omega) e.symm)).trans h.iv, ?_, h.below.grown hg (by omega) (fun k hk => by have := (h.own.lt k hk).1; omega), Nat.le_trans hs hg.size⟩
  rw [List.length_append, ivs_append, ivs_one]
  exact h7
theorem src_iv {V : World} {b : Nat} {i : Iv} (h : V.heap[b]? = some (.cells #[.int .i64 i.lo, .int .i64 i.hi, .int .u8 (wd i.f 0 : Int), .int .u8 (wd i.f 1 : Int), .int .u8 (wd i.f 2 : Int), .int .u8 (wd i.f 3 : Int), .int .i64 i.n] 76 (0, 0))) : SrcAt V (.slice (some ⟨b, 0, none⟩) 1 1) 1 7 i.cells := by
  refine ⟨_, 1, rfl, rfl, ?_, (fun h => by cases h), fun ad ha j y hj => ?_⟩
  · intro y hy
    simp only [Iv.cells, List.mem_cons, List.not_mem_nil, or_false] at hy
    rcases hy with rfl | rfl | rfl | rfl | rfl | rfl | rfl <;> rfl
  · injection ha with ha
    subst ha
    rw [add_none, Nat.zero_add, cell_of h]
    simpa [Iv.cells] using hj
theorem CfI.set7 {N : Nat} {w : World} {S : CfS} {v : Value} {wr : World} (h : CfI N w S v wr) (b0 b1 b2 b3 b4 b5 b6 : Value) (i' : Iv) (e : #[b0, b1, b2, b3, b4, b5, b6] = #[.int .i64 i'.lo, .int .i64 i'.hi, .int .u8 (wd i'.f 0 : Int), .int .u8 (wd i'.f 1 : Int), .int .u8 (wd i'.f 2 : Int), .int .u8 (wd i'.f 3 : Int), .int .i64 i'.n]) {b : Nat} {o : Obj} (hb : b ≠ N + 1) (ho : wr.heap[b]? = some o) :
    CfI N w ⟨i', S.nar, S.out⟩ v (((((((wr.setCell ⟨N + 1, 0, none⟩ b0).setCell ⟨N + 1, 1, none⟩ b1).setCell ⟨N + 1, 2, none⟩ b2).setCell ⟨N + 1, 3, none⟩ b3).setCell ⟨N + 1, 4, none⟩ b4).setCell ⟨N + 1, 5, none⟩ b5).setCell ⟨N + 1, 6, none⟩ b6) ∧ (((((((wr.setCell ⟨N + 1, 0, none⟩ b0).setCell ⟨N + 1, 1, none⟩ b1).setCell ⟨N + 1, 2, none⟩ b2).setCell ⟨N + 1, 3, none⟩ b3).setCell ⟨N + 1, 4, none⟩ b4).setCell ⟨N + 1, 5, none⟩ b5).setCell ⟨N + 1, 6, none⟩ b6).heap[b]? = some o := by
  have st : ∀ (c : Nat) (u : Value) (w1 : World), Off (fun b => b = N + 1) wr w1 → Off (fun b => b = N + 1) wr (w1.setCell ⟨N + 1, c, none⟩ u) := fun c u w1 h1 => h1.trans (Off.set (S := fun b => b = N + 1) _ rfl)
  have bt : ∀ (c : Nat) (u : Value) (w1 : World), Below (N + 1) wr w1 → Below (N + 1) wr (w1.setCell ⟨N + 1, c, none⟩ u) := fun c u w1 h1 => h1.setCell (by show N + 1 ≤ N + 1; exact Nat.le_refl _) _
  have hO := st 6 b6 _ (st 5 b5 _ (st 4 b4 _ (st 3 b3 _ (st 2 b2 _ (st 1 b1 _ (st 0 b0 _ ⟨Nat.le_refl _, fun _ _ _ => rfl⟩))))))
  refine ⟨h.setI i' hO (bt 6 b6 _ (bt 5 b5 _ (bt 4 b4 _ (bt 3 b3 _ (bt 2 b2 _ (bt 1 b1 _ (bt 0 b0 _ (Below.refl _ _)))))))) ?_, (hO.2 b (Array.getElem?_eq_some_iff.1 ho).1 hb).trans ho⟩
  rw [← e]
  exact Go.Proofs.YtemnbcilmbojhaaGreatDoor.set7 h.iv _ _ _ _ _ _ _
theorem CfI.set4 {N : Nat} {w : World} {S : CfS} {v : Value} {wr : World} (h : CfI N w S v wr) (f : Nat → Bool) : CfI N w ⟨S.i, f, S.out⟩ v ((((wr.setCell ⟨N, 0, none⟩ (.int .u8 (wd f 0 : Int))).setCell ⟨N, 1, none⟩ (.int .u8 (wd f 1 : Int))).setCell ⟨N, 2, none⟩ (.int .u8 (wd f 2 : Int))).setCell ⟨N, 3, none⟩ (.int .u8 (wd f 3 : Int))) := by
  have st : ∀ (c : Nat) (u : Value) (w1 : World), Off (fun b => b = N) wr w1 → Off (fun b => b = N) wr (w1.setCell ⟨N, c, none⟩ u) := fun c u w1 h1 => h1.trans (Off.set (S := fun b => b = N) _ rfl)
  have bt : ∀ (c : Nat) (u : Value) (w1 : World), Below N wr w1 → Below N wr (w1.setCell ⟨N, c, none⟩ u) := fun c u w1 h1 => h1.setCell (by show N ≤ N; exact Nat.le_refl _) _
  refine h.setN f (st 3 _ _ (st 2 _ _ (st 1 _ _ (st 0 _ _ ⟨Nat.le_refl _, fun _ _ _ => rfl⟩)))) (bt 3 _ _ (bt 2 _ _ (bt 1 _ _ (bt 0 _ _ (Below.refl _ _))))) ?_
  have hE := heap_setCell_same _ N 3 _ 74 (.int .u8 (wd f 3 : Int)) (heap_setCell_same _ N 2 _ 74 (.int .u8 (wd f 2 : Int)) (heap_setCell_same _ N 1 _ 74 (.int .u8 (wd f 1 : Int)) (heap_setCell_same wr N 0 _ 74 (.int .u8 (wd f 0 : Int)) h.nar)))
  simpa only [List.setIfInBounds_toArray, List.set_cons_zero, List.set_cons_succ] using hE
end Go.Proofs.YtemnbcilmbojhaaGreatDoor

namespace Go.Proofs.YtemnbcilmbojhaaGreatDoor
open Go.RowKit Go.Sort Go.Lib Go.Shelf

def toG (g : Gr) : BGr := (Fin.ofNat 4000000001 (g.hi + 2000000000).toNat, g.lo, g.x, g.n)
theorem fr_to {g : Gr} (h : g.Ok) : frG (toG g) = g := by
  obtain ⟨a, b, c, d⟩ := g
  obtain ⟨_, _, k1, k2, _, _, _⟩ := h
  dsimp only at k1 k2
  unfold frG toG
  dsimp only
  have : (((Fin.ofNat 4000000001 (b + 2000000000).toNat).val : Nat) : Int) - 2000000000 = b := by
    show (((b + 2000000000).toNat % 4000000001 : Nat) : Int) - 2000000000 = b
    omega
  rw [this]
def bG (G : List Gr) : Array BGr := (G.map toG).toArray
theorem bG_size (G : List Gr) : (bG G).size = G.length := by simp [bG]
theorem bG_get (G : List Gr) (h : ∀ g ∈ G, g.Ok) (j : Nat) (hj : j < G.length) : frG (bG G)[j]! = G[j] := by
  have : j < (bG G).size := by rw [bG_size]; exact hj
  rw [getElem!_pos _ j this]
  have e : (bG G)[j] = toG G[j] := by simp [bG]
  rw [e]
  exact fr_to (h _ (List.getElem_mem hj))
theorem bG_map (G : List Gr) (h : ∀ g ∈ G, g.Ok) : (bG G).toList.map frG = G := by
  unfold bG
  rw [List.map_map]
  have : ∀ g ∈ G, (frG ∘ toG) g = id g := fun g hg => fr_to (h g hg)
  rw [List.map_congr_left this]
  simp
theorem holdsG {w : World} {g : Nat} {cur : Array Value} {G : List Gr} (hok : ∀ g ∈ G, g.Ok) (h3 : w.heap[g]? = some (.cells cur 79 (0, 0))) (h7 : cur.toList.take (G.length * 4) = grs G) : HoldsK encG 4 w g 0 (bG G) := by
  intro j hj
  rw [size_flatK, bG_size] at hj
  refine ⟨?_, frozen_of h3 _⟩
  rw [get_flatK _ _ _ _ (by rw [bG_size]; exact hj), cell_of h3, Nat.zero_add]
  have hq : j / 4 < G.length := by omega
  obtain ⟨q0, q1, q2, q3⟩ := grs_get G (j / 4) hq
  have e : ∀ k v, (grs G)[k]? = some v → k < G.length * 4 → cur[k]? = some v := fun k v hk hlt => by
    rw [← h7, List.getElem?_take, if_pos hlt] at hk
    simpa using hk
  have hen : encG (bG G)[j / 4]! = G[j / 4].cells := by unfold encG; rw [bG_get G hok _ hq]
  rw [hen]
  obtain ⟨c, hcd⟩ : ∃ c, G[j / 4] = c := ⟨_, rfl⟩
  rw [hcd] at q0 q1 q2 q3 ⊢
  clear hen hcd
  have hr : j % 4 = 0 ∨ j % 4 = 1 ∨ j % 4 = 2 ∨ j % 4 = 3 := by omega
  have hj2 : j / 4 * 4 + j % 4 = j := by omega
  rcases hr with hr | hr | hr | hr
  · rw [hr] at hj2 ⊢
    exact e j _ (by rw [Nat.add_zero] at hj2; rw [hj2] at q0; exact q0) hj
  · rw [hr] at hj2 ⊢
    exact e j _ (by rw [hj2] at q1; exact q1) hj
  · rw [hr] at hj2 ⊢
    exact e j _ (by rw [hj2] at q2; exact q2) hj
  · rw [hr] at hj2 ⊢
    exact e j _ (by rw [hj2] at q3; exact q3) hj
theorem sortedG_any {w : World} {B : Nat} {v : Value} {G : List Gr} (ho : w.ownsRow B 79 4 v G.length (grs G)) (hok : ∀ g ∈ G, g.Ok) (hl : G.length ≤ 100000) : Calls Tryz.prog 47 #[v, .func (.func 48) #[] #[]] w fun e w' => e = .returned (.tuple #[]) ∧ ∃ Gs a cap, Gs.Perm G ∧ Gs.Pairwise (fun a b => a.hi ≤ b.hi) ∧ v = .slice a Gs.length cap ∧ GrsAt w' a Gs ∧ RowKit.Below B w w' := by
  rcases ho.2 with ⟨rfl, hn⟩ | ⟨g, cap, cur, rfl, h2, h3, h4, h5, h6, h7⟩
  · refine (sortG0 none 0 _ w).mono ?_
    rintro e w' ⟨rfl, rfl⟩
    have h0 : G = [] := List.length_eq_zero_iff.1 hn
    subst h0
    exact ⟨rfl, [], none, 0, List.Perm.refl _, List.Pairwise.nil, rfl, (fun j hj => absurd hj (by simp)), RowKit.Below.refl _ _⟩
  · have hg := (Array.getElem?_eq_some_iff.1 h3).1
    have hH := holdsG hok h3 h7
    have hc := sortG_call g 0 cap (bG G) w hH hg (by rw [bG_size]; omega)
    rw [bG_size] at hc
    refine hc.mono ?_
    rintro e w' ⟨rfl, d', n, os, hp, hs, rfl⟩
    obtain ⟨hp1, _, hp3⟩ := hp
    rw [bG_size] at hp1
    have x1 : (d'.extract 0 G.length).toList = d'.toList := by rw [← hp1]; simp
    have x2 : ((bG G).extract 0 G.length).toList = (bG G).toList := by
      have := bG_size G
      rw [← this]
      simp
    rw [x1, x2] at hp3
    have hlen : (d'.toList.map frG).length = G.length := by simp [hp1]
    have hgi : ∀ j (h : j < (d'.toList.map frG).length), (d'.toList.map frG)[j] = frG d'[j]! := fun j h => by
      have hj : j < d'.size := by simpa using h
      rw [getElem!_pos _ j hj]
      simp
    refine ⟨rfl, d'.toList.map frG, some ⟨g, 0, none⟩, cap, ?_, ?_, ?_, ?_, ?_⟩
    · have := hp3.map frG
      rw [bG_map G hok] at this
      exact this
    · rw [List.pairwise_iff_getElem]
      intro i j hi hj hij
      rw [hgi, hgi]
      have := hs i j (Nat.zero_le _) hij (by rw [← hlen]; exact hj)
      rw [cmpG_lt] at this
      have := of_decide_eq_false this
      omega
    · rw [hlen]
    · have hK : HoldsK encG 4 (sortWorldK encG 4 w g 0 n d' os) g 0 d' := holdsK_grow encG 4 _ _ _ _ _ (by simpa [putRowK] using hg) (holdsK_putRowK encG 4 _ _ _ (bG G) _ (holdsK_ahead encG 4 _ _ _ _ _ hH) (by rw [hp1, bG_size]))
      intro j hj
      have hj2 : j < d'.size := by simpa using hj
      refine ⟨g, 0, rfl, Nat.lt_of_lt_of_le hg (sortG_grown w g 0 n d' os).size, ?_⟩
      have e : encG d'[j]! = (frG d'[j]!).cells := rfl
      rw [hgi]
      have c0 := (hK.cell hj2 (c := 0) (by decide)).1
      have c1 := (hK.cell hj2 (c := 1) (by decide)).1
      have c2 := (hK.cell hj2 (c := 2) (by decide)).1
      have c3 := (hK.cell hj2 (c := 3) (by decide)).1
      rw [e] at c0 c1 c2 c3
      exact ⟨c0, c1, c2, c3⟩
    · exact (RowKit.Below.refl _ _).grown (sortG_grown w g 0 n d' os) (Nat.le_of_lt (Nat.lt_of_le_of_lt h2 hg)) (fun k hk => by injection hk with hk; omega)
end Go.Proofs.YtemnbcilmbojhaaGreatDoor
