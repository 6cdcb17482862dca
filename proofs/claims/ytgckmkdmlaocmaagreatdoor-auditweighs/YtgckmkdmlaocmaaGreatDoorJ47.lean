/-
  Put together: AwDoc, AwMath.
-/
import Derived.Test.YtgckmkdmlaocmaaGreatDoorAwProg
import Derived.Test.YtgckmkdmlaocmaaGreatDoorJ43
import Derived.Test.YtgckmkdmlaocmaaGreatDoorRuA
namespace Go.Proofs.YtgckmkdmlaocmaaGreatDoor
open Go Go.RowKit

/-- The cells of a weight that is being laid. -/
def wdC (f : Nat → Int) : Array Value := #[.int .i64 (f 0), .int .i64 (f 1), .int .i64 (f 2), .int .i64 (f 3), .int .i64 (f 4), .int .i64 (f 5), .int .i64 (f 6), .int .i64 (f 7), .int .i64 (f 8), .int .i64 (f 9), .int .i64 (f 10), .int .i64 (f 11), .int .i64 (f 12), .int .i64 (f 13), .int .i64 (f 14), .int .i64 (f 15), .int .i64 (f 16), .int .i64 (f 17), .int .i64 (f 18)]
def WdAt (w : World) (b : Nat) (f : Nat → Int) : Prop := w.heap[b]? = some (.cells (wdC f) 24 (0, 0))
theorem wdC_get (f : Nat → Int) (i : Nat) (h : i < 19) : (wdC f)[i]? = some (.int .i64 (f i)) := by
  unfold wdC
  match i, h with
  | 0, _ => rfl
  | 1, _ => rfl
  | 2, _ => rfl
  | 3, _ => rfl
  | 4, _ => rfl
  | 5, _ => rfl
  | 6, _ => rfl
  | 7, _ => rfl
  | 8, _ => rfl
  | 9, _ => rfl
  | 10, _ => rfl
  | 11, _ => rfl
  | 12, _ => rfl
  | 13, _ => rfl
  | 14, _ => rfl
  | 15, _ => rfl
  | 16, _ => rfl
  | 17, _ => rfl
  | 18, _ => rfl
  | n + 19, h => omega
theorem wdC_set (f : Nat → Int) (i : Nat) (h : i < 19) (v : Int) : (wdC f).setIfInBounds i (.int .i64 v) = wdC (upd f i v) := by
  match i, h with
  | 0, _ => rfl
  | 1, _ => rfl
  | 2, _ => rfl
  | 3, _ => rfl
  | 4, _ => rfl
  | 5, _ => rfl
  | 6, _ => rfl
  | 7, _ => rfl
  | 8, _ => rfl
  | 9, _ => rfl
  | 10, _ => rfl
  | 11, _ => rfl
  | 12, _ => rfl
  | 13, _ => rfl
  | 14, _ => rfl
  | 15, _ => rfl
  | 16, _ => rfl
  | 17, _ => rfl
  | 18, _ => rfl
  | n + 19, h => omega
theorem WdAt.cell {w : World} {b : Nat} {f : Nat → Int} (h : WdAt w b f) (i : Nat) (hi : i < 19) : w.cell? ⟨b, i, none⟩ = some (.int .i64 (f i)) := (cell_of h i).trans (wdC_get f i hi)
theorem WdAt.frozen {w : World} {b : Nat} {f : Nat → Int} (h : WdAt w b f) (i : Nat) : w.frozen? ⟨b, i, none⟩ = false := frozen_of h i
theorem WdAt.lt {w : World} {b : Nat} {f : Nat → Int} (h : WdAt w b f) : b < w.heap.size := (Array.getElem?_eq_some_iff.1 h).1
theorem WdAt.set {w : World} {b : Nat} {f : Nat → Int} (h : WdAt w b f) (i : Nat) (hi : i < 19) (v : Int) : WdAt (w.setCell ⟨b, i, none⟩ (.int .i64 v)) b (upd f i v) := by
  have := set_of h i (.int .i64 v)
  rw [wdC_set f i hi] at this
  exact this
theorem WdAt.below {w w' : World} {b : Nat} {f : Nat → Int} (h : WdAt w b f) (hb : Below w.heap.size w w') : WdAt w' b f := (hb.block b h.lt).trans h
/-- What a line lays. -/
def dcP (f : Nat → Int) : Nat → Int := upd f 4 (max (f 4) (wrap64 (f 2 - f 3)))
def dcK (f : Nat → Int) (k : Nat) (i : Int) : Nat → Int := if k = 3 ∨ k = 4 ∨ k = 11 then upd f 2 (wrap64 (f 2 + 1)) else if k = 6 then upd f 3 (wrap64 (f 3 + i)) else f
def dcL (f : Nat → Int) (l : Int) : Nat → Int := upd (upd f 0 (wrap64 (f 0 + 1))) 5 (max (f 5) l)
def dc1 (f : Nat → Int) (k : Nat) (i l : Int) : Nat → Int := dcP (dcK (upd (dcL f l) (6 + k) (wrap64 (dcL f l (6 + k) + 1))) k i)
def dcS (y : Int) (L : List (List UInt8)) : Nat → Int := L.foldl (fun f x => dc1 f (gd x).k.toNat (gd x).ids.length x.length) (upd (fun _ => 0) 1 y)
theorem dcS_more (y : Int) (L : List (List UInt8)) (x : List UInt8) : dcS y (L ++ [x]) = dc1 (dcS y L) (gd x).k.toNat (gd x).ids.length x.length := by unfold dcS; rw [List.foldl_append]; rfl
theorem upd_ne {f : Nat → Int} {i j : Nat} {v : Int} (h : j ≠ i) : upd f i v j = f j := if_neg h
theorem upd_eq {f : Nat → Int} {i : Nat} {v : Int} : upd f i v i = v := if_pos rfl
/-- How it ends. -/
def DgO (L : List (List UInt8)) (y : Int) (w : World) (e : Ending) (W : World) : Prop := Below w.heap.size w W ∧ (((∀ x ∈ L, er x = 0) ∧ e = .returned (.tuple #[.agg (wdC (dcS y L)), .agg #[.int .i64 0, .int .i64 0]])) ∨
  ∃ pre x post, L = pre ++ x :: post ∧ (∀ y ∈ pre, er y = 0) ∧ er x ≠ 0 ∧ e = .returned (.tuple #[.agg zW, .agg #[.int .i64 (pre.length + 1), .int .i64 (er x)]]))

theorem res_two {P : Program} {fn : Func} {p q : Tmp} {ty tz : TypeId} (h : fn.results = #[.cell p ty, .cell q tz]) (tmps : Array Value) (w : World) (g g' : Nat) (t t' : TypeId) (cs cs' : Array Value) (fr fr' : Nat × Nat) (d d' : TypeDesc) (hp : tmps.getD p undef = .pointer (some ⟨g, 0, none⟩)) (hg : w.heap[g]? = some (.cells cs t fr)) (hu : P.underlying ty = some d) (hd : (match d with | .struct _ | .array _ _ => true | _ => false) = true) (hi : (P.info? ty).map (·.size) = some cs.size)
    (hp' : tmps.getD q undef = .pointer (some ⟨g', 0, none⟩)) (hg' : w.heap[g']? = some (.cells cs' t' fr')) (hu' : P.underlying tz = some d') (hd' : (match d' with | .struct _ | .array _ _ => true | _ => false) = true) (hi' : (P.info? tz).map (·.size) = some cs'.size) : (results fn tmps).run P w = .ok (.tuple #[.agg cs, .agg cs']) w := by
  have e1 : tmps[p]?.getD undef = .pointer (some ⟨g, 0, none⟩) := by simpa using hp
  have e2 : tmps[q]?.getD undef = .pointer (some ⟨g', 0, none⟩) := by simpa using hp'
  simp [results, h, e1, e2, asAddr, run_loadVar_row w g t ty cs fr d hg hu hd hi, run_loadVar_row w g' t' tz cs' fr' d' hg' hu' hd' hi', Result.andThen]

theorem infF : (Tryz.prog.info? 26).map (·.size) = some 2 := by kernel_rfl

set_option maxRecDepth 100000 in
set_option maxHeartbeats 8000000 in
theorem rweigh_any (s : ByteArray) (w : World) (hs : s.size ≤ 400000) : Calls Tryz.prog 4 #[.string s] w (DgO (lns s.data.toList []) s.size w) := by
  unfold DgO
  have hL := lns_len s.data.toList []
  have hC := lns_count s.data.toList []
  have hsz : s.data.toList.length = s.size := by show s.data.toList.length = s.data.size; exact Array.length_toList
  rw [hsz] at hL hC
  have HLn : Hid (∀ w', Calls Tryz.prog 6 #[.string s] w' (LnOut s w')) := fun w' => refLines_any s w' hs
  unfold LnOut at HLn
  obtain ⟨xs, hxs⟩ : ∃ xs, lns s.data.toList [] = xs := ⟨_, rfl⟩
  rw [hxs] at hL hC HLn ⊢
  have hxn : xs.length ≤ 400001 := by omega
  have HXl : Hid (∀ y ∈ xs, y.length ≤ 9000000) := fun y hy => by have := hL y hy; simp at this; omega
  clear hL hC hsz hxs
  obtain ⟨W0, hW0⟩ : ∃ W0, w.alloc (.cells #[.int .i64 0, .int .i64 0, .int .i64 0, .int .i64 0, .int .i64 0, .int .i64 0, .int .i64 0, .int .i64 0, .int .i64 0, .int .i64 0, .int .i64 0, .int .i64 0, .int .i64 0, .int .i64 0, .int .i64 0, .int .i64 0, .int .i64 0, .int .i64 0, .int .i64 0] 24) = W0 := ⟨_, rfl⟩
  have g0 : W0.heap[w.heap.size]? = some (.cells zW 24 (0, 0)) := by rw [← hW0]; exact heap_alloc_new w _
  have z0 : W0.heap.size = w.heap.size + 1 := by rw [← hW0]; exact Array.size_push _
  have b0 : Below w.heap.size w W0 := by rw [← hW0]; exact (Below.refl _ _).alloc (Nat.le_refl _) _
  obtain ⟨W1, hW1⟩ : ∃ W1, W0.alloc (.cells #[.int .i64 0, .int .i64 0] 26) = W1 := ⟨_, rfl⟩
  have g1 : W1.heap[w.heap.size + 1]? = some (.cells #[.int .i64 0, .int .i64 0] 26 (0, 0)) := by rw [← hW1, ← z0]; exact heap_alloc_new W0 _
  have z1 : W1.heap.size = w.heap.size + 2 := by
    have h : W1.heap.size = W0.heap.size + 1 := by rw [← hW1]; exact Array.size_push _
    omega
  have b1 : Below W0.heap.size W0 W1 := by rw [← hW1]; exact (Below.refl _ _).alloc (Nat.le_refl _) _
  obtain ⟨Wz, hWz⟩ : ∃ Wz, W1.alloc (.cells #[.int .i64 0, .int .i64 0, .int .i64 0, .int .i64 0, .int .i64 0, .int .i64 0, .int .i64 0, .int .i64 0, .int .i64 0, .int .i64 0, .int .i64 0, .int .i64 0, .int .i64 0, .int .i64 0, .int .i64 0, .int .i64 0, .int .i64 0, .int .i64 0, .int .i64 0] 24) = Wz := ⟨_, rfl⟩
  have gz : Wz.heap[w.heap.size + 2]? = some (.cells zW 24 (0, 0)) := by rw [← hWz, ← z1]; exact heap_alloc_new W1 _
  have zz : Wz.heap.size = w.heap.size + 3 := by
    have h : Wz.heap.size = W1.heap.size + 1 := by rw [← hWz]; exact Array.size_push _
    omega
  have bz : Below W1.heap.size W1 Wz := by rw [← hWz]; exact (Below.refl _ _).alloc (Nat.le_refl _) _
  obtain ⟨W2, hW2⟩ : ∃ W2, Wz.setRow (w.heap.size + 2) (wdC (dcS s.size [])) = W2 := ⟨_, rfl⟩
  have g2 : W2.heap[w.heap.size + 2]? = some (.cells (wdC (dcS s.size [])) 24 (0, 0)) := by rw [← hW2]; exact setRow_heap Wz _ _ _ _ _ gz
  have b2 : Below (w.heap.size + 2) Wz W2 := by rw [← hW2]; exact ⟨rfl, rfl, rfl, by simp [World.setRow], fun k hk => setRow_other Wz _ k _ (by omega)⟩
  have z2 : W2.heap.size = w.heap.size + 3 := by
    have h : W2.heap.size = Wz.heap.size := by rw [← hW2]; simp [World.setRow]
    omega
  have HB1 : Hid (Below w.heap.size w W2) := (bl_next (bl_next b0 b1) bz).trans (b2.mono (by omega))
  have HG0 : Hid (W2.heap[w.heap.size]? = some (.cells zW 24 (0, 0))) := (b2.block _ (by omega)).trans ((bz.block _ (by omega)).trans ((b1.block _ (by omega)).trans g0))
  have HG1 : Hid (W2.heap[w.heap.size + 1]? = some (.cells #[.int .i64 0, .int .i64 0] 26 (0, 0))) := (b2.block _ (by omega)).trans ((bz.block _ (by omega)).trans g1)
  have HS1 : Hid (WdAt W2 (w.heap.size + 2) (dcS s.size [])) := g2
  have HZ1 : Hid (W2.heap.size = w.heap.size + 3) := z2
  have HGz : Hid (Wz.heap[w.heap.size + 2]? = some (.cells zW 24 (0, 0))) := gz
  clear g0 b0 g1 b1 g2 z2 b2 gz bz zz
  go_enter Tryz.func4, Tryz.ntmps4
  go_wp2_with (refine wpList_store_row rfl 24 (.tmp 4) (.tmp 11) rfl (w.heap.size + 2) (wdC (dcS s.size [])) (by rfl) (by rfl) 24 zW HGz.out infW rfl (by simp [wdC, Value.oneCell']) ?_; rw [hW2])
  refine calls_at (HLn.out W2) (by with_reducible rfl) (by with_reducible rfl) ?_
  rintro e W ⟨v5, rfl, ho5, hb5⟩
  obtain ⟨a5, c5, rfl⟩ := own_slice ho5
  rw [HZ1.out] at ho5
  have HR0 : (fun i wr => Hid (Below w.heap.size w wr ∧ wr.heap[w.heap.size]? = some (.cells zW 24 (0, 0)) ∧ wr.heap[w.heap.size + 1]? = some (.cells #[.int .i64 0, .int .i64 0] 26 (0, 0)) ∧ WdAt wr (w.heap.size + 2) (dcS s.size (xs.take i)) ∧ wr.ownsRow (w.heap.size + 3) 9 1 (.slice a5 xs.length c5) xs.length (xs.map fun l => .string (txtOf l)) ∧ w.heap.size + 3 ≤ wr.heap.size)) 0 W := ⟨bl_next HB1.out hb5, (hb5.block _ (by have := HZ1.out; omega)).trans HG0.out, (hb5.block _ (by have := HZ1.out; omega)).trans HG1.out, HS1.out.below hb5, ho5, by have := HZ1.out; have := hb5.size; omega⟩
  have HR00 : Hid ((fun i wr => Hid (Below w.heap.size w wr ∧ wr.heap[w.heap.size]? = some (.cells zW 24 (0, 0)) ∧ wr.heap[w.heap.size + 1]? = some (.cells #[.int .i64 0, .int .i64 0] 26 (0, 0)) ∧ WdAt wr (w.heap.size + 2) (dcS s.size (xs.take i)) ∧ wr.ownsRow (w.heap.size + 3) 9 1 (.slice a5 xs.length c5) xs.length (xs.map fun l => .string (txtOf l)) ∧ w.heap.size + 3 ≤ wr.heap.size)) 0 W) := HR0
  clear HR0 ho5 hb5 HG0 HG1 HS1 HB1 HLn hW0 hW1 hW2 hWz HGz HZ1 z0 z1
  go_wp2_with fail
  go_loopw [6] (fun iv wr => ∃ i : Nat, iv = .int .i64 (i : Int) ∧ i ≤ xs.length ∧ Hid (∀ y ∈ xs.take i, er y = 0) ∧ Hid (Below w.heap.size w wr ∧ wr.heap[w.heap.size]? = some (.cells zW 24 (0, 0)) ∧ wr.heap[w.heap.size + 1]? = some (.cells #[.int .i64 0, .int .i64 0] 26 (0, 0)) ∧ WdAt wr (w.heap.size + 2) (dcS s.size (xs.take i)) ∧ wr.ownsRow (w.heap.size + 3) 9 1 (.slice a5 xs.length c5) xs.length (xs.map fun l => .string (txtOf l)) ∧ w.heap.size + 3 ≤ wr.heap.size)) (fun iv _ => xs.length - (intOf iv).toNat)
  case atStart => exact ⟨0, rfl, Nat.zero_le _, fun y hy => absurd hy (by simp), HR00.out⟩
  case round =>
    obtain ⟨i, rfl, hi, HE, HR⟩ := hrel
    clear HR00
    by_cases hin : i < xs.length
    · have hiI : (i : Int) < (xs.length : Int) := by omega
      obtain ⟨lg, loff, rfl, lcell⟩ := (rd_of_own HR.out.2.2.2.2.1 (own_few HR.out.2.2.2.2.1)).at i hin
      have x0 : wr.cell? ⟨lg, loff + i, none⟩ = some (.string (txtOf xs[i])) := lcell i _ (by simp [hin])
      have hsp : xs = xs.take i ++ xs[i] :: xs.drop (i + 1) := by rw [← List.drop_eq_getElem_cons hin, List.take_append_drop]
      have htn : xs.take (i + 1) = xs.take i ++ [xs[i]] := List.take_succ_eq_append_getElem hin
      have hxl := HXl.out xs[i] (List.getElem_mem hin)
      obtain ⟨x, hx⟩ : ∃ x, xs[i] = x := ⟨_, rfl⟩
      rw [hx] at x0 hsp htn hxl
      have HSp : Hid (xs = xs.take i ++ x :: xs.drop (i + 1)) := hsp
      have HTn : Hid (xs.take (i + 1) = xs.take i ++ [x]) := htn
      have HPl : Hid ((xs.take i).length = i) := by show _ = _; rw [List.length_take]; omega
      have hpc := rparse_any x wr hxl
      unfold RpOut at hpc
      rw [par_is] at hpc
      obtain ⟨G, hG⟩ : ∃ G, gd x = G := ⟨_, rfl⟩
      obtain ⟨E, hE⟩ : ∃ E, er x = E := ⟨_, rfl⟩
      have hpx : parseP x = (G, E) := by rw [← hG, ← hE]; rfl
      rw [hpx] at hpc
      unfold RpO at hpc
      have HPc : Hid (Calls Tryz.prog 7 #[.string (txtOf x)] wr fun e w' => ∃ vo vp vl vi, e = .returned (.tuple #[.agg (slC G vo vp vl vi), .int .i64 E]) ∧ SlOwn wr.heap.size w' G vo vp vl vi ∧ Below wr.heap.size wr w') := hpc
      have HGx : Hid (gd x = G) := hG
      have HEx : Hid (er x = E) := hE
      obtain ⟨K, hKI, hK13⟩ : ∃ K : Nat, G.k = (K : Int) ∧ K < 13 := by
        have := gd_kinds x
        rw [hG] at this
        exact ⟨G.k.toNat, by omega, by omega⟩
      have HKI : Hid (G.k = (K : Int) ∧ K < 13) := ⟨hKI, hK13⟩
      have HXc : Hid (wr.cell? ⟨lg, loff + i, none⟩ = some (.string (txtOf x)) ∧ ∀ w', Ofw (fun k => k = w.heap.size + 2) wr w' → w'.cell? ⟨lg, loff + i, none⟩ = some (.string (txtOf x))) := ⟨x0, fun w' ho => by
        have hr := own_keep HR.out.2.2.2.2.1 (w' := w') fun g hg => by
          have := HR.out.2.2.2.2.1.lt g hg
          exact ho.block g (by omega) (by omega)
        obtain ⟨lg', loff', e', lcell'⟩ := (rd_of_own hr (own_few hr)).at i hin
        injection e' with e1
        injection e1 with e2 e3
        subst e2 e3
        rw [← hx]
        exact lcell' i _ (by simp [hin])⟩
      clear hpc hpx hG hE hsp htn hxl hx lcell hKI hK13
      go_wp2_with fail
      refine calls_at HPc.out (by with_reducible rfl) (by with_reducible rfl) ?_
      rintro e w1 ⟨vo, vp, vl, vi, rfl, ho1, hb1⟩
      obtain ⟨oa, oc, rfl⟩ := own_slice ho1.o
      obtain ⟨pa, pc, rfl⟩ := own_slice ho1.p
      obtain ⟨la, lc, rfl⟩ := own_slice ho1.l
      obtain ⟨ia, ic, rfl⟩ := own_slice ho1.i
      have H1 : Hid (Below wr.heap.size wr w1) := hb1
      clear ho1 hb1 HPc x0
      simp only [slC]
      rw [HKI.out.1]
      obtain ⟨w2, hw2⟩ : ∃ w2, w1.alloc (.cells #[.int .i64 (K : Int), .string (txtOf G.n), .slice oa G.ops.length oc, .slice pa G.pcs.length pc, .string (txtOf G.deg), .slice la G.lits.length lc, .slice ia G.ids.length ic, .int .i64 G.ends, .string (txtOf G.low), .string (txtOf G.high)] 47) = w2 := ⟨_, rfl⟩
      have g2 : w2.heap[w1.heap.size]? = some (.cells #[.int .i64 (K : Int), .string (txtOf G.n), .slice oa G.ops.length oc, .slice pa G.pcs.length pc, .string (txtOf G.deg), .slice la G.lits.length lc, .slice ia G.ids.length ic, .int .i64 G.ends, .string (txtOf G.low), .string (txtOf G.high)] 47 (0, 0)) := by rw [← hw2]; exact heap_alloc_new w1 _
      have hb2 : Below w1.heap.size w1 w2 := by rw [← hw2]; exact (Below.refl _ _).alloc (Nat.le_refl _) _
      have HB2 : Hid (Below wr.heap.size wr w2) := bl_next H1.out hb2
      have HG2 : Hid (w2.heap[w1.heap.size]? = some (.cells #[.int .i64 (K : Int), .string (txtOf G.n), .slice oa G.ops.length oc, .slice pa G.pcs.length pc, .string (txtOf G.deg), .slice la G.lits.length lc, .slice ia G.ids.length ic, .int .i64 G.ends, .string (txtOf G.low), .string (txtOf G.high)] 47 (0, 0))) := g2
      have HD2 : Hid (WdAt w2 (w.heap.size + 2) (dcS s.size (xs.take i))) := HR.out.2.2.2.1.below HB2.out
      have HN2 : Hid (w1.heap.size ≠ w.heap.size + 2) := by have := HR.out.2.2.2.2.2; have := H1.out.size; show _ ≠ _; omega
      clear g2 hb2
      by_cases hE0 : E = 0
      · as_aux_lemma =>
          have hEb : (E != 0) = false := by simpa using hE0
          have HE0 : Hid (E = 0) := hE0
          obtain ⟨f, hf⟩ : ∃ f, dcS s.size (xs.take i) = f := ⟨_, rfl⟩
          have HFf : Hid (dcS s.size (xs.take i) = f) := hf
          have HDf : Hid (WdAt w2 (w.heap.size + 2) f) := by rw [← hf]; exact HD2.out
          have d0 := HDf.out.cell 0 (by decide)
          have z0 := HDf.out.frozen 0
          clear hE0 hf HD2
          go_wp2_with fail
          obtain ⟨w3, hw3⟩ : ∃ w3, w2.setCell ⟨w.heap.size + 2, 0, none⟩ (.int .i64 (wrap64 (f 0 + 1))) = w3 := ⟨_, rfl⟩
          try rw [hw3]
          have HD3 : Hid (WdAt w3 (w.heap.size + 2) (upd f 0 (wrap64 (f 0 + 1)))) := by rw [← hw3]; exact HDf.out.set 0 (by decide) _
          have HO3 : Hid (Ofw (fun k => k = w.heap.size + 2) w2 w3) := by rw [← hw3]; exact Ofw.set _ rfl
          have q5 : w3.cell? ⟨w.heap.size + 2, 5, none⟩ = some (.int .i64 (f 5)) := HD3.out.cell 5 (by decide)
          have z5 := HD3.out.frozen 5
          have x3 := HXc.out.2 w3 ((Ofw.of_below HB2.out).trans HO3.out)
          clear d0 z0 hw2 hw3
          go_region
          obtain ⟨w4, hw4⟩ : ∃ w4, (w3.setCell ⟨w.heap.size + 2, 5, none⟩ (.int .i64 (max (f 5) ((txtOf x).size : Int)))).drew = w4 := ⟨_, rfl⟩
          rw [hw4]
          obtain ⟨g, hg⟩ : ∃ g, dcL f (txtOf x).size = g := ⟨_, rfl⟩
          have HGg : Hid (dcL f (txtOf x).size = g) := hg
          have HD4 : Hid (WdAt w4 (w.heap.size + 2) g) := by rw [← hg, ← hw4]; exact HD3.out.set 5 (by decide) _
          have HO4 : Hid (Ofw (fun k => k = w.heap.size + 2) w2 w4) := by rw [← hw4]; exact (HO3.out.trans (Ofw.set _ rfl)).trans (Ofw.of_below (Below.refl _ _).drew)
          have HG4 : Hid (w4.heap[w1.heap.size]? = some (.cells #[.int .i64 (K : Int), .string (txtOf G.n), .slice oa G.ops.length oc, .slice pa G.pcs.length pc, .string (txtOf G.deg), .slice la G.lits.length lc, .slice ia G.ids.length ic, .int .i64 G.ends, .string (txtOf G.low), .string (txtOf G.high)] 47 (0, 0))) := (HO4.out.block _ (Array.getElem?_eq_some_iff.1 HG2.out).1 HN2.out).trans HG2.out
          have t0 : w4.cell? ⟨w1.heap.size, 0, none⟩ = some (.int .i64 (K : Int)) := cell_of HG4.out 0
          have hk0 : (0 : Int) ≤ (K : Int) := by omega
          have hk1 : (K : Int) < 13 := by have := HKI.out.2; omega
          have ck : w4.cell? ⟨w.heap.size + 2, 6 + K, none⟩ = some (.int .i64 (g (6 + K))) := HD4.out.cell (6 + K) (by have := HKI.out.2; omega)
          have zk : w4.frozen? ⟨w.heap.size + 2, 6 + K, none⟩ = false := HD4.out.frozen _
          clear hw4 hg q5 z5 x3 HD3 HO3
          go_wp2_with fail
          go_region
          obtain ⟨w5, hw5⟩ : ∃ w5, (w4.setCell ⟨w.heap.size + 2, 6 + K, none⟩ (.int .i64 (wrap64 (g (6 + K) + 1)))).drew = w5 := ⟨_, rfl⟩
          rw [hw5]
          obtain ⟨h, hh⟩ : ∃ h, upd g (6 + K) (wrap64 (g (6 + K) + 1)) = h := ⟨_, rfl⟩
          have HHh : Hid (upd g (6 + K) (wrap64 (g (6 + K) + 1)) = h) := hh
          have HD5 : Hid (WdAt w5 (w.heap.size + 2) h) := by rw [← hh, ← hw5]; exact HD4.out.set _ (by have := HKI.out.2; omega) _
          have HO5 : Hid (Ofw (fun k => k = w.heap.size + 2) w2 w5) := by rw [← hw5]; exact (HO4.out.trans (Ofw.set _ rfl)).trans (Ofw.of_below (Below.refl _ _).drew)
          have HG5 : Hid (w5.heap[w1.heap.size]? = some (.cells #[.int .i64 (K : Int), .string (txtOf G.n), .slice oa G.ops.length oc, .slice pa G.pcs.length pc, .string (txtOf G.deg), .slice la G.lits.length lc, .slice ia G.ids.length ic, .int .i64 G.ends, .string (txtOf G.low), .string (txtOf G.high)] 47 (0, 0))) := (HO5.out.block _ (Array.getElem?_eq_some_iff.1 HG2.out).1 HN2.out).trans HG2.out
          have HFin : Hid (∀ w6, Ofw (fun k => k = w.heap.size + 2) w5 w6 → WdAt w6 (w.heap.size + 2) (dcP (dcK h K G.ids.length)) → Below w.heap.size w w6 ∧ w6.heap[w.heap.size]? = some (.cells zW 24 (0, 0)) ∧ w6.heap[w.heap.size + 1]? = some (.cells #[.int .i64 0, .int .i64 0] 26 (0, 0)) ∧ WdAt w6 (w.heap.size + 2) (dcS s.size (xs.take (i + 1))) ∧ w6.ownsRow (w.heap.size + 3) 9 1 (.slice (some ⟨lg, loff, none⟩) xs.length c5) xs.length (xs.map fun l => .string (txtOf l)) ∧ w.heap.size + 3 ≤ w6.heap.size) := fun w6 ho hd => by
            have ho6 := HO5.out.trans ho
            have hsz : wr.heap.size ≤ w2.heap.size := HB2.out.size
            have hwr := HR.out.2.2.2.2.2
            refine ⟨(bl_next HR.out.1 HB2.out).trans (ho6.below (fun k e => by omega) (bl_next HR.out.1 HB2.out).size), ?_, ?_, ?_, ?_, Nat.le_trans hwr (Nat.le_trans hsz ho6.size)⟩
            · exact (ho6.block _ (by omega) (by omega)).trans ((HB2.out.block _ (by omega)).trans HR.out.2.1)
            · exact (ho6.block _ (by omega) (by omega)).trans ((HB2.out.block _ (by omega)).trans HR.out.2.2.1)
            · rw [HTn.out, dcS_more, HGx.out, HKI.out.1, Int.toNat_natCast, HFf.out]
              unfold dc1
              rw [← txt_size, HGg.out, HHh.out]
              exact hd
            · refine own_keep HR.out.2.2.2.2.1 fun g hg => ?_
              have := HR.out.2.2.2.2.1.lt g hg
              exact (ho6.block g (by omega) (by omega)).trans (HB2.out.block g (by omega))
          have HE4 : Hid (∀ y ∈ xs.take (i + 1), er y = 0) := by
            intro y hy
            rw [HTn.out] at hy
            rcases List.mem_append.1 hy with hy | hy
            · exact HE.out y hy
            · have : y = x := by simpa using hy
              rw [this, HEx.out, HE0.out]
          clear t0 ck zk hw5 hh HD4 HO4 HG4
          have t0 : w5.cell? ⟨w1.heap.size, 0, none⟩ = some (.int .i64 (K : Int)) := cell_of HG5.out 0
          have t6 : w5.cell? ⟨w1.heap.size, 6, none⟩ = some (.slice ia G.ids.length ic) := cell_of HG5.out 6
          have r2 : w5.cell? ⟨w.heap.size + 2, 2, none⟩ = some (.int .i64 (h 2)) := HD5.out.cell 2 (by decide)
          have r3 : w5.cell? ⟨w.heap.size + 2, 3, none⟩ = some (.int .i64 (h 3)) := HD5.out.cell 3 (by decide)
          have r4 : w5.cell? ⟨w.heap.size + 2, 4, none⟩ = some (.int .i64 (h 4)) := HD5.out.cell 4 (by decide)
          have s2 := HD5.out.frozen 2
          have s3 := HD5.out.frozen 3
          have s4 := HD5.out.frozen 4
          have hcs : K = 3 ∨ K = 4 ∨ K = 11 ∨ K = 6 ∨ (K ≠ 3 ∧ K ≠ 4 ∧ K ≠ 11 ∧ K ≠ 6) := by omega
          rcases hcs with hcs | hcs | hcs | hcs | hcs
          · as_aux_lemma =>
              have ka : ((K : Int) == 3) = true := by simp; omega
              have kb : ((K : Int) == 4) = false := by simp; omega
              have kc : ((K : Int) == 11) = false := by simp; omega
              have kd : ((K : Int) == 6) = false := by simp; omega
              go_wp2_with fail
              obtain ⟨w6, hw6⟩ : ∃ w6, (w5.setCell ⟨w.heap.size + 2, 2, none⟩ (.int .i64 (wrap64 (h 2 + 1)))).setCell ⟨w.heap.size + 2, 4, none⟩ (.int .i64 (max (h 4) (wrap64 (wrap64 (h 2 + 1) - h 3)))) = w6 := ⟨_, rfl⟩
              try rw [hw6]
              have HR6 : Hid (Below w.heap.size w w6 ∧ w6.heap[w.heap.size]? = some (.cells zW 24 (0, 0)) ∧ w6.heap[w.heap.size + 1]? = some (.cells #[.int .i64 0, .int .i64 0] 26 (0, 0)) ∧ WdAt w6 (w.heap.size + 2) (dcS s.size (xs.take (i + 1))) ∧ w6.ownsRow (w.heap.size + 3) 9 1 (.slice (some ⟨lg, loff, none⟩) xs.length c5) xs.length (xs.map fun l => .string (txtOf l)) ∧ w.heap.size + 3 ≤ w6.heap.size) := by
                refine HFin.out w6 (by rw [← hw6]; exact (Ofw.set (S := fun k => k = w.heap.size + 2) _ rfl).trans (Ofw.set (S := fun k => k = w.heap.size + 2) _ rfl)) ?_
                have e : dcP (dcK h K G.ids.length) = upd (upd h 2 (wrap64 (h 2 + 1))) 4 (max (h 4) (wrap64 (wrap64 (h 2 + 1) - h 3))) := by unfold dcK; rw [if_pos (by omega)]; rfl
                rw [e, ← hw6]
                exact (HD5.out.set 2 (by decide) _).set 4 (by decide) _
              clear hw6
              go_wp2_with fail
              go_roundw
              case rel => exact ⟨i + 1, by go_num, hin, HE4.out, HR6.out⟩
              case measure => simp [intOf]; omega
          · as_aux_lemma =>
              have ka : ((K : Int) == 3) = false := by simp; omega
              have kb : ((K : Int) == 4) = true := by simp; omega
              have kc : ((K : Int) == 11) = false := by simp; omega
              have kd : ((K : Int) == 6) = false := by simp; omega
              go_wp2_with fail
              obtain ⟨w6, hw6⟩ : ∃ w6, (w5.setCell ⟨w.heap.size + 2, 2, none⟩ (.int .i64 (wrap64 (h 2 + 1)))).setCell ⟨w.heap.size + 2, 4, none⟩ (.int .i64 (max (h 4) (wrap64 (wrap64 (h 2 + 1) - h 3)))) = w6 := ⟨_, rfl⟩
              try rw [hw6]
              have HR6 : Hid (Below w.heap.size w w6 ∧ w6.heap[w.heap.size]? = some (.cells zW 24 (0, 0)) ∧ w6.heap[w.heap.size + 1]? = some (.cells #[.int .i64 0, .int .i64 0] 26 (0, 0)) ∧ WdAt w6 (w.heap.size + 2) (dcS s.size (xs.take (i + 1))) ∧ w6.ownsRow (w.heap.size + 3) 9 1 (.slice (some ⟨lg, loff, none⟩) xs.length c5) xs.length (xs.map fun l => .string (txtOf l)) ∧ w.heap.size + 3 ≤ w6.heap.size) := by
                refine HFin.out w6 (by rw [← hw6]; exact (Ofw.set (S := fun k => k = w.heap.size + 2) _ rfl).trans (Ofw.set (S := fun k => k = w.heap.size + 2) _ rfl)) ?_
                have e : dcP (dcK h K G.ids.length) = upd (upd h 2 (wrap64 (h 2 + 1))) 4 (max (h 4) (wrap64 (wrap64 (h 2 + 1) - h 3))) := by unfold dcK; rw [if_pos (by omega)]; rfl
                rw [e, ← hw6]
                exact (HD5.out.set 2 (by decide) _).set 4 (by decide) _
              clear hw6
              go_wp2_with fail
              go_roundw
              case rel => exact ⟨i + 1, by go_num, hin, HE4.out, HR6.out⟩
              case measure => simp [intOf]; omega
          · as_aux_lemma =>
              have ka : ((K : Int) == 3) = false := by simp; omega
              have kb : ((K : Int) == 4) = false := by simp; omega
              have kc : ((K : Int) == 11) = true := by simp; omega
              have kd : ((K : Int) == 6) = false := by simp; omega
              go_wp2_with fail
              obtain ⟨w6, hw6⟩ : ∃ w6, (w5.setCell ⟨w.heap.size + 2, 2, none⟩ (.int .i64 (wrap64 (h 2 + 1)))).setCell ⟨w.heap.size + 2, 4, none⟩ (.int .i64 (max (h 4) (wrap64 (wrap64 (h 2 + 1) - h 3)))) = w6 := ⟨_, rfl⟩
              try rw [hw6]
              have HR6 : Hid (Below w.heap.size w w6 ∧ w6.heap[w.heap.size]? = some (.cells zW 24 (0, 0)) ∧ w6.heap[w.heap.size + 1]? = some (.cells #[.int .i64 0, .int .i64 0] 26 (0, 0)) ∧ WdAt w6 (w.heap.size + 2) (dcS s.size (xs.take (i + 1))) ∧ w6.ownsRow (w.heap.size + 3) 9 1 (.slice (some ⟨lg, loff, none⟩) xs.length c5) xs.length (xs.map fun l => .string (txtOf l)) ∧ w.heap.size + 3 ≤ w6.heap.size) := by
                refine HFin.out w6 (by rw [← hw6]; exact (Ofw.set (S := fun k => k = w.heap.size + 2) _ rfl).trans (Ofw.set (S := fun k => k = w.heap.size + 2) _ rfl)) ?_
                have e : dcP (dcK h K G.ids.length) = upd (upd h 2 (wrap64 (h 2 + 1))) 4 (max (h 4) (wrap64 (wrap64 (h 2 + 1) - h 3))) := by unfold dcK; rw [if_pos (by omega)]; rfl
                rw [e, ← hw6]
                exact (HD5.out.set 2 (by decide) _).set 4 (by decide) _
              clear hw6
              go_wp2_with fail
              go_roundw
              case rel => exact ⟨i + 1, by go_num, hin, HE4.out, HR6.out⟩
              case measure => simp [intOf]; omega
          · as_aux_lemma =>
              have ka : ((K : Int) == 3) = false := by simp; omega
              have kb : ((K : Int) == 4) = false := by simp; omega
              have kc : ((K : Int) == 11) = false := by simp; omega
              have kd : ((K : Int) == 6) = true := by simp; omega
              go_wp2_with fail
              obtain ⟨w6, hw6⟩ : ∃ w6, (w5.setCell ⟨w.heap.size + 2, 3, none⟩ (.int .i64 (wrap64 (h 3 + (G.ids.length : Int))))).setCell ⟨w.heap.size + 2, 4, none⟩ (.int .i64 (max (h 4) (wrap64 (h 2 - wrap64 (h 3 + (G.ids.length : Int)))))) = w6 := ⟨_, rfl⟩
              try rw [hw6]
              have HR6 : Hid (Below w.heap.size w w6 ∧ w6.heap[w.heap.size]? = some (.cells zW 24 (0, 0)) ∧ w6.heap[w.heap.size + 1]? = some (.cells #[.int .i64 0, .int .i64 0] 26 (0, 0)) ∧ WdAt w6 (w.heap.size + 2) (dcS s.size (xs.take (i + 1))) ∧ w6.ownsRow (w.heap.size + 3) 9 1 (.slice (some ⟨lg, loff, none⟩) xs.length c5) xs.length (xs.map fun l => .string (txtOf l)) ∧ w.heap.size + 3 ≤ w6.heap.size) := by
                refine HFin.out w6 (by rw [← hw6]; exact (Ofw.set (S := fun k => k = w.heap.size + 2) _ rfl).trans (Ofw.set (S := fun k => k = w.heap.size + 2) _ rfl)) ?_
                have e : dcP (dcK h K G.ids.length) = upd (upd h 3 (wrap64 (h 3 + (G.ids.length : Int)))) 4 (max (h 4) (wrap64 (h 2 - wrap64 (h 3 + (G.ids.length : Int))))) := by unfold dcK; rw [if_neg (by omega), if_pos (by omega)]; rfl
                rw [e, ← hw6]
                exact (HD5.out.set 3 (by decide) _).set 4 (by decide) _
              clear hw6
              go_wp2_with fail
              go_roundw
              case rel => exact ⟨i + 1, by go_num, hin, HE4.out, HR6.out⟩
              case measure => simp [intOf]; omega
          · as_aux_lemma =>
              have ka : ((K : Int) == 3) = false := by simp; omega
              have kb : ((K : Int) == 4) = false := by simp; omega
              have kc : ((K : Int) == 11) = false := by simp; omega
              have kd : ((K : Int) == 6) = false := by simp; omega
              go_wp2_with fail
              obtain ⟨w6, hw6⟩ : ∃ w6, w5.setCell ⟨w.heap.size + 2, 4, none⟩ (.int .i64 (max (h 4) (wrap64 (h 2 - h 3)))) = w6 := ⟨_, rfl⟩
              try rw [hw6]
              have HR6 : Hid (Below w.heap.size w w6 ∧ w6.heap[w.heap.size]? = some (.cells zW 24 (0, 0)) ∧ w6.heap[w.heap.size + 1]? = some (.cells #[.int .i64 0, .int .i64 0] 26 (0, 0)) ∧ WdAt w6 (w.heap.size + 2) (dcS s.size (xs.take (i + 1))) ∧ w6.ownsRow (w.heap.size + 3) 9 1 (.slice (some ⟨lg, loff, none⟩) xs.length c5) xs.length (xs.map fun l => .string (txtOf l)) ∧ w.heap.size + 3 ≤ w6.heap.size) := by
                refine HFin.out w6 (by rw [← hw6]; exact Ofw.set (S := fun k => k = w.heap.size + 2) _ rfl) ?_
                have e : dcP (dcK h K G.ids.length) = upd h 4 (max (h 4) (wrap64 (h 2 - h 3))) := by unfold dcK; rw [if_neg (by omega), if_neg (by omega)]; rfl
                rw [e, ← hw6]
                exact HD5.out.set 4 (by decide) _
              clear hw6
              go_wp2_with fail
              go_roundw
              case rel => exact ⟨i + 1, by go_num, hin, HE4.out, HR6.out⟩
              case measure => simp [intOf]; omega
      · as_aux_lemma =>
          have hEb : (E != 0) = true := by simpa using hE0
          have HE0 : Hid (E ≠ 0) := hE0
          have hwr : wrap64 ((i : Int) + 1) = (i : Int) + 1 := by unfold wrap64; omega
          have HZ0 : Hid (w2.heap[w.heap.size]? = some (.cells zW 24 (0, 0))) := (HB2.out.block _ (by have := HR.out.2.2.2.2.2; omega)).trans HR.out.2.1
          have HZ1 : Hid ((w2.setRow w.heap.size zW).heap[w.heap.size + 1]? = some (.cells #[.int .i64 0, .int .i64 0] 26 (0, 0))) := (setRow_other w2 _ _ _ (by omega)).trans ((HB2.out.block _ (by have := HR.out.2.2.2.2.2; omega)).trans HR.out.2.2.1)
          clear hE0
          go_wp2_with (first | (refine wpList_build_wt rfl 24 #[] rfl zW (by kernel_rfl) ?_) | (refine wpList_store_row rfl 24 (.tmp 2) (.tmp 30) rfl w.heap.size zW (by rfl) (by rfl) 24 zW HZ0.out infW rfl (by simp [zW, Value.oneCell']) ?_) | (refine wpList_store_row rfl 26 (.tmp 3) (.tmp 34) rfl (w.heap.size + 1) #[.int .i64 ((i : Int) + 1), .int .i64 E] (by rfl) (by rfl) 26 #[.int .i64 0, .int .i64 0] HZ1.out infF rfl (by simp [Value.oneCell']) ?_))
          refine bodyPost_ret (res_two rfl _ _ w.heap.size (w.heap.size + 1) 24 26 zW #[.int .i64 ((i : Int) + 1), .int .i64 E] (0, 0) (0, 0) _ _ rfl ((setRow_other _ _ _ _ (by omega)).trans (setRow_heap w2 w.heap.size _ zW _ _ HZ0.out)) Tryz.underlying24 rfl infW rfl (setRow_heap _ _ _ _ _ _ HZ1.out) Tryz.underlying26 rfl infF) rfl ⟨?_, .inr ⟨xs.take i, x, xs.drop (i + 1), HSp.out, HE.out, by rw [HEx.out]; exact HE0.out, ?_⟩⟩
          · refine (bl_next HR.out.1 HB2.out).trans ⟨rfl, rfl, rfl, by simp [World.setRow], fun k hk => ?_⟩
            exact (setRow_other _ _ k _ (by omega)).trans (setRow_other w2 _ k _ (by omega))
          · rw [HPl.out, HEx.out]
    · as_aux_lemma =>
        have hiI : ¬ (i : Int) < (xs.length : Int) := by omega
        obtain rfl : i = xs.length := by omega
        obtain ⟨f, hf⟩ : ∃ f, dcS s.size xs = f := ⟨_, rfl⟩
        have HFf : Hid (dcS s.size xs = f) := hf
        have HD : Hid (WdAt wr (w.heap.size + 2) f) := by
          have h := HR.out.2.2.2.1
          rw [List.take_length, hf] at h
          exact h
        have HZ0 : Hid (wr.heap[w.heap.size]? = some (.cells zW 24 (0, 0))) := HR.out.2.1
        have HZ1 : Hid ((wr.setRow w.heap.size (wdC f)).heap[w.heap.size + 1]? = some (.cells #[.int .i64 0, .int .i64 0] 26 (0, 0))) := (setRow_other wr _ _ _ (by omega)).trans HR.out.2.2.1
        clear hf
        go_wp2_with (first | (refine wpList_load_row rfl 24 (.tmp 4) rfl (w.heap.size + 2) (by rfl) 24 (wdC f) (0, 0) _ HD.out Tryz.underlying24 rfl infW ?_) | (refine wpList_store_row rfl 24 (.tmp 2) (.tmp 102) rfl w.heap.size (wdC f) (by rfl) (by rfl) 24 zW HZ0.out infW rfl (by simp [wdC, Value.oneCell']) ?_) | (refine wpList_store_row rfl 26 (.tmp 3) (.tmp 103) rfl (w.heap.size + 1) #[.int .i64 0, .int .i64 0] (by rfl) (by rfl) 26 #[.int .i64 0, .int .i64 0] HZ1.out infF rfl (by simp [Value.oneCell']) ?_))
        refine bodyPost_ret (res_two rfl _ _ w.heap.size (w.heap.size + 1) 24 26 (wdC f) #[.int .i64 0, .int .i64 0] (0, 0) (0, 0) _ _ rfl ((setRow_other _ _ _ _ (by omega)).trans (setRow_heap wr w.heap.size _ (wdC f) _ _ HZ0.out)) Tryz.underlying24 rfl infW rfl (setRow_heap _ _ _ _ _ _ HZ1.out) Tryz.underlying26 rfl infF) rfl ⟨?_, .inl ⟨?_, ?_⟩⟩
        · refine HR.out.1.trans ⟨rfl, rfl, rfl, by simp [World.setRow], fun k hk => ?_⟩
          exact (setRow_other _ _ k _ (by omega)).trans (setRow_other wr _ k _ (by omega))
        · have h := HE.out
          rw [List.take_length] at h
          exact h
        · rw [HFf.out]

end Go.Proofs.YtgckmkdmlaocmaaGreatDoor

namespace Go.Proofs.YtgckmkdmlaocmaaGreatDoor
open Go Go.RowKit

def s13 (c : Nat → Int) : Int := c 0 + c 1 + c 2 + c 3 + c 4 + c 5 + c 6 + c 7 + c 8 + c 9 + c 10 + c 11 + c 12
/-- Both go alike. -/
structure Rl (y : Int) (n : Nat) (f c : Nat → Int) : Prop where
  z0 : f 0 = n
  z1 : f 1 = y
  z2 : f 2 = c 3 + c 4 + c 11
  z3 : f 3 = c 13
  z4 : f 4 = c 14
  z5 : f 5 = c 15
  kd : ∀ j, j < 13 → f (6 + j) = c j
  nn : ∀ j, j < 13 → 0 ≤ c j
  sm : s13 c = n
theorem Rl.most {y : Int} {n : Nat} {f c : Nat → Int} (h : Rl y n f c) (k : Nat) (hk : k < 13) : c k ≤ n := by
  have h1 := h.sm
  unfold s13 at h1
  have n0 := h.nn 0 (by decide)
  have n1 := h.nn 1 (by decide)
  have n2 := h.nn 2 (by decide)
  have n3 := h.nn 3 (by decide)
  have n4 := h.nn 4 (by decide)
  have n5 := h.nn 5 (by decide)
  have n6 := h.nn 6 (by decide)
  have n7 := h.nn 7 (by decide)
  have n8 := h.nn 8 (by decide)
  have n9 := h.nn 9 (by decide)
  have n10 := h.nn 10 (by decide)
  have n11 := h.nn 11 (by decide)
  have n12 := h.nn 12 (by decide)
  match k, hk with
  | 0, _ => omega
  | 1, _ => omega
  | 2, _ => omega
  | 3, _ => omega
  | 4, _ => omega
  | 5, _ => omega
  | 6, _ => omega
  | 7, _ => omega
  | 8, _ => omega
  | 9, _ => omega
  | 10, _ => omega
  | 11, _ => omega
  | 12, _ => omega
  | n + 13, h => omega
theorem wrap_lo {n : Int} (h0 : -9000000000000000000 ≤ n) (h1 : n ≤ 9000000000000000000) : wrap64 n = n := by unfold wrap64; omega
/-- A row that is changed at one place. -/
theorem sum_upd (c : Nat → Int) (k : Nat) (hk : k < 13) : s13 (upd c k (c k + 1)) = s13 c + 1 := by
  unfold s13
  match k, hk with
  | 0, _ => simp [upd]; omega
  | 1, _ => simp [upd]; omega
  | 2, _ => simp [upd]; omega
  | 3, _ => simp [upd]; omega
  | 4, _ => simp [upd]; omega
  | 5, _ => simp [upd]; omega
  | 6, _ => simp [upd]; omega
  | 7, _ => simp [upd]; omega
  | 8, _ => simp [upd]; omega
  | 9, _ => simp [upd]; omega
  | 10, _ => simp [upd]; omega
  | 11, _ => simp [upd]; omega
  | 12, _ => simp [upd]; omega
  | n + 13, h => omega
theorem s13_of {c d : Nat → Int} (h : ∀ j, j < 13 → c j = d j) : s13 c = s13 d := by
  unfold s13
  rw [h 0 (by decide), h 1 (by decide), h 2 (by decide), h 3 (by decide), h 4 (by decide), h 5 (by decide), h 6 (by decide), h 7 (by decide), h 8 (by decide), h 9 (by decide), h 10 (by decide), h 11 (by decide), h 12 (by decide)]
theorem upd_at (f : Nat → Int) (i j : Nat) (v : Int) : upd f i v j = if j = i then v else f j := rfl
def c2of (c : Nat → Int) (k : Nat) (i : Int) : Nat → Int := if k = 6 then upd (upd c k (wrap64 (c k + 1))) 13 (wrap64 (upd c k (wrap64 (c k + 1)) 13 + i)) else upd c k (wrap64 (c k + 1))
theorem lay_is (c : Nat → Int) (k : Nat) (i l : Int) : lay1 c k i l = upd (upd (c2of c k i) 14 (max (c2of c k i 14) (wrap64 (wrap64 (wrap64 (c2of c k i 3 + c2of c k i 4) + c2of c k i 11) - c2of c k i 13)))) 15 (max (upd (c2of c k i) 14 (max (c2of c k i 14) (wrap64 (wrap64 (wrap64 (c2of c k i 3 + c2of c k i 4) + c2of c k i 11) - c2of c k i 13))) 15) l) := rfl
theorem c2_low (c : Nat → Int) (k : Nat) (i : Int) (j : Nat) (hj : j < 13) : c2of c k i j = if j = k then wrap64 (c k + 1) else c j := by
  unfold c2of
  by_cases h : k = 6
  · rw [if_pos h, upd_at, if_neg (by omega), upd_at]
  · rw [if_neg h, upd_at]
theorem c2_13 (c : Nat → Int) (k : Nat) (hk : k < 13) (i : Int) : c2of c k i 13 = if k = 6 then wrap64 (c 13 + i) else c 13 := by
  unfold c2of
  by_cases h : k = 6
  · rw [if_pos h, if_pos h, upd_at, if_pos rfl, upd_at, if_neg (by omega)]
  · rw [if_neg h, if_neg h, upd_at, if_neg (by omega)]
theorem c2_hi (c : Nat → Int) (k : Nat) (hk : k < 13) (i : Int) (j : Nat) (hj : 14 ≤ j) : c2of c k i j = c j := by
  unfold c2of
  by_cases h : k = 6
  · rw [if_pos h, upd_at, if_neg (by omega), upd_at, if_neg (by omega)]
  · rw [if_neg h, upd_at, if_neg (by omega)]
def gof (f : Nat → Int) (k : Nat) (l : Int) : Nat → Int := upd (dcL f l) (6 + k) (wrap64 (dcL f l (6 + k) + 1))
theorem dc_is (f : Nat → Int) (k : Nat) (i l : Int) : dc1 f k i l = dcP (dcK (gof f k l) k i) := rfl
theorem dcL_at (f : Nat → Int) (l : Int) (j : Nat) : dcL f l j = if j = 5 then max (f 5) l else if j = 0 then wrap64 (f 0 + 1) else f j := rfl
theorem gof_at (f : Nat → Int) (k : Nat) (l : Int) (j : Nat) : gof f k l j = if j = 6 + k then wrap64 (f (6 + k) + 1) else dcL f l j := by
  have e : dcL f l (6 + k) = f (6 + k) := by rw [dcL_at, if_neg (by omega), if_neg (by omega)]
  unfold gof
  rw [upd_at, e]
theorem dcP_ne (f : Nat → Int) (j : Nat) (h : j ≠ 4) : dcP f j = f j := if_neg h
theorem dcP_eq (f : Nat → Int) : dcP f 4 = max (f 4) (wrap64 (f 2 - f 3)) := rfl
theorem dcK_ne (f : Nat → Int) (k : Nat) (i : Int) (j : Nat) (h2 : j ≠ 2) (h3 : j ≠ 3) : dcK f k i j = f j := by
  unfold dcK
  split
  · exact if_neg h2
  · split
    · exact if_neg h3
    · rfl
theorem dcK_2 (f : Nat → Int) (k : Nat) (i : Int) : dcK f k i 2 = if k = 3 ∨ k = 4 ∨ k = 11 then wrap64 (f 2 + 1) else f 2 := by
  unfold dcK
  by_cases h : k = 3 ∨ k = 4 ∨ k = 11
  · rw [if_pos h, if_pos h]; rfl
  · rw [if_neg h, if_neg h]
    split
    · exact if_neg (by decide)
    · rfl
theorem dcK_3 (f : Nat → Int) (k : Nat) (i : Int) : dcK f k i 3 = if k = 6 then wrap64 (f 3 + i) else f 3 := by
  unfold dcK
  by_cases h : k = 3 ∨ k = 4 ∨ k = 11
  · rw [if_pos h, if_neg (by omega)]; exact if_neg (by decide)
  · rw [if_neg h]
    by_cases h6 : k = 6
    · rw [if_pos h6, if_pos h6]; rfl
    · rw [if_neg h6, if_neg h6]

theorem Rl.step {y : Int} {n : Nat} {f c : Nat → Int} (h : Rl y n f c) (hn : n ≤ 1000000) (k : Nat) (hk : k < 13) (i l : Int) : Rl y (n + 1) (dc1 f k i l) (lay1 c k i l) := by
  have hw : wrap64 (c k + 1) = c k + 1 := wrap_lo (by have := h.nn k hk; omega) (by have := h.most k hk; omega)
  have hlow : ∀ j, j < 13 → lay1 c k i l j = upd c k (c k + 1) j := fun j hj => by
    rw [lay_is, upd_at, if_neg (by omega), upd_at, if_neg (by omega), c2_low c k i j hj, hw, upd_at]
  have m3 := h.most 3 (by decide)
  have m4 := h.most 4 (by decide)
  have m11 := h.most 11 (by decide)
  have p3 := h.nn 3 (by decide)
  have p4 := h.nn 4 (by decide)
  have p11 := h.nn 11 (by decide)
  have g2 : gof f k l 2 = f 2 := by rw [gof_at, if_neg (by omega), dcL_at]; rfl
  have g3 : gof f k l 3 = f 3 := by rw [gof_at, if_neg (by omega), dcL_at]; rfl
  have g4 : gof f k l 4 = f 4 := by rw [gof_at, if_neg (by omega), dcL_at]; rfl
  have e2 : dcK (gof f k l) k i 2 = upd c k (c k + 1) 3 + upd c k (c k + 1) 4 + upd c k (c k + 1) 11 := by
    rw [dcK_2, g2, h.z2, upd_at, upd_at, upd_at]
    by_cases h3 : k = 3
    · subst h3; rw [if_pos (by omega), if_pos rfl, if_neg (by decide), if_neg (by decide), wrap_lo (by omega) (by omega)]; omega
    · by_cases h4 : k = 4
      · subst h4; rw [if_pos (by omega), if_neg (by decide), if_pos rfl, if_neg (by decide), wrap_lo (by omega) (by omega)]; omega
      · by_cases h11 : k = 11
        · subst h11; rw [if_pos (by omega), if_neg (by decide), if_neg (by decide), if_pos rfl, wrap_lo (by omega) (by omega)]; omega
        · rw [if_neg (by omega), if_neg (by omega), if_neg (by omega), if_neg (by omega)]
  have e3 : dcK (gof f k l) k i 3 = c2of c k i 13 := by rw [dcK_3, g3, h.z3, c2_13 c k hk]
  have b2 : 0 ≤ dcK (gof f k l) k i 2 ∧ dcK (gof f k l) k i 2 ≤ 4000000 := by
    rw [e2, upd_at, upd_at, upd_at]
    have mk := h.most k hk
    have pk := h.nn k hk
    constructor <;> (split <;> split <;> split <;> omega)
  have u3 : 0 ≤ upd c k (c k + 1) 3 ∧ upd c k (c k + 1) 3 ≤ 1000001 := by
    have mk := h.most k hk
    have pk := h.nn k hk
    rw [upd_at]; split <;> omega
  have u4 : 0 ≤ upd c k (c k + 1) 4 ∧ upd c k (c k + 1) 4 ≤ 1000001 := by
    have mk := h.most k hk
    have pk := h.nn k hk
    rw [upd_at]; split <;> omega
  refine ⟨?_, ?_, ?_, ?_, ?_, ?_, ?_, ?_, ?_⟩
  · rw [dc_is, dcP_ne _ _ (by decide), dcK_ne _ _ _ _ (by decide) (by decide), gof_at, if_neg (by omega), dcL_at, if_neg (by decide), if_pos rfl, h.z0, wrap_lo (by omega) (by omega)]
    omega
  · rw [dc_is, dcP_ne _ _ (by decide), dcK_ne _ _ _ _ (by decide) (by decide), gof_at, if_neg (by omega), dcL_at, if_neg (by decide), if_neg (by decide), h.z1]
  · rw [dc_is, dcP_ne _ _ (by decide), e2, hlow 3 (by decide), hlow 4 (by decide), hlow 11 (by decide)]
  · rw [dc_is, dcP_ne _ _ (by decide), e3, lay_is, upd_at, if_neg (by decide), upd_at, if_neg (by decide)]
  · rw [dc_is, dcP_eq, dcK_ne _ _ _ 4 (by decide) (by decide), g4, e3, h.z4, lay_is, upd_at, if_neg (by decide), upd_at, if_pos rfl, c2_hi c k hk i 14 (by decide), c2_low c k i 3 (by decide), c2_low c k i 4 (by decide), c2_low c k i 11 (by decide), hw, ← upd_at c k 3, ← upd_at c k 4, ← upd_at c k 11, wrap_lo (n := upd c k (c k + 1) 3 + upd c k (c k + 1) 4) (by omega) (by omega), wrap_lo (n := upd c k (c k + 1) 3 + upd c k (c k + 1) 4 + upd c k (c k + 1) 11) (by rw [← e2]; omega) (by rw [← e2]; omega), e2]
  · rw [dc_is, dcP_ne _ _ (by decide), dcK_ne _ _ _ _ (by decide) (by decide), gof_at, if_neg (by omega), dcL_at, if_pos rfl, h.z5, lay_is, upd_at, if_pos rfl, upd_at, if_neg (by decide), c2_hi c k hk i 15 (by decide)]
  · intro j hj
    rw [dc_is, dcP_ne _ _ (by omega), dcK_ne _ _ _ _ (by omega) (by omega), gof_at, hlow j hj, upd_at]
    by_cases hjk : j = k
    · rw [if_pos (by omega), if_pos hjk, h.kd k hk, hw]
    · rw [if_neg (by omega), if_neg hjk, dcL_at, if_neg (by omega), if_neg (by omega), h.kd j hj]
  · intro j hj
    rw [hlow j hj, upd_at]
    split
    · have := h.nn k hk; omega
    · exact h.nn j hj
  · rw [s13_of hlow, sum_upd c k hk, h.sm]
    omega

theorem rl_fold (y : Int) (L : List (List UInt8)) : ∀ (n : Nat) (f c : Nat → Int), Rl y n f c → n + L.length ≤ 1000000 → Rl y (n + L.length) (L.foldl (fun f x => dc1 f (gd x).k.toNat (gd x).ids.length x.length) f) (L.foldl (fun c x => lay1 c (gd x).k.toNat (gd x).ids.length x.length) c) := by
  induction L with
  | nil => intro n f c h _; exact h
  | cons x L ih =>
    intro n f c h hn
    rw [List.length_cons] at hn ⊢
    have hk := gd_kinds x
    have := ih (n + 1) _ _ (h.step (by omega) (gd x).k.toNat (by omega) (gd x).ids.length x.length) (by omega)
    rw [show n + (L.length + 1) = n + 1 + L.length from by omega]
    exact this
theorem rl_all (y : Int) (L : List (List UInt8)) (h : L.length ≤ 1000000) : Rl y L.length (dcS y L) (scS L) := by
  have := rl_fold y L 0 (upd (fun _ => 0) 1 y) (fun _ => 0) ⟨rfl, rfl, rfl, rfl, rfl, rfl, fun j hj => (upd_ne (by omega)), fun j hj => Int.le_refl 0, rfl⟩ (by omega)
  rw [Nat.zero_add] at this
  exact this
def ps (c : Nat → Int) : Nat → Int
  | 0 => 0
  | m + 1 => ps c m + c m
theorem Rl.sum {y : Int} {n : Nat} {f c : Nat → Int} (h : Rl y n f c) (hn : n ≤ 1000000) : sumW c 13 = n := by
  have e : ps c 13 = n := by
    rw [← h.sm]
    simp only [ps, s13]
    omega
  have up : ∀ d m, m + d = 13 → ps c m ≤ n := by
    intro d
    induction d with
    | zero => intro m hm; have : m = 13 := by omega
              rw [this, e]; exact Int.le_refl _
    | succ d ih =>
      intro m hm
      have h1 := ih (m + 1) (by omega)
      have h2 := h.nn m (by omega)
      simp only [ps] at h1
      omega
  have lo : ∀ m, m ≤ 13 → 0 ≤ ps c m ∧ sumW c m = ps c m := by
    intro m
    induction m with
    | zero => intro _; exact ⟨Int.le_refl 0, rfl⟩
    | succ m ih =>
      intro hm
      have h1 := ih (by omega)
      have h2 := h.nn m (by omega)
      have h3 := up (13 - (m + 1)) (m + 1) (by omega)
      simp only [ps] at h3
      simp only [ps, sumW]
      rw [h1.2, wrap_lo (by omega) (by omega)]
      exact ⟨by omega, rfl⟩
  rw [(lo 13 (by decide)).2, e]
/-- The document's weight is the program's. -/
theorem weights_same (y : Int) (L : List (List UInt8)) (h : L.length ≤ 1000000) : wdC (dcS y L) = wtS L y := by
  have r := rl_all y L h
  have m3 := r.most 3 (by decide)
  have m4 := r.most 4 (by decide)
  have m11 := r.most 11 (by decide)
  have p3 := r.nn 3 (by decide)
  have p4 := r.nn 4 (by decide)
  have p11 := r.nn 11 (by decide)
  unfold wtS wdC wtC
  rw [r.sum h, wrap_lo (n := scS L 3 + scS L 4) (by omega) (by omega), wrap_lo (n := scS L 3 + scS L 4 + scS L 11) (by omega) (by omega), r.z0, r.z1, r.z2, r.z3, r.z4, r.z5, show dcS y L 6 = scS L 0 from r.kd 0 (by decide), show dcS y L 7 = scS L 1 from r.kd 1 (by decide), show dcS y L 8 = scS L 2 from r.kd 2 (by decide), show dcS y L 9 = scS L 3 from r.kd 3 (by decide), show dcS y L 10 = scS L 4 from r.kd 4 (by decide), show dcS y L 11 = scS L 5 from r.kd 5 (by decide), show dcS y L 12 = scS L 6 from r.kd 6 (by decide), show dcS y L 13 = scS L 7 from r.kd 7 (by decide), show dcS y L 14 = scS L 8 from r.kd 8 (by decide), show dcS y L 15 = scS L 9 from r.kd 9 (by decide), show dcS y L 16 = scS L 10 from r.kd 10 (by decide), show dcS y L 17 = scS L 11 from r.kd 11 (by decide), show dcS y L 18 = scS L 12 from r.kd 12 (by decide)]

end Go.Proofs.YtgckmkdmlaocmaaGreatDoor
