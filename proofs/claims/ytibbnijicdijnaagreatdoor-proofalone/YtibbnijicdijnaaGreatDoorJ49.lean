/-
  Put together: PfEr, PfAl.
-/
import Derived.Test.YtibbnijicdijnaaGreatDoorPfRead
namespace Go.Proofs.YtibbnijicdijnaaGreatDoor
open Go.RowKit

def OkL (s : Ls) : Prop := ∀ e, s.2 = some e → 80 ≤ e ∧ e ≤ 82
theorem ok_fail {s : Ls} (h : OkL s) (e : Int) (he : 80 ≤ e ∧ e ≤ 82) : OkL (failP e s) := by
  intro e' h'
  unfold failP at h'
  split at h'
  · simp at h'; subst h'; exact he
  · exact h e' h'
theorem ok_if {c : Prop} [Decidable c] {a b : Ls} (ha : OkL a) (hb : OkL b) : OkL (if c then a else b) := by split <;> assumption
theorem ok_take {s : Ls} (h : OkL s) : OkL (takeP s).2 := by unfold takeP; split <;> exact h
theorem ok_next {s : Ls} (h : OkL s) : OkL (nextP s).2 := by
  unfold nextP
  split
  · exact ok_take h
  · exact ok_fail (ok_take h) 82 (by decide)
theorem ok_must {s : Ls} (x : List UInt8) (h : OkL s) : OkL (mustP x s) := ok_if (ok_next h) (ok_fail (ok_next h) 80 (by decide))
theorem ok_end {s : Ls} (h : OkL s) : OkL (endP s) := ok_if (ok_fail (ok_take h) 80 (by decide)) (ok_take h)
theorem ok_whole {s : Ls} (x : List UInt8) (g : Int) (h : OkL s) : OkL (wholeP x g s) := ok_if (ok_fail h 81 (by decide)) h
theorem ok_lit {s : Ls} (x : List UInt8) (h : OkL s) : OkL (literalP x s) := ok_if h (ok_fail h 81 (by decide))
theorem ok_leanS {s : Ls} (x : List UInt8) (h : OkL s) : OkL (leanS x s) := ok_if h (ok_fail h 80 (by decide))
theorem ok_lean {s : Ls} (x : List UInt8) (h : OkL s) : OkL (leanP x s).2 := ok_whole _ _ (ok_next (ok_leanS x h))
theorem ok_operS {s : Ls} (x : List UInt8) (h : OkL s) : OkL (operS x s) := ok_if (ok_fail h 80 (by decide)) h
theorem ok_oper {s : Ls} (x : List UInt8) (h : OkL s) : OkL (operP x s).2 := by
  unfold operP
  split
  · exact h
  · exact ok_whole _ _ (ok_operS x h)
theorem ok_turn {s : Ls} (a b : Int) (L : List OpL) (h : OkL s) : OkL (turnP a b L s).2 := by
  unfold turnP
  split
  · exact ok_fail h 80 (by decide)
  · split
    · exact h
    · exact ok_fail h 80 (by decide)
theorem ok_op {s : Ls} (x : List UInt8) (L : List OpL) (h : OkL s) : OkL (opP x L s).2 := by
  unfold opP
  split
  · exact h
  split
  · exact h
  split
  · exact ok_turn _ _ _ h
  split
  · exact ok_turn _ _ _ h
  split
  · exact ok_turn _ _ _ h
  · exact ok_oper x h
theorem ok_lops : ∀ (n : Nat) (L : List OpL) (s : Ls), OkL s → OkL (lopsP n L s).2
  | 0, _, _, h => h
  | n + 1, L, s, h => by
    unfold lopsP
    split
    · exact ok_lops n _ _ (ok_op _ _ (ok_take h))
    · exact ok_take h
theorem ok_ops {s : Ls} (h : OkL s) : OkL (opsP s).2 := ok_lops _ _ _ (ok_op _ _ (ok_next h))
theorem ok_lst {rd : List UInt8 → Ls → Ls} (hr : ∀ x s, OkL s → OkL (rd x s)) : ∀ (n : Nat) (s : Ls), OkL s → OkL (lstP rd n s).2
  | 0, _, h => h
  | n + 1, s, h => by
    unfold lstP
    split
    · exact ok_lst hr n _ (hr _ _ (ok_take h))
    · exact ok_take h
theorem ok_list {rd : List UInt8 → Ls → Ls} (hr : ∀ x s, OkL s → OkL (rd x s)) {s : Ls} (h : OkL s) : OkL (listP rd s).2 := ok_lst hr _ _ h
theorem ok_ids {s : Ls} (h : OkL s) : OkL (idsP s).2 := ok_list (fun x _ h => ok_whole x 1 h) h
theorem ok_rowL : ∀ (n : Nat) (x : List UInt8) (s : Ls), OkL s → OkL (rowL n x s).2
  | 0, _, _, h => h
  | n + 1, x, s, h => by
    unfold rowL
    split
    · exact h
    · exact ok_rowL n _ _ (ok_next (ok_lit _ (ok_next (ok_whole _ _ h))))
theorem ok_row {s : Ls} (h : OkL s) : OkL (rowP s).2 := ok_must _ (ok_whole _ _ (ok_next (ok_rowL _ _ _ (ok_next h))))
theorem ok_musts (l : List (List UInt8)) : ∀ {s : Ls}, OkL s → OkL (mustsP l s) := by
  unfold mustsP
  induction l with
  | nil => exact fun h => h
  | cons x l ih => exact fun h => ih (ok_must x h)
theorem ok_eqS {s : Ls} (h : OkL s) : OkL (eqS s) := ok_whole _ _ (ok_next h)
theorem ok_pick (T : List FmL) (rd : FuncId → Ls → SL × Ls) (hr : ∀ f s, OkL s → OkL (rd f s).2) {s : Ls} (h : OkL s) : OkL (pickP T rd s).2.2 := by
  unfold pickP
  split
  · exact hr _ _ (ok_musts _ (ok_next h))
  · exact ok_fail (ok_next h) 80 (by decide)
theorem ok_unsat {s : Ls} (h : OkL s) : OkL (unsatP s).2 := by
  unfold unsatP
  split
  · exact ok_lean _ (ok_take h)
  · exact ok_take h
theorem ok_all {s : Ls} (h : OkL s) : OkL (allP s).2 := ok_lean _ (ok_next (ok_whole _ _ (ok_next h)))
theorem ok_bounds {s : Ls} (h : OkL s) : OkL (boundsP s).2 := by
  have hA : OkL (bdA s) := by unfold bdA; exact ok_whole _ _ (ok_next h)
  have hB : OkL (bdB s) := ok_next hA
  unfold boundsP
  split
  · exact ok_whole _ _ (ok_next (ok_lean _ hB))
  · exact ok_whole _ _ hB
theorem ok_rdC (f : FuncId) (s : Ls) (h : OkL s) : OkL (rdC f s).2 := by
  unfold rdC
  split
  · exact ok_unsat h
  split
  · exact ok_bounds h
  split
  · exact ok_all h
  · exact h
theorem ok_ends {s : Ls} (h : OkL s) : OkL (endsP s).2 := ok_pick _ _ ok_rdC h
theorem ok_rdF (f : FuncId) (s : Ls) (h : OkL s) : OkL (rdF f s).2 := by
  unfold rdF
  split
  · exact ok_whole _ _ (ok_next h)
  split
  · exact ok_ops h
  split
  · exact ok_ids (ok_row h)
  split
  · exact ok_row (ok_eqS h)
  split
  · exact ok_list (fun x _ h => ok_lit x h) h
  split
  · exact ok_ids (ok_eqS h)
  split
  · exact h
  split
  · exact ok_ends h
  · exact h
theorem er_range (x : List UInt8) : er x = 0 ∨ (80 ≤ er x ∧ er x ≤ 82) := by
  have h : OkL (endP (pickP formsL rdF (x, none)).2.2) := ok_end (ok_pick _ _ ok_rdF (fun e he => by cases he))
  unfold er parseP
  cases hr : (readP x).2 with
  | none => exact .inl rfl
  | some e =>
    right
    unfold readP at hr
    split at hr
    · cases hr
    · exact h e hr

theorem info32 : (Tryz.prog.info? 32).map (·.size) = some 2 := by kernel_rfl
theorem und95 : Tryz.prog.underlying 95 = some (.pointer 98) := by kernel_rfl
theorem run_assert (p : Value) (w : World) : (Instr.typeAssert (.iface 95 p) 28 95 true).run Tryz.prog w = .ok (.tuple #[p, .bool true]) w := by
  unfold Instr.typeAssert
  simp [run_underlying und95]
set_option maxRecDepth 10000 in
set_option maxHeartbeats 2000000 in
theorem told_nil (w : World) : Calls Tryz.prog 12 #[.nilIface] w fun e w' => e = .returned (.tuple #[.agg #[.int .i64 0, .int .i64 0], .bool true]) ∧ Below w.heap.size w w' := by
  go_enter Tryz.func12, Tryz.ntmps12
  go_wp2_with fail
  refine bodyPost_ret (res_step rfl _ _ w.heap.size 32 _ (0, 0) _ rfl (heap_alloc_new w _) Tryz.underlying32 rfl info32) rfl ⟨rfl, (Below.refl _ _).alloc (Nat.le_refl _) _⟩
set_option maxRecDepth 10000 in
set_option maxHeartbeats 2000000 in
theorem told_hit (n m : Int) (f : Nat) (w : World) (hf : w.heap[f]? = some (.cells #[.int .i64 2, .int .i64 n, .int .i64 m] 98 (0, 0))) (h1 : 80 ≤ m) (h2 : m ≤ 82) : Calls Tryz.prog 12 #[.iface 95 (.pointer (some ⟨f, 0, none⟩))] w fun e w' => e = .returned (.tuple #[.agg #[.int .i64 n, .int .i64 m], .bool true]) ∧ Below w.heap.size w w' := by
  obtain ⟨W, hW⟩ : ∃ W, w.alloc (.cells #[.int .i64 0, .int .i64 0] 32) = W := ⟨_, rfl⟩
  have hbW : Below w.heap.size w W := by rw [← hW]; exact (Below.refl _ _).alloc (Nat.le_refl _) _
  have gW := (hbW.block _ (Array.getElem?_eq_some_iff.1 hf).1).trans hf
  have c0 := cell_of gW 0
  have c1 := cell_of gW 1
  have c2 := cell_of gW 2
  have gN : W.heap[w.heap.size]? = some (.cells #[.int .i64 0, .int .i64 0] 32 (0, 0)) := by rw [← hW]; exact heap_alloc_new w _
  have d0 := cell_of gN 0
  have d1 := cell_of gN 1
  have z0 := frozen_of gN 0
  have z1 := frozen_of gN 1
  dsimp at c0 c1 c2 d0 d1
  have HW : Hid (Below w.heap.size w W) := hbW
  have HgN : Hid (W.heap[w.heap.size]? = some (.cells #[.int .i64 0, .int .i64 0] 32 (0, 0))) := gN
  have hTA := fun W => run_assert (.pointer (some ⟨f, 0, none⟩)) W
  have hm1 : ¬ m < 80 := by omega
  have hm2 : ¬ 83 < m := by omega
  clear gW gN hbW h1 h2 hf
  go_enter Tryz.func12, Tryz.ntmps12
  go_wp2_with fail
  go_region
  go_wp2_with fail

  refine bodyPost_ret (res_step rfl _ _ w.heap.size 32 _ (0, 0) _ rfl (set_of (set_of (show W.drew.heap[w.heap.size]? = _ from HgN.out) 0 _) 1 _) Tryz.underlying32 rfl info32) rfl ⟨rfl, (HW.out.drew.setCell (Nat.le_refl _) _).setCell (Nat.le_refl _) _⟩
end Go.Proofs.YtibbnijicdijnaaGreatDoor

namespace Go.Proofs.YtibbnijicdijnaaGreatDoor
open Go.RowKit

theorem addr_plain (b j : Nat) : (⟨b, 0, none⟩ : Addr).add j = ⟨b, j, none⟩ := by
  unfold Addr.add
  by_cases h : j = 0
  · subst h; rfl
  · simp [h]
theorem own_few {w : World} {B : Nat} {e : TypeId} {m : Nat} {v : Value} {n : Nat} {xs : List Value} (h : w.ownsRow B e m v n xs) : n ≤ 9223372036854775807 := by
  rcases h.2 with ⟨_, rfl⟩ | ⟨_, cap, _, _, _, _, h1, h2, _⟩
  · omega
  · unfold maxLen at h2; omega
theorem slr_of_own {B : Nat} {w : World} {d : SL} {vo vp vl vi : Value} (h : SlOwn B w d vo vp vl vi) : SlR w d vo vp vl vi := ⟨rd_of_own h.o (own_few h.o), rd_of_own h.p (own_few h.p), rd_of_own h.l (own_few h.l), rd_of_own h.i (own_few h.i)⟩
theorem flat_get (L : List St4) (i : Nat) (hi : i < L.length) (j : Nat) (hj : j < 10) : (L.flatMap stC)[i * 10 + j]? = (stC L[i])[j]? := by
  induction L generalizing i with
  | nil => exact absurd hi (Nat.not_lt_zero _)
  | cons p L ih =>
    rw [List.flatMap_cons]
    cases i with
    | zero =>
      rw [Nat.zero_mul, Nat.zero_add, List.getElem?_append_left (by rw [stC_len]; exact hj)]
      rfl
    | succ i =>
      rw [List.getElem?_append_right (by rw [stC_len]; omega), stC_len]
      have := ih i (by simpa using hi)
      simp only [List.getElem_cons_succ]
      rw [← this]
      congr 1
      omega
/-- A step of a row. -/
theorem sts_get {B : Nat} {w : World} {a : Option Addr} {n c : Nat} {ds : List SL} (h : StsAt B w (.slice a n c) ds) (i : Nat) (hi : i < ds.length) : ∃ g vo vp vl vi, a = some ⟨g, 0, none⟩ ∧ SlR w ds[i] vo vp vl vi ∧ ∀ j, j < 10 → w.cell? ⟨g, i * 10 + j, none⟩ = (slC ds[i] vo vp vl vi)[j]? := by
  obtain ⟨L, h1, h2, h3⟩ := h
  have hL : i < L.length := by rw [← h1] at hi; simpa using hi
  have hd : ds[i] = L[i].1 := by simp [← h1]
  have hcs := fun g hg => h2.cells (g := g) hg
  rcases h2.2 with ⟨_, hz⟩ | ⟨g, cap, cur, hv, _⟩
  · omega
  · injection hv with q1 q2 q3
    subst q1
    refine ⟨g, L[i].2.1, L[i].2.2.1, L[i].2.2.2.1, L[i].2.2.2.2, rfl, ?_, fun j hj => ?_⟩
    · rw [hd]; exact slr_of_own (h3 _ (List.getElem_mem hL))
    · have hf := flat_get L i hL j hj
      rw [hd]
      have hs : (stC L[i])[j]? = (slC L[i].1 L[i].2.1 L[i].2.2.1 L[i].2.2.2.1 L[i].2.2.2.2)[j]? := by unfold stC; simp
      rw [hs] at hf
      have hlt : j < (slC L[i].1 L[i].2.1 L[i].2.2.1 L[i].2.2.2.1 L[i].2.2.2.2).size := hj
      rw [Array.getElem?_eq_getElem hlt] at hf ⊢
      have := hcs g rfl (i * 10 + j) _ hf
      rw [addr_plain] at this
      exact this
theorem RdAt.at {w : World} {a : Option Addr} {n c : Nat} {xs : List Value} (h : RdAt w (.slice a n c) n xs) (i : Nat) (hi : i < n) : ∃ g off, a = some ⟨g, off, none⟩ ∧ ∀ j u, xs[j]? = some u → w.cell? ⟨g, off + j, none⟩ = some u := by
  obtain ⟨a', c', h1, _, h3⟩ := h
  injection h1 with q1 q2 q3
  subst q1
  obtain ⟨g, off, e1, _, e3⟩ := h3 (by omega)
  exact ⟨g, off, e1, e3⟩
/-- A line that is read. -/
theorem parse_out (x : List UInt8) (hx : x.length ≤ 1000000) (w : World) (hg : Gl w) : Calls Tryz.prog 18 #[.string (txtOf x)] w fun e w' => ∃ oa oc pa pc la lc ia ic, e = .returned (.tuple #[.agg #[.int .i64 (gd x).k, .string (txtOf (gd x).n), .slice oa (gd x).ops.length oc, .slice pa (gd x).pcs.length pc, .string (txtOf (gd x).deg), .slice la (gd x).lits.length lc, .slice ia (gd x).ids.length ic, .int .i64 (gd x).ends, .string (txtOf (gd x).low), .string (txtOf (gd x).high)], .int .i64 (er x)]) ∧ SlR w' (gd x) (.slice oa (gd x).ops.length oc) (.slice pa (gd x).pcs.length pc) (.slice la (gd x).lits.length lc) (.slice ia (gd x).ids.length ic) ∧ Below w.heap.size w w' := by
  refine (parse_any8 x w hx hg).mono fun e w' hq => ?_
  obtain ⟨vo, vp, vl, vi, q1, q2, q3⟩ := hq
  have r := slr_of_own q2
  obtain ⟨oa, oc, rfl⟩ := own_slice q2.o
  obtain ⟨pa, pc, rfl⟩ := own_slice q2.p
  obtain ⟨la, lc, rfl⟩ := own_slice q2.l
  obtain ⟨ia, ic, rfl⟩ := own_slice q2.i
  exact ⟨oa, oc, pa, pc, la, lc, ia, ic, q1, r, q3⟩

end Go.Proofs.YtibbnijicdijnaaGreatDoor
