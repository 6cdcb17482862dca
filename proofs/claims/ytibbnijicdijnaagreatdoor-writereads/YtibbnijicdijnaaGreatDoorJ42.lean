/-
  Put together: PfAl, PfWlog, PfSst, PfAgain, PfCt.
-/
import Derived.Test.YtibbnijicdijnaaGreatDoorJ41
import Derived.Test.YtibbnijicdijnaaGreatDoorJ07
namespace Go.Proofs.YtibbnijicdijnaaGreatDoor
open Go.RowKit

theorem addr_plain (b j : Nat) : (⟨b, 0, none⟩ : Addr).add j = ⟨b, j, none⟩ := by
  unfold Addr.add
  by_cases h : j = 0
  · subst h; rfl
  · simp [h]
theorem own_few {w : World} {B : Nat} {e : TypeId} {m : Nat} {v : Value} {n : Nat} {xs : List Value} (h : w.ownsRow B e m v n xs) : n ≤ 9223372036854775807 := by
  rcases h.2 with ⟨_, rfl⟩ | ⟨_, cap, _, _, _, _, h1, h2, _⟩
  · omega
  · unfold maxLen at h2; omega
theorem slr_of_own {B : Nat} {w : World} {d : SL} {vo vp vl vi : Value} (h : SlOwn B w d vo vp vl vi) : SlR w d vo vp vl vi := ⟨rd_of_own h.o (own_few h.o), rd_of_own h.p (own_few h.p), rd_of_own h.l (own_few h.l), rd_of_own h.i (own_few h.i)⟩
theorem flat_get (L : List St4) (i : Nat) (hi : i < L.length) (j : Nat) (hj : j < 10) : (L.flatMap stC)[i * 10 + j]? = (stC L[i])[j]? := by
  induction L generalizing i with
  | nil => exact absurd hi (Nat.not_lt_zero _)
  | cons p L ih =>
    rw [List.flatMap_cons]
    cases i with
    | zero =>
      rw [Nat.zero_mul, Nat.zero_add, List.getElem?_append_left (by rw [stC_len]; exact hj)]
      rfl
    | succ i =>
      rw [List.getElem?_append_right (by rw [stC_len]; omega), stC_len]
      have := ih i (by simpa using hi)
      simp only [List.getElem_cons_succ]
      rw [← this]
      congr 1
      omega
/-- A step of a row. -/
theorem sts_get {B : Nat} {w : World} {a : Option Addr} {n c : Nat} {ds : List SL} (h : StsAt B w (.slice a n c) ds) (i : Nat) (hi : i < ds.length) : ∃ g vo vp vl vi, a = some ⟨g, 0, none⟩ ∧ SlR w ds[i] vo vp vl vi ∧ ∀ j, j < 10 → w.cell? ⟨g, i * 10 + j, none⟩ = (slC ds[i] vo vp vl vi)[j]? := by
  obtain ⟨L, h1, h2, h3⟩ := h
  have hL : i < L.length := by rw [← h1] at hi; simpa using hi
  have hd : ds[i] = L[i].1 := by simp [← h1]
  have hcs := fun g hg => h2.cells (g := g) hg
  rcases h2.2 with ⟨_, hz⟩ | ⟨g, cap, cur, hv, _⟩
  · omega
  · injection hv with q1 q2 q3
    subst q1
    refine ⟨g, L[i].2.1, L[i].2.2.1, L[i].2.2.2.1, L[i].2.2.2.2, rfl, ?_, fun j hj => ?_⟩
    · rw [hd]; exact slr_of_own (h3 _ (List.getElem_mem hL))
    · have hf := flat_get L i hL j hj
      rw [hd]
      have hs : (stC L[i])[j]? = (slC L[i].1 L[i].2.1 L[i].2.2.1 L[i].2.2.2.1 L[i].2.2.2.2)[j]? := by unfold stC; simp
      rw [hs] at hf
      have hlt : j < (slC L[i].1 L[i].2.1 L[i].2.2.1 L[i].2.2.2.1 L[i].2.2.2.2).size := hj
      rw [Array.getElem?_eq_getElem hlt] at hf ⊢
      have := hcs g rfl (i * 10 + j) _ hf
      rw [addr_plain] at this
      exact this
theorem RdAt.at {w : World} {a : Option Addr} {n c : Nat} {xs : List Value} (h : RdAt w (.slice a n c) n xs) (i : Nat) (hi : i < n) : ∃ g off, a = some ⟨g, off, none⟩ ∧ ∀ j u, xs[j]? = some u → w.cell? ⟨g, off + j, none⟩ = some u := by
  obtain ⟨a', c', h1, _, h3⟩ := h
  injection h1 with q1 q2 q3
  subst q1
  obtain ⟨g, off, e1, _, e3⟩ := h3 (by omega)
  exact ⟨g, off, e1, e3⟩
/-- A line that is read. -/
theorem parse_out (x : List UInt8) (hx : x.length ≤ 9000000) (w : World) (hg : Gl w) : Calls Tryz.prog 18 #[.string (txtOf x)] w fun e w' => ∃ oa oc pa pc la lc ia ic, e = .returned (.tuple #[.agg #[.int .i64 (gd x).k, .string (txtOf (gd x).n), .slice oa (gd x).ops.length oc, .slice pa (gd x).pcs.length pc, .string (txtOf (gd x).deg), .slice la (gd x).lits.length lc, .slice ia (gd x).ids.length ic, .int .i64 (gd x).ends, .string (txtOf (gd x).low), .string (txtOf (gd x).high)], .int .i64 (er x)]) ∧ SlR w' (gd x) (.slice oa (gd x).ops.length oc) (.slice pa (gd x).pcs.length pc) (.slice la (gd x).lits.length lc) (.slice ia (gd x).ids.length ic) ∧ Below w.heap.size w w' := by
  refine (parse_any8 x w hx hg).mono fun e w' hq => ?_
  obtain ⟨vo, vp, vl, vi, q1, q2, q3⟩ := hq
  have r := slr_of_own q2
  obtain ⟨oa, oc, rfl⟩ := own_slice q2.o
  obtain ⟨pa, pc, rfl⟩ := own_slice q2.p
  obtain ⟨la, lc, rfl⟩ := own_slice q2.l
  obtain ⟨ia, ic, rfl⟩ := own_slice q2.i
  exact ⟨oa, oc, pa, pc, la, lc, ia, ic, q1, r, q3⟩

end Go.Proofs.YtibbnijicdijnaaGreatDoor

namespace Go.Proofs.YtibbnijicdijnaaGreatDoor
open Go.RowKit

/-- A row of steps, as it is read. -/
def StsR (w : World) (v : Value) (ds : List SL) : Prop := ∃ a c, v = .slice a ds.length c ∧ ds.length ≤ 9223372036854775807 ∧ ∀ i (hi : i < ds.length), ∃ g off vo vp vl vi, a = some ⟨g, off, none⟩ ∧ g < w.heap.size ∧ SlR w ds[i] vo vp vl vi ∧ ∀ j, j < 10 → w.cell? ⟨g, off + i * 10 + j, none⟩ = (slC ds[i] vo vp vl vi)[j]?
theorem StsR.below {w w' : World} {v : Value} {ds : List SL} (h : StsR w v ds) (hb : Below w.heap.size w w') : StsR w' v ds := by
  obtain ⟨a, c, h1, h2, h3⟩ := h
  refine ⟨a, c, h1, h2, fun i hi => ?_⟩
  obtain ⟨g, off, vo, vp, vl, vi, e1, e2, e3, e4⟩ := h3 i hi
  exact ⟨g, off, vo, vp, vl, vi, e1, Nat.lt_of_lt_of_le e2 hb.size, e3.below hb, fun j hj => (hb.cell (p := ⟨g, off + i * 10 + j, none⟩) e2).trans (e4 j hj)⟩
theorem StsAt.r {B : Nat} {w : World} {v : Value} {ds : List SL} (h : StsAt B w v ds) : StsR w v ds := by
  have hn : ds.length ≤ 9223372036854775807 := by obtain ⟨L, _, h1, _⟩ := id h; exact own_few h1
  obtain ⟨a, c, rfl⟩ : ∃ a c, v = .slice a ds.length c := by obtain ⟨L, _, h1, _⟩ := id h; exact own_slice h1
  refine ⟨a, c, rfl, hn, fun i hi => ?_⟩
  obtain ⟨g, vo, vp, vl, vi, e1, e2, e3⟩ := sts_get h i hi
  have hg : g < w.heap.size := by
    have h0 := e3 0 (by omega)
    refine Nat.lt_of_not_le fun hle => ?_
    simp [World.cell?, Array.getElem?_eq_none hle, slC] at h0
  exact ⟨g, 0, vo, vp, vl, vi, e1, hg, e2, fun j hj => by rw [Nat.zero_add]; exact e3 j hj⟩
def slB (a b : SL) : Bool := decide (a.k = b.k ∧ a.n = b.n ∧ a.ops = b.ops ∧ a.pcs = b.pcs ∧ a.deg = b.deg ∧ a.lits = b.lits ∧ a.ids = b.ids ∧ a.ends = b.ends ∧ a.low = b.low ∧ a.high = b.high)
theorem slB_iff {a b : SL} : slB a b = true ↔ a = b := by
  unfold slB
  rw [decide_eq_true_iff]
  constructor
  · intro h
    obtain ⟨k, n, o, p, g, l, i, e, w, q⟩ := a
    obtain ⟨h0, h1, h2, h3, h4, h5, h6, h7, h8, h9⟩ := h
    obtain ⟨k', n', o', p', g', l', i', e', w', q'⟩ := b
    simp only at h0 h1 h2 h3 h4 h5 h6 h7 h8 h9
    subst h0 h1 h2 h3 h4 h5 h6 h7 h8 h9
    rfl
  · intro h; rw [h]; exact ⟨rfl, rfl, rfl, rfl, rfl, rfl, rfl, rfl, rfl, rfl⟩
theorem slB_pair {q : SL × Int} {d : SL} : (slB q.1 d && decide (q.2 = 0)) = true ↔ q = (d, 0) := by
  obtain ⟨a, n⟩ := q
  simp only [Bool.and_eq_true, slB_iff, decide_eq_true_iff, Prod.mk.injEq]
/-- What Print tells of a step. -/
def prT (d : SL) : List UInt8 × Int := if (slB (parseP (lnT d)).1 d && decide ((parseP (lnT d)).2 = 0)) = true then (lnT d, 0) else ([], 83)
def PrO (d : SL) (w : World) (e : Ending) (w' : World) : Prop := e = .returned (.tuple #[.string (txtOf (prT d).1), .int .i64 (prT d).2]) ∧ Below w.heap.size w w'
theorem prT_yes {d : SL} (h : parseP (lnT d) = (d, 0)) : prT d = (lnT d, 0) := by unfold prT; rw [if_pos (slB_pair.2 h)]
theorem prT_no {d : SL} (h : parseP (lnT d) ≠ (d, 0)) : prT d = ([], 83) := by unfold prT; rw [if_neg (fun e => h (slB_pair.1 e))]
/-- Print of a right step. -/
theorem print_right {L : List (List UInt8)} {d : SL} (hr : Rgt L d) (hl : (lnT d).length < 9000000) (vo vp vl vi : Value) (w : World) (hs : SlR w d vo vp vl vi) (hg : Gl w) (hB : 12 ≤ w.heap.size) : Calls Tryz.prog 13 #[.agg (slC d vo vp vl vi)] w (PrO d w) := by
  unfold PrO
  rw [prT_yes hr.parse]
  exact print_eq d (tabF d.k) vo vp vl vi w hs hr.ints (by have := hr.line.2.2; unfold lnW at this; omega) (lnT d) rfl hr.parse hg hB
/-- How Write ends. -/
def WlO (ds : List SL) (w : World) (e : Ending) (w' : World) : Prop := Below w.heap.size w w' ∧ ((e = .returned (.tuple #[.string (txtOf (txt (ds.map lnT))), .nilIface]) ∧ ∀ d ∈ ds, parseP (lnT d) = (d, 0)) ∨ ∃ pre d post f, ds = pre ++ d :: post ∧ (∀ x ∈ pre, parseP (lnT x) = (x, 0)) ∧ parseP (lnT d) ≠ (d, 0) ∧ e = .returned (.tuple #[.string ⟨#[]⟩, .iface 95 (.pointer (some ⟨f, 0, none⟩))]) ∧ w'.heap[f]? = some (.cells #[.int .i64 2, .int .i64 (pre.length + 1), .int .i64 83] 98 (0, 0)))
theorem txt_take (ds : List SL) (i : Nat) (hi : i < ds.length) : txt ((ds.take (i + 1)).map lnT) = txt ((ds.take i).map lnT) ++ lnT ds[i] ++ [10] := by
  unfold txt
  rw [List.take_succ_eq_append_getElem hi, List.map_append, List.flatMap_append]
  simp only [List.map_cons, List.map_nil, List.flatMap_cons, List.flatMap_nil, List.append_nil, List.append_assoc]
theorem tot_le (ds : List SL) (i : Nat) (hi : i < ds.length) : (txt ((ds.take i).map lnT)).length + (lnT ds[i]).length + 1 ≤ tot (ds.map lnT) := by
  have h1 := tot_take (ds.map lnT) i (by simpa using hi)
  rw [txt_len, List.map_take]
  simp at h1
  omega

set_option maxRecDepth 10000 in
set_option maxHeartbeats 2000000 in
theorem wlog_any (ds : List SL) (v : Value) (w : World) (hS : StsR w v ds) (hl : tot (ds.map lnT) ≤ 900000000) (hn : ds.length ≤ 900000000) (hP : ∀ d ∈ ds, ∀ (w' : World) (vo vp vl vi : Value), Below w.heap.size w w' → SlR w' d vo vp vl vi → Calls Tryz.prog 13 #[.agg (slC d vo vp vl vi)] w' (PrO d w')) : Calls Tryz.prog 11 #[v] w (WlO ds w) := by
  unfold WlO
  obtain ⟨a, c, rfl, hn0, hC⟩ := id hS
  have HS : Hid (StsR w (.slice a ds.length c) ds) := hS
  have HL : Hid (tot (ds.map lnT) ≤ 900000000) := hl
  have HP : Hid (∀ d ∈ ds, ∀ (w' : World) (vo vp vl vi : Value), Below w.heap.size w w' → SlR w' d vo vp vl vi → Calls Tryz.prog 13 #[.agg (slC d vo vp vl vi)] w' (PrO d w')) := hP
  obtain ⟨V, hV⟩ : ∃ V, w.alloc (.cells #[.pointer none, .slice none 0 0] 90) = V := ⟨_, rfl⟩
  have hbV : Below w.heap.size w V := by rw [← hV]; exact (Below.refl _ _).alloc (Nat.le_refl _) _
  have gV : V.heap[w.heap.size]? = some (.cells #[.pointer none, .slice none 0 0] 90 (0, 0)) := by rw [← hV]; exact heap_alloc_new w _
  have HPg : Hid (Bd.PageAt w.heap.size w.heap.size [] V) := ⟨Nat.le_refl _, none, .slice none 0 0, gV, .inl rfl, own_z _ _ _ _⟩
  have HBV : Hid (Below w.heap.size w V) := hbV
  clear hS hl hP hC hbV gV
  go_enter Tryz.func11, Tryz.ntmps11
  go_wp2_with fail
  try rw [hV]
  clear hV
  go_loopw [11] (fun iv wr => ∃ i : Nat, iv = .int .i64 (i : Int) ∧ i ≤ ds.length ∧ Hid (Bd.PageAt w.heap.size w.heap.size (txt ((ds.take i).map lnT)) wr ∧ Below w.heap.size w wr ∧ ∀ d ∈ ds.take i, parseP (lnT d) = (d, 0))) (fun iv _ => ds.length - (intOf iv).toNat)
  case atStart => exact ⟨0, rfl, Nat.zero_le _, HPg.out, HBV.out, fun d hd => absurd hd List.not_mem_nil⟩
  case round =>
    obtain ⟨i, rfl, hi, HR⟩ := hrel
    by_cases hin : i < ds.length
    · have hiI : (i : Int) < (ds.length : Int) := by omega
      obtain ⟨a0, c0, e0, _, hC⟩ := HS.out.below (HR.out.2.1)
      obtain ⟨rfl, _, rfl⟩ : a = a0 ∧ ds.length = ds.length ∧ c = c0 := by simpa using e0
      obtain ⟨g, off, vo, vp, vl, vi, rfl, hgl, hsl, hce⟩ := hC i hin
      have htk := txt_take ds i hin
      have htl := tot_le ds i hin
      have HPr := HP.out ds[i] (List.getElem_mem hin)
      have hsp : ds = ds.take i ++ ds[i] :: ds.drop (i + 1) := by rw [← List.drop_eq_getElem_cons hin, List.take_append_drop]
      have htn : ds.take (i + 1) = ds.take i ++ [ds[i]] := List.take_succ_eq_append_getElem hin
      obtain ⟨d, hd⟩ : ∃ d, ds[i] = d := ⟨_, rfl⟩
      rw [hd] at hsl hce htk htl HPr hsp htn
      have HSp : Hid (ds = ds.take i ++ d :: ds.drop (i + 1)) := hsp
      have HTn : Hid (ds.take (i + 1) = ds.take i ++ [d]) := htn
      obtain ⟨oa, oc, rfl, _, _⟩ := id hsl.o
      obtain ⟨pa, pc, rfl, _, _⟩ := id hsl.p
      obtain ⟨la, lc, rfl, _, _⟩ := id hsl.l
      obtain ⟨ia, ic, rfl, _, _⟩ := id hsl.i
      have q0 : wr.cell? ⟨g, off + i * 10, none⟩ = some (.int .i64 d.k) := hce 0 (by omega)
      have q1 : wr.cell? ⟨g, off + i * 10 + 1, none⟩ = some (.string (txtOf d.n)) := hce 1 (by omega)
      have q2 : wr.cell? ⟨g, off + i * 10 + 2, none⟩ = some (.slice oa d.ops.length oc) := hce 2 (by omega)
      have q3 : wr.cell? ⟨g, off + i * 10 + 3, none⟩ = some (.slice pa d.pcs.length pc) := hce 3 (by omega)
      have q4 : wr.cell? ⟨g, off + i * 10 + 4, none⟩ = some (.string (txtOf d.deg)) := hce 4 (by omega)
      have q5 : wr.cell? ⟨g, off + i * 10 + 5, none⟩ = some (.slice la d.lits.length lc) := hce 5 (by omega)
      have q6 : wr.cell? ⟨g, off + i * 10 + 6, none⟩ = some (.slice ia d.ids.length ic) := hce 6 (by omega)
      have q7 : wr.cell? ⟨g, off + i * 10 + 7, none⟩ = some (.int .i64 d.ends) := hce 7 (by omega)
      have q8 : wr.cell? ⟨g, off + i * 10 + 8, none⟩ = some (.string (txtOf d.low)) := hce 8 (by omega)
      have q9 : wr.cell? ⟨g, off + i * 10 + 9, none⟩ = some (.string (txtOf d.high)) := hce 9 (by omega)
      obtain ⟨X, hX⟩ : ∃ X, wr.alloc (.cells #[.int .i64 d.k, .string (txtOf d.n), .slice oa d.ops.length oc, .slice pa d.pcs.length pc, .string (txtOf d.deg), .slice la d.lits.length lc, .slice ia d.ids.length ic, .int .i64 d.ends, .string (txtOf d.low), .string (txtOf d.high)] 45) = X := ⟨_, rfl⟩
      have hbX : Below wr.heap.size wr X := by rw [← hX]; exact (Below.refl _ _).alloc (Nat.le_refl _) _
      have gX : X.heap[wr.heap.size]? = some (.cells #[.int .i64 d.k, .string (txtOf d.n), .slice oa d.ops.length oc, .slice pa d.pcs.length pc, .string (txtOf d.deg), .slice la d.lits.length lc, .slice ia d.ids.length ic, .int .i64 d.ends, .string (txtOf d.low), .string (txtOf d.high)] 45 (0, 0)) := by rw [← hX]; exact heap_alloc_new wr _
      have HBX : Hid (Below w.heap.size w X) := HR.out.2.1.trans (hbX.mono HR.out.2.1.size)
      have HPX : Hid (Bd.PageAt w.heap.size w.heap.size (txt ((ds.take i).map lnT)) X) := Bd.page_below HR.out.1 hbX
      have HPc : Hid (Calls Tryz.prog 13 #[.agg #[.int .i64 d.k, .string (txtOf d.n), .slice oa d.ops.length oc, .slice pa d.pcs.length pc, .string (txtOf d.deg), .slice la d.lits.length lc, .slice ia d.ids.length ic, .int .i64 d.ends, .string (txtOf d.low), .string (txtOf d.high)]] X (PrO d X)) := HPr X _ _ _ _ HBX.out (hsl.below hbX)
      have e0 : X.cell? ⟨wr.heap.size, 0, none⟩ = some (.int .i64 d.k) := cell_of gX 0
      have e1 : X.cell? ⟨wr.heap.size, 1, none⟩ = some (.string (txtOf d.n)) := cell_of gX 1
      have e2 : X.cell? ⟨wr.heap.size, 2, none⟩ = some (.slice oa d.ops.length oc) := cell_of gX 2
      have e3 : X.cell? ⟨wr.heap.size, 3, none⟩ = some (.slice pa d.pcs.length pc) := cell_of gX 3
      have e4 : X.cell? ⟨wr.heap.size, 4, none⟩ = some (.string (txtOf d.deg)) := cell_of gX 4
      have e5 : X.cell? ⟨wr.heap.size, 5, none⟩ = some (.slice la d.lits.length lc) := cell_of gX 5
      have e6 : X.cell? ⟨wr.heap.size, 6, none⟩ = some (.slice ia d.ids.length ic) := cell_of gX 6
      have e7 : X.cell? ⟨wr.heap.size, 7, none⟩ = some (.int .i64 d.ends) := cell_of gX 7
      have e8 : X.cell? ⟨wr.heap.size, 8, none⟩ = some (.string (txtOf d.low)) := cell_of gX 8
      have e9 : X.cell? ⟨wr.heap.size, 9, none⟩ = some (.string (txtOf d.high)) := cell_of gX 9
      have HTk : Hid (txt ((ds.take (i + 1)).map lnT) = txt ((ds.take i).map lnT) ++ lnT d ++ [10]) := htk
      have HTl : Hid ((txt ((ds.take i).map lnT)).length + (lnT d).length + 1 ≤ 900000000) := Nat.le_trans htl HL.out
      clear hce hsl HPr hbX gX htk htl hsp htn hC hd hgl
      unfold PrO at HPc
      by_cases hok : parseP (lnT d) = (d, 0)
      · have HOk : Hid (parseP (lnT d) = (d, 0)) := hok
        rw [prT_yes hok] at HPc
        clear hok
        obtain ⟨y, hy⟩ : ∃ y, lnT d = y := ⟨_, rfl⟩
        rw [hy] at HPc HTk HTl
        obtain ⟨m, hm⟩ : ∃ m, txt ((ds.take i).map lnT) = m := ⟨_, rfl⟩
        rw [hm] at HTk HTl HPX
        go_wp2_with fail
        refine calls_at HPc.out (by with_reducible rfl) (by with_reducible rfl) ?_
        rintro e w1 ⟨rfl, hb1⟩
        have HB1 : Hid (Below w.heap.size w w1) := HBX.out.trans (hb1.mono HBX.out.size)
        have HP1 : Hid (Bd.PageAt w.heap.size w.heap.size m w1) := Bd.page_below HPX.out hb1
        clear hb1 e0 e1 e2 e3 e4 e5 e6 e7 e8 e9 hX
        have HWs : Hid (Calls Tryz.prog 37 #[.pointer (some ⟨w.heap.size, 0, none⟩), .string (txtOf y)] w1 fun e w' => e = .returned (.tuple #[.int .i64 ((txtOf y).size : Int), .nilIface]) ∧ Bd.PageAt w.heap.size w.heap.size (m ++ y) w' ∧ Bd.Kq w.heap.size w1 w') := by
          have h := Bd.writeString_any w.heap.size w.heap.size m (txtOf y) w1 HP1.out (by rw [txt_size]; have := HTl.out; omega) HB1.out.size
          rw [txt_list] at h
          exact h
        go_wp2_with fail
        refine calls_at HWs.out (by with_reducible rfl) (by with_reducible rfl) ?_
        rintro e w2 ⟨rfl, hp2, hk2⟩
        have HB2 : Hid (Below w.heap.size w w2) := HB1.out.trans hk2.low
        have HWb : Hid (Calls Tryz.prog 38 #[.pointer (some ⟨w.heap.size, 0, none⟩), .int .u8 10] w2 fun e w' => e = .returned .nilIface ∧ Bd.PageAt w.heap.size w.heap.size (m ++ y ++ [10]) w' ∧ Bd.Kq w.heap.size w2 w') := Bd.writeByte_any w.heap.size w.heap.size (m ++ y) 10 10 rfl w2 hp2 (by rw [List.length_append]; have := HTl.out; omega) HB2.out.size
        clear hp2 hk2 HWs
        go_wp2_with fail
        refine calls_at HWb.out (by with_reducible rfl) (by with_reducible rfl) ?_
        rintro e w3 ⟨rfl, hp3, hk3⟩
        have H3 : Hid (Bd.PageAt w.heap.size w.heap.size (txt ((ds.take (i + 1)).map lnT)) w3 ∧ Below w.heap.size w w3 ∧ ∀ d ∈ ds.take (i + 1), parseP (lnT d) = (d, 0)) := by
          refine ⟨by rw [HTk.out]; exact hp3, HB2.out.trans hk3.low, fun x hx => ?_⟩
          rw [HTn.out] at hx
          rcases List.mem_append.1 hx with hx | hx
          · exact HR.out.2.2 x hx
          · have : x = d := by simpa using hx
            rw [this]
            exact HOk.out
        clear hp3 hk3 HWb
        go_wp2_with fail
        go_roundw
        case rel => exact ⟨i + 1, by go_num, hin, H3⟩
        case measure => simp [intOf]; omega
      · have HNo : Hid (parseP (lnT d) ≠ (d, 0)) := hok
        rw [prT_no hok] at HPc
        clear hok
        go_wp2_with fail
        refine calls_at HPc.out (by with_reducible rfl) (by with_reducible rfl) ?_
        rintro e w1 ⟨rfl, hb1⟩
        have HB1 : Hid (Below w.heap.size w w1) := HBX.out.trans (hb1.mono HBX.out.size)
        clear hb1 e0 e1 e2 e3 e4 e5 e6 e7 e8 e9 hX
        have hwr : wrap64 ((i : Int) + 1) = (i : Int) + 1 := by unfold wrap64; omega
        have HFt : Hid (∀ W, Calls Tryz.prog 36 #[.int .i64 ((i : Int) + 1), .int .i64 83] W fun e w' => e = .returned (.iface 95 (.pointer (some ⟨W.heap.size, 0, none⟩))) ∧ w' = W.alloc (.cells #[.int .i64 2, .int .i64 ((i : Int) + 1), .int .i64 83] 98)) := fault_any _ _
        go_wp2_with fail
        refine calls_at (HFt.out w1) (by with_reducible rfl) (by with_reducible rfl) ?_
        rintro e w2 ⟨rfl, hw2⟩
        have hb2 : Below w1.heap.size w1 w2 := by rw [hw2]; exact (Below.refl _ _).alloc (Nat.le_refl _) _
        have g2 : w2.heap[w1.heap.size]? = some (.cells #[.int .i64 2, .int .i64 ((i : Int) + 1), .int .i64 83] 98 (0, 0)) := by rw [hw2]; exact heap_alloc_new w1 _
        have hpl : (ds.take i).length = i := by rw [List.length_take]; omega
        clear hw2
        go_wp2_with fail
        go_ret2
        refine ⟨HB1.out.trans (hb2.mono HB1.out.size), .inr ⟨ds.take i, d, ds.drop (i + 1), w1.heap.size, HSp.out, HR.out.2.2, HNo.out, rfl, ?_⟩⟩
        rw [hpl]
        exact g2
    · have hiI : ¬ (i : Int) < (ds.length : Int) := by omega
      have hti : ds.take i = ds := List.take_of_length_le (by omega)
      have HR' : Hid (Bd.PageAt w.heap.size w.heap.size (txt (ds.map lnT)) wr ∧ Below w.heap.size w wr ∧ ∀ d ∈ ds, parseP (lnT d) = (d, 0)) := by
        have := HR.out
        rw [hti] at this
        exact this
      have HSt : Hid (Calls Tryz.prog 39 #[.pointer (some ⟨w.heap.size, 0, none⟩)] wr fun e w' => e = .returned (.string (txtOf (txt (ds.map lnT)))) ∧ Below w.heap.size wr w') := by
        by_cases h0 : txt (ds.map lnT) = []
        · have h1 := HR'.out.1
          rw [h0] at h1 ⊢
          exact Bd.string_none _ _ wr h1
        · exact Bd.string_any _ _ _ wr HR'.out.1 h0
      clear hti
      go_wp2_with fail
      refine calls_at HSt.out (by with_reducible rfl) (by with_reducible rfl) ?_
      rintro e w1 ⟨rfl, hb1⟩
      go_wp2_with fail
      go_ret2
      exact ⟨HR'.out.2.1.trans hb1, .inl ⟨rfl, HR'.out.2.2⟩⟩
end Go.Proofs.YtibbnijicdijnaaGreatDoor

namespace Go.Proofs.YtibbnijicdijnaaGreatDoor
open Go.RowKit

set_option maxRecDepth 10000 in
set_option maxHeartbeats 2000000 in
theorem ssts_eq (ds : List SL) (v v2 : Value) (w : World) (h1 : StsR w v ds) (h2 : StsR w v2 ds) : Calls Tryz.prog 17 #[v, v2] w fun e w' => e = .returned (.bool true) ∧ Below w.heap.size w w' := by
  obtain ⟨a, c, rfl, hn, _⟩ := id h1
  obtain ⟨a2, c2, rfl, _, _⟩ := id h2
  have H1 : Hid (StsR w (.slice a ds.length c) ds) := h1
  have H2 : Hid (StsR w (.slice a2 ds.length c2) ds) := h2
  clear h1 h2
  go_enter Tryz.func17, Tryz.ntmps17
  go_wp2_with fail
  go_loopw [5] (fun iv wr => ∃ i : Nat, iv = .int .i64 (i : Int) ∧ i ≤ ds.length ∧ Hid (Below w.heap.size w wr)) (fun iv _ => ds.length - (intOf iv).toNat)
  case atStart => exact ⟨0, rfl, Nat.zero_le _, Below.refl _ _⟩
  case round =>
    obtain ⟨i, rfl, hi, HB⟩ := hrel
    by_cases hin : i < ds.length
    · have hiI : (i : Int) < (ds.length : Int) := by omega
      obtain ⟨a0, c0, e0, _, hC⟩ := H1.out.below HB.out
      obtain ⟨rfl, _, rfl⟩ : a = a0 ∧ ds.length = ds.length ∧ c = c0 := by simpa using e0
      obtain ⟨a0, c0, e0, _, hC2⟩ := H2.out.below HB.out
      obtain ⟨rfl, _, rfl⟩ : a2 = a0 ∧ ds.length = ds.length ∧ c2 = c0 := by simpa using e0
      obtain ⟨g, off, vo, vp, vl, vi, rfl, hgl, hsl, hce⟩ := hC i hin
      obtain ⟨g2, off2, vo, vp, vl, vi, rfl, hgl2, hsl2, hce2⟩ := hC2 i hin
      obtain ⟨d, hd⟩ : ∃ d, ds[i] = d := ⟨_, rfl⟩
      rw [hd] at hsl hce hsl2 hce2
      obtain ⟨oa, oc, rfl, _, _⟩ := id hsl.o
      obtain ⟨pa, pc, rfl, _, _⟩ := id hsl.p
      obtain ⟨la, lc, rfl, _, _⟩ := id hsl.l
      obtain ⟨ia, ic, rfl, _, _⟩ := id hsl.i
      obtain ⟨oa2, oc2, rfl, _, _⟩ := id hsl2.o
      obtain ⟨pa2, pc2, rfl, _, _⟩ := id hsl2.p
      obtain ⟨la2, lc2, rfl, _, _⟩ := id hsl2.l
      obtain ⟨ia2, ic2, rfl, _, _⟩ := id hsl2.i
      have HH : Hid (∀ w', Below wr.drew.heap.size wr.drew w' → (w'.cell? ⟨g, off + i * 10, none⟩ = some (.int .i64 d.k) ∧ w'.cell? ⟨g, off + i * 10 + 1, none⟩ = some (.string (txtOf d.n)) ∧ w'.cell? ⟨g, off + i * 10 + 2, none⟩ = some (.slice oa d.ops.length oc) ∧ w'.cell? ⟨g, off + i * 10 + 3, none⟩ = some (.slice pa d.pcs.length pc) ∧ w'.cell? ⟨g, off + i * 10 + 4, none⟩ = some (.string (txtOf d.deg)) ∧ w'.cell? ⟨g, off + i * 10 + 5, none⟩ = some (.slice la d.lits.length lc) ∧ w'.cell? ⟨g, off + i * 10 + 6, none⟩ = some (.slice ia d.ids.length ic) ∧ w'.cell? ⟨g, off + i * 10 + 7, none⟩ = some (.int .i64 d.ends) ∧ w'.cell? ⟨g, off + i * 10 + 8, none⟩ = some (.string (txtOf d.low)) ∧ w'.cell? ⟨g, off + i * 10 + 9, none⟩ = some (.string (txtOf d.high))) ∧ (w'.cell? ⟨g2, off2 + i * 10, none⟩ = some (.int .i64 d.k) ∧ w'.cell? ⟨g2, off2 + i * 10 + 1, none⟩ = some (.string (txtOf d.n)) ∧ w'.cell? ⟨g2, off2 + i * 10 + 2, none⟩ = some (.slice oa2 d.ops.length oc2) ∧ w'.cell? ⟨g2, off2 + i * 10 + 3, none⟩ = some (.slice pa2 d.pcs.length pc2) ∧ w'.cell? ⟨g2, off2 + i * 10 + 4, none⟩ = some (.string (txtOf d.deg)) ∧ w'.cell? ⟨g2, off2 + i * 10 + 5, none⟩ = some (.slice la2 d.lits.length lc2) ∧ w'.cell? ⟨g2, off2 + i * 10 + 6, none⟩ = some (.slice ia2 d.ids.length ic2) ∧ w'.cell? ⟨g2, off2 + i * 10 + 7, none⟩ = some (.int .i64 d.ends) ∧ w'.cell? ⟨g2, off2 + i * 10 + 8, none⟩ = some (.string (txtOf d.low)) ∧ w'.cell? ⟨g2, off2 + i * 10 + 9, none⟩ = some (.string (txtOf d.high)))) := fun w' hb => by
        have k1 := fun j hj => (hb.cell (p := ⟨g, off + i * 10 + j, none⟩) hgl).trans (hce j hj)
        have k2 := fun j hj => (hb.cell (p := ⟨g2, off2 + i * 10 + j, none⟩) hgl2).trans (hce2 j hj)
        exact ⟨⟨k1 0 (by omega), k1 1 (by omega), k1 2 (by omega), k1 3 (by omega), k1 4 (by omega), k1 5 (by omega), k1 6 (by omega), k1 7 (by omega), k1 8 (by omega), k1 9 (by omega)⟩, k2 0 (by omega), k2 1 (by omega), k2 2 (by omega), k2 3 (by omega), k2 4 (by omega), k2 5 (by omega), k2 6 (by omega), k2 7 (by omega), k2 8 (by omega), k2 9 (by omega)⟩
      have HSm : Hid (Calls Tryz.prog 19 #[.agg #[.int .i64 d.k, .string (txtOf d.n), .slice oa d.ops.length oc, .slice pa d.pcs.length pc, .string (txtOf d.deg), .slice la d.lits.length lc, .slice ia d.ids.length ic, .int .i64 d.ends, .string (txtOf d.low), .string (txtOf d.high)], .agg #[.int .i64 d.k, .string (txtOf d.n), .slice oa2 d.ops.length oc2, .slice pa2 d.pcs.length pc2, .string (txtOf d.deg), .slice la2 d.lits.length lc2, .slice ia2 d.ids.length ic2, .int .i64 d.ends, .string (txtOf d.low), .string (txtOf d.high)]] wr.drew fun e w' => e = .returned (.bool true) ∧ Below wr.drew.heap.size wr.drew w') := same_eq d _ _ _ _ _ _ _ _ wr.drew (hsl.below (Below.refl _ _).drew) (hsl2.below (Below.refl _ _).drew)
      have HBd : Hid (Below w.heap.size w wr.drew) := HB.out.drew
      clear hce hce2 hsl hsl2 hC hC2 hd hgl hgl2
      go_wp2_with fail
      refine wp_region_T (fun w' => (w'.cell? ⟨g, off + i * 10, none⟩ = some (.int .i64 d.k) ∧ w'.cell? ⟨g, off + i * 10 + 1, none⟩ = some (.string (txtOf d.n)) ∧ w'.cell? ⟨g, off + i * 10 + 2, none⟩ = some (.slice oa d.ops.length oc) ∧ w'.cell? ⟨g, off + i * 10 + 3, none⟩ = some (.slice pa d.pcs.length pc) ∧ w'.cell? ⟨g, off + i * 10 + 4, none⟩ = some (.string (txtOf d.deg)) ∧ w'.cell? ⟨g, off + i * 10 + 5, none⟩ = some (.slice la d.lits.length lc) ∧ w'.cell? ⟨g, off + i * 10 + 6, none⟩ = some (.slice ia d.ids.length ic) ∧ w'.cell? ⟨g, off + i * 10 + 7, none⟩ = some (.int .i64 d.ends) ∧ w'.cell? ⟨g, off + i * 10 + 8, none⟩ = some (.string (txtOf d.low)) ∧ w'.cell? ⟨g, off + i * 10 + 9, none⟩ = some (.string (txtOf d.high))) ∧ (w'.cell? ⟨g2, off2 + i * 10, none⟩ = some (.int .i64 d.k) ∧ w'.cell? ⟨g2, off2 + i * 10 + 1, none⟩ = some (.string (txtOf d.n)) ∧ w'.cell? ⟨g2, off2 + i * 10 + 2, none⟩ = some (.slice oa2 d.ops.length oc2) ∧ w'.cell? ⟨g2, off2 + i * 10 + 3, none⟩ = some (.slice pa2 d.pcs.length pc2) ∧ w'.cell? ⟨g2, off2 + i * 10 + 4, none⟩ = some (.string (txtOf d.deg)) ∧ w'.cell? ⟨g2, off2 + i * 10 + 5, none⟩ = some (.slice la2 d.lits.length lc2) ∧ w'.cell? ⟨g2, off2 + i * 10 + 6, none⟩ = some (.slice ia2 d.ids.length ic2) ∧ w'.cell? ⟨g2, off2 + i * 10 + 7, none⟩ = some (.int .i64 d.ends) ∧ w'.cell? ⟨g2, off2 + i * 10 + 8, none⟩ = some (.string (txtOf d.low)) ∧ w'.cell? ⟨g2, off2 + i * 10 + 9, none⟩ = some (.string (txtOf d.high)))) (fun _ => True) [] (by kernel_rfl) ⟨HH.out _ (Below.refl _ _), trivial⟩ (fun hHeld => ?_)
      generalize wr.drew = U at hHeld HH HSm HBd ⊢
      refine wpAnyT_takeB (i := 0) (oi := ⟨some 17, .move (.tmp 0), _, _, _, _⟩) (v := ?va0) rfl (by kernel_rfl) (by kernel_rfl) (by kernel_rfl) (by kernel_rfl) (fun _ _ _ h => h) (Or.inl ⟨by rfl, ?hya0⟩) (by assumption) ?resta0
      case hya0 => (intro w hSw; (try dsimp only at hSw); obtain ⟨⟨s0, s1, s2, s3, s4, s5, s6, s7, s8, s9⟩, r0, r1, r2, r3, r4, r5, r6, r7, r8, r9⟩ := hSw; go_simp; try (first | (with_reducible rfl) | exact (wrap_id (by omega) (by omega)).symm))
      try simp only [Act.put, List.setIfInBounds_toArray, List.set_cons_zero, List.set_cons_succ]
      refine wpAnyT_takeB (i := 1) (oi := ⟨some 18, .move (.tmp 5), _, _, _, _⟩) (v := ?va1) rfl (by kernel_rfl) (by kernel_rfl) (by kernel_rfl) (by kernel_rfl) (fun _ _ _ h => h) (Or.inl ⟨by rfl, ?hya1⟩) (by assumption) ?resta1
      case hya1 => (intro w hSw; (try dsimp only at hSw); obtain ⟨⟨s0, s1, s2, s3, s4, s5, s6, s7, s8, s9⟩, r0, r1, r2, r3, r4, r5, r6, r7, r8, r9⟩ := hSw; go_simp; try (first | (with_reducible rfl) | exact (wrap_id (by omega) (by omega)).symm))
      try simp only [Act.put, List.setIfInBounds_toArray, List.set_cons_zero, List.set_cons_succ]
      refine wpAnyT_takeB (i := 2) (oi := ⟨some 19, .indexAddr 22 (.tmp 17) (.tmp 18), _, _, _, _⟩) (v := ?va2) rfl (by kernel_rfl) (by kernel_rfl) (by kernel_rfl) (by kernel_rfl) (fun _ _ _ h => h) (Or.inl ⟨by rfl, ?hya2⟩) (by assumption) ?resta2
      case hya2 => (intro w hSw; (try dsimp only at hSw); obtain ⟨⟨s0, s1, s2, s3, s4, s5, s6, s7, s8, s9⟩, r0, r1, r2, r3, r4, r5, r6, r7, r8, r9⟩ := hSw; go_simp; try (first | (with_reducible rfl) | exact (wrap_id (by omega) (by omega)).symm))
      try simp only [Act.put, List.setIfInBounds_toArray, List.set_cons_zero, List.set_cons_succ]
      refine wpAnyT_takeB (i := 3) (oi := ⟨some 20, .load 45 (.tmp 19), _, _, _, _⟩) (v := ?va3) rfl (by kernel_rfl) (by kernel_rfl) (by kernel_rfl) (by kernel_rfl) (fun _ _ _ h => h) (Or.inl ⟨by rfl, ?hya3⟩) (by assumption) ?resta3
      case hya3 => (intro w hSw; (try dsimp only at hSw); obtain ⟨⟨s0, s1, s2, s3, s4, s5, s6, s7, s8, s9⟩, r0, r1, r2, r3, r4, r5, r6, r7, r8, r9⟩ := hSw; go_simp; try (first | (with_reducible rfl) | exact (wrap_id (by omega) (by omega)).symm))
      try simp only [Act.put, List.setIfInBounds_toArray, List.set_cons_zero, List.set_cons_succ]
      refine wpAnyT_takeB (i := 4) (oi := ⟨some 21, .move (.tmp 1), _, _, _, _⟩) (v := ?va4) rfl (by kernel_rfl) (by kernel_rfl) (by kernel_rfl) (by kernel_rfl) (fun _ _ _ h => h) (Or.inl ⟨by rfl, ?hya4⟩) (by assumption) ?resta4
      case hya4 => (intro w hSw; (try dsimp only at hSw); obtain ⟨⟨s0, s1, s2, s3, s4, s5, s6, s7, s8, s9⟩, r0, r1, r2, r3, r4, r5, r6, r7, r8, r9⟩ := hSw; go_simp; try (first | (with_reducible rfl) | exact (wrap_id (by omega) (by omega)).symm))
      try simp only [Act.put, List.setIfInBounds_toArray, List.set_cons_zero, List.set_cons_succ]
      refine wpAnyT_takeB (i := 5) (oi := ⟨some 22, .move (.tmp 5), _, _, _, _⟩) (v := ?va5) rfl (by kernel_rfl) (by kernel_rfl) (by kernel_rfl) (by kernel_rfl) (fun _ _ _ h => h) (Or.inl ⟨by rfl, ?hya5⟩) (by assumption) ?resta5
      case hya5 => (intro w hSw; (try dsimp only at hSw); obtain ⟨⟨s0, s1, s2, s3, s4, s5, s6, s7, s8, s9⟩, r0, r1, r2, r3, r4, r5, r6, r7, r8, r9⟩ := hSw; go_simp; try (first | (with_reducible rfl) | exact (wrap_id (by omega) (by omega)).symm))
      try simp only [Act.put, List.setIfInBounds_toArray, List.set_cons_zero, List.set_cons_succ]
      refine wpAnyT_takeB (i := 6) (oi := ⟨some 23, .indexAddr 22 (.tmp 21) (.tmp 22), _, _, _, _⟩) (v := ?va6) rfl (by kernel_rfl) (by kernel_rfl) (by kernel_rfl) (by kernel_rfl) (fun _ _ _ h => h) (Or.inl ⟨by rfl, ?hya6⟩) (by assumption) ?resta6
      case hya6 => (intro w hSw; (try dsimp only at hSw); obtain ⟨⟨s0, s1, s2, s3, s4, s5, s6, s7, s8, s9⟩, r0, r1, r2, r3, r4, r5, r6, r7, r8, r9⟩ := hSw; go_simp; try (first | (with_reducible rfl) | exact (wrap_id (by omega) (by omega)).symm))
      try simp only [Act.put, List.setIfInBounds_toArray, List.set_cons_zero, List.set_cons_succ]
      refine wpAnyT_takeB (i := 7) (oi := ⟨some 24, .load 45 (.tmp 23), _, _, _, _⟩) (v := ?va7) rfl (by kernel_rfl) (by kernel_rfl) (by kernel_rfl) (by kernel_rfl) (fun _ _ _ h => h) (Or.inl ⟨by rfl, ?hya7⟩) (by assumption) ?resta7
      case hya7 => (intro w hSw; (try dsimp only at hSw); obtain ⟨⟨s0, s1, s2, s3, s4, s5, s6, s7, s8, s9⟩, r0, r1, r2, r3, r4, r5, r6, r7, r8, r9⟩ := hSw; go_simp; try (first | (with_reducible rfl) | exact (wrap_id (by omega) (by omega)).symm))
      try simp only [Act.put, List.setIfInBounds_toArray, List.set_cons_zero, List.set_cons_succ]
      refine wpAnyT_one (i := 8) (o := ⟨some 25, .call { callee := .value (.func 19), args := #[(.tmp 20), (.tmp 24)], argTypes := #[45, 45] }, _, _, _, _⟩) (by kernel_rfl) rfl (fun K hK => ?_)
      go_simp
      refine calls_at HSm.out (by with_reducible rfl) (by with_reducible rfl) ?_
      rintro e w7 ⟨rfl, hb7⟩
      have HB7 : Hid (Below U.heap.size U w7) := hb7
      clear hb7
      go_wp2_with fail
      have hHeld := (⟨HH.out _ HB7.out, trivial⟩ : _ ∧ True)
      refine hK.out _ _ ⟨hHeld.1, fun _ => trivial⟩ ?_
      clear hK K
      try simp only [Act.put, List.setIfInBounds_toArray, List.set_cons_zero, List.set_cons_succ]
      refine wpAnyT_takeB (i := 9) (oi := ⟨some 26, .unOp .not 4 (.tmp 25), _, _, _, _⟩) (v := ?vb9) rfl (by kernel_rfl) (by kernel_rfl) (by kernel_rfl) (by kernel_rfl) (fun _ _ _ h => h) (Or.inl ⟨by rfl, ?hyb9⟩) (by assumption) ?restb9
      case hyb9 => (intro w hSw; (try dsimp only at hSw); obtain ⟨⟨s0, s1, s2, s3, s4, s5, s6, s7, s8, s9⟩, r0, r1, r2, r3, r4, r5, r6, r7, r8, r9⟩ := hSw; go_simp; try (first | (with_reducible rfl) | exact (wrap_id (by omega) (by omega)).symm))
      try simp only [Act.put, List.setIfInBounds_toArray, List.set_cons_zero, List.set_cons_succ]
      refine wpAnyT_done (by kernel_rfl) ?_ _
      have HB8 : Hid (Below w.heap.size w w7) := bl_next HBd.out HB7.out
      clear hHeld HH HSm HBd HB7
      go_wp2_with fail
      go_roundw
      case rel => exact ⟨i + 1, by go_num, hin, HB8⟩
      case measure => simp [intOf]; omega
    · have hiI : ¬ (i : Int) < (ds.length : Int) := by omega
      go_wp2_with fail
      go_ret
      exact ⟨rfl, HB.out⟩
end Go.Proofs.YtibbnijicdijnaaGreatDoor

namespace Go.Proofs.YtibbnijicdijnaaGreatDoor
open Go.RowKit

theorem again_tot (xs : List (List UInt8)) (h : ∀ x ∈ xs, er x = 0) : tot ((xs.map gd).map lnT) ≤ tot xs + xs.length := by
  induction xs with
  | nil => simp [tot]
  | cons x xs ih =>
    obtain ⟨L, hL, ht⟩ := er_right (h x List.mem_cons_self)
    have h1 := hL.len ht
    have h2 := ih fun y hy => h y (List.mem_cons_of_mem _ hy)
    simp only [List.map_cons, tot_cons, List.length_cons]
    omega
theorem again_right {xs : List (List UInt8)} (h : ∀ x ∈ xs, er x = 0) : ∀ d ∈ xs.map gd, ∃ L, Rgt L d := by
  intro d hd
  obtain ⟨x, hx, rfl⟩ := List.mem_map.1 hd
  obtain ⟨L, hL, _⟩ := er_right (h x hx)
  exact ⟨L, hL⟩
theorem right_lns {ds : List SL} (h : ∀ d ∈ ds, ∃ L, Rgt L d) : lns (txt (ds.map lnT)) [] = ds.map lnT := lns_txt _ fun x hx => by
  obtain ⟨d, hd, rfl⟩ := List.mem_map.1 hx
  obtain ⟨L, hL⟩ := h d hd
  exact hL.no10
theorem right_gd {ds : List SL} (h : ∀ d ∈ ds, ∃ L, Rgt L d) : (ds.map lnT).map gd = ds ∧ ∀ x ∈ ds.map lnT, er x = 0 := by
  constructor
  · rw [List.map_map]
    conv => rhs; rw [← List.map_id ds]
    refine List.map_congr_left fun d hd => ?_
    obtain ⟨L, hL⟩ := h d hd
    show (parseP (lnT d)).1 = d
    rw [hL.parse]
  · intro x hx
    obtain ⟨d, hd, rfl⟩ := List.mem_map.1 hx
    obtain ⟨L, hL⟩ := h d hd
    show (parseP (lnT d)).2 = 0
    rw [hL.parse]
theorem tot_mem {L : List (List UInt8)} {x : List UInt8} (h : x ∈ L) : x.length + 1 ≤ tot L := by
  induction L with
  | nil => exact absurd h List.not_mem_nil
  | cons y L ih =>
    rw [tot_cons]
    rcases List.mem_cons.1 h with rfl | h
    · omega
    · have := ih h; omega
/-- Write of right steps. -/
theorem wlog_right {ds : List SL} (hr : ∀ d ∈ ds, ∃ L, Rgt L d) (ht : tot (ds.map lnT) ≤ 9000000) (v : Value) (w : World) (hS : StsR w v ds) (hg : Gl w) (h12 : 12 ≤ w.heap.size) : Calls Tryz.prog 11 #[v] w fun e w' => e = .returned (.tuple #[.string (txtOf (txt (ds.map lnT))), .nilIface]) ∧ Below w.heap.size w w' := by
  have hc : ds.length ≤ tot (ds.map lnT) := by
    clear hr ht hS
    induction ds with
    | nil => simp
    | cons d ds ih => simp only [List.map_cons, tot_cons, List.length_cons]; omega
  refine (wlog_any ds v w hS (by omega) (by omega) fun d hd w' vo vp vl vi hb hs => ?_).mono fun e w' hq => ?_
  · obtain ⟨L, hL⟩ := hr d hd
    have := tot_mem (List.mem_map_of_mem (f := lnT) hd)
    exact print_right hL (by omega) vo vp vl vi w' hs (hg.to hb h12) (Nat.le_trans h12 hb.size)
  · obtain ⟨h1, h2⟩ := hq
    rcases h2 with ⟨rfl, _⟩ | ⟨pre, d, post, f, e1, _, e3, _⟩
    · exact ⟨rfl, h1⟩
    · obtain ⟨L, hL⟩ := hr d (by rw [e1]; simp)
      exact absurd hL.parse e3
/-- Read of right lines. -/
theorem read_right_log {ds : List SL} (hr : ∀ d ∈ ds, ∃ L, Rgt L d) (ht : tot (ds.map lnT) ≤ 9000000) (w : World) (hg : Gl w) (h12 : 12 ≤ w.heap.size) : Calls Tryz.prog 15 #[.string (txtOf (txt (ds.map lnT)))] w fun e w' => ∃ a c, e = .returned (.tuple #[.slice a ds.length c, .nilIface]) ∧ StsR w' (.slice a ds.length c) ds ∧ Below w.heap.size w w' := by
  refine (read_log (txtOf (txt (ds.map lnT))) w (by rw [txt_size, txt_len]; exact ht) hg h12).mono fun e w' hq => ?_
  rw [txt_list, right_lns hr] at hq
  obtain ⟨g1, g2⟩ := right_gd hr
  rcases hq with ⟨v, rfl, h1, _, h3⟩ | ⟨u, pre, x, post, h1, _, h3⟩
  · rw [g1] at h1
    obtain ⟨a, c, rfl, _⟩ := id h1.r
    exact ⟨a, c, rfl, h1.r, h3⟩
  · obtain ⟨pre', x', f, k1, _, k3, _⟩ := h3
    have := g2 x' (by
      rw [h1]
      have : x' ∈ pre ++ [x] := by rw [k1]; simp
      rcases List.mem_append.1 this with h | h
      · exact List.mem_append_left _ h
      · simp at h; rw [h]; simp)
    exact absurd this k3

set_option maxRecDepth 20000 in
set_option maxHeartbeats 4000000 in
theorem again_any (s : ByteArray) (w : World) (hg : Gl w) (h12 : 12 ≤ w.heap.size) : Calls Tryz.prog 4 #[.string s] w fun e w' => e = .returned (.bool true) ∧ Below w.heap.size w w' := by
  have HKn : Hid (Calls Tryz.prog 7 #[] w fun e w' => e = .returned (.bool true) ∧ Below w.heap.size w w') := known_any w hg h12
  have HG : Hid (∀ w', Below w.heap.size w w' → Gl w' ∧ 12 ≤ w'.heap.size) := fun w' hb => ⟨hg.to hb h12, Nat.le_trans h12 hb.size⟩
  clear hg h12
  go_enter Tryz.func4, Tryz.ntmps4
  go_wp2_with fail
  refine calls_at HKn.out (by with_reducible rfl) (by with_reducible rfl) ?_
  rintro e w0 ⟨rfl, hb0⟩
  have HB0 : Hid (Below w.heap.size w w0) := hb0
  clear hb0 HKn
  by_cases hs : s.size ≤ 400000
  · have hsI : ¬ (400000 : Int) < (s.size : Int) := by omega
    obtain ⟨xs, hxs⟩ : ∃ xs, lns s.data.toList [] = xs := ⟨_, rfl⟩
    have HRd : Hid (Calls Tryz.prog 15 #[.string s] w0 (ReOut xs w0)) := by rw [← hxs]; exact read_log s w0 (by omega) (HG.out w0 HB0.out).1 (HG.out w0 HB0.out).2
    have HLn : Hid (∀ w', Calls Tryz.prog 16 #[.string s] w' fun e w2 => ∃ a c, e = .returned (.slice a xs.length c) ∧ Below w'.heap.size w' w2) := fun w' => by
      refine (progLines_any s w' (by omega)).mono fun e w2 hq => ?_
      obtain ⟨v, q1, q2, q3⟩ := hq
      rw [hxs] at q2
      obtain ⟨a, c, rfl⟩ := own_slice q2
      exact ⟨a, c, q1, q3⟩
    have HXt : Hid (tot xs + xs.length ≤ 9000000) := by
      have h1 := lns_tot s.data.toList []
      have h2 := lns_count s.data.toList []
      have h' := hs
      rw [Lib.size_eq] at h'
      rw [hxs] at h1 h2
      show _ ≤ _
      simp at h1 h2 h'
      omega
    clear hxs
    go_wp2_with fail
    refine calls_at HRd.out (by with_reducible rfl) (by with_reducible rfl) ?_
    rintro e w1 hq
    clear HRd
    rcases hq with ⟨v, rfl, hA⟩ | ⟨u, pre, x0, post, hxe, rfl, hN⟩
    · have hR := hA.1.r
      have HB1 : Hid (Below w.heap.size w w1) := bl_next HB0.out hA.2.2
      have hrt := again_right hA.2.1
      have htt : tot ((xs.map gd).map lnT) ≤ 9000000 := Nat.le_trans (again_tot xs hA.2.1) HXt.out
      have hdl : (xs.map gd).length = xs.length := by simp
      obtain ⟨ds, hds⟩ : ∃ ds, xs.map gd = ds := ⟨_, rfl⟩
      rw [hds] at hR hrt htt hdl
      obtain ⟨va, vc, rfl, _⟩ := id hR
      rw [← hdl] at HLn
      have HR : Hid (∀ w', Below w1.heap.size w1 w' → StsR w' (.slice va ds.length vc) ds) := fun w' hb => hR.below hb
      have HW : Hid (∀ a c w', Below w.heap.size w w' → StsR w' (.slice a ds.length c) ds → Calls Tryz.prog 11 #[.slice a ds.length c] w' fun e w2 => e = .returned (.tuple #[.string (txtOf (txt (ds.map lnT))), .nilIface]) ∧ Below w'.heap.size w' w2) := fun a c w' hb hS => wlog_right hrt htt _ w' hS (HG.out w' hb).1 (HG.out w' hb).2
      have HRd : Hid (∀ w', Below w.heap.size w w' → Calls Tryz.prog 15 #[.string (txtOf (txt (ds.map lnT)))] w' fun e w2 => ∃ a c, e = .returned (.tuple #[.slice a ds.length c, .nilIface]) ∧ StsR w2 (.slice a ds.length c) ds ∧ Below w'.heap.size w' w2) := fun w' hb => read_right_log hrt htt w' (HG.out w' hb).1 (HG.out w' hb).2
      have hq := txt_beq (txt (ds.map lnT)) (txt (ds.map lnT))
      rw [decide_eq_true rfl] at hq
      obtain ⟨y, hy⟩ : ∃ y, txtOf (txt (ds.map lnT)) = y := ⟨_, rfl⟩
      rw [hy] at HW HRd hq
      clear hA hR hrt htt hds hy hdl
      have HW1 : Hid (Calls Tryz.prog 11 #[.slice va ds.length vc] w1 fun e w2 => e = .returned (.tuple #[.string y, .nilIface]) ∧ Below w1.heap.size w1 w2) := HW.out va vc w1 HB1.out (HR.out w1 (Below.refl _ _))
      go_wp2_with fail
      refine calls_at HW1.out (by with_reducible rfl) (by with_reducible rfl) ?_
      rintro e w2 ⟨rfl, hb2⟩
      have HB2 : Hid (Below w1.heap.size w1 w2) := hb2
      clear hb2 HW1
      have HR2 : Hid (Calls Tryz.prog 15 #[.string y] w2 fun e w3 => ∃ a c, e = .returned (.tuple #[.slice a ds.length c, .nilIface]) ∧ StsR w3 (.slice a ds.length c) ds ∧ Below w2.heap.size w2 w3) := HRd.out w2 (bl_next HB1.out HB2.out)
      go_wp2_with fail
      refine calls_at HR2.out (by with_reducible rfl) (by with_reducible rfl) ?_
      rintro e w3 ⟨a3, c3, rfl, hr3, hb3⟩
      have HR3 : Hid (StsR w3 (.slice a3 ds.length c3) ds) := hr3
      have HB3 : Hid (Below w1.heap.size w1 w3) := bl_next HB2.out hb3
      clear hr3 hb3 HR2
      have HW3 : Hid (Calls Tryz.prog 11 #[.slice a3 ds.length c3] w3 fun e w2 => e = .returned (.tuple #[.string y, .nilIface]) ∧ Below w3.heap.size w3 w2) := HW.out a3 c3 w3 (bl_next HB1.out HB3.out) HR3.out
      go_wp2_with fail
      refine calls_at HW3.out (by with_reducible rfl) (by with_reducible rfl) ?_
      rintro e w4 ⟨rfl, hb4⟩
      have HB4 : Hid (Below w1.heap.size w1 w4) := bl_next HB3.out hb4
      have HS4 : Hid (Calls Tryz.prog 17 #[.slice a3 ds.length c3, .slice va ds.length vc] w4 fun e w' => e = .returned (.bool true) ∧ Below w4.heap.size w4 w') := ssts_eq ds _ _ w4 (HR3.out.below hb4) (HR.out w4 HB4.out)
      clear hb4 HW3
      go_wp2_with fail
      refine calls_at HS4.out (by with_reducible rfl) (by with_reducible rfl) ?_
      rintro e w5 ⟨rfl, hb5⟩
      have HB5 : Hid (Below w1.heap.size w1 w5) := bl_next HB4.out hb5
      clear hb5 HS4
      have HL5 : Hid (Calls Tryz.prog 16 #[.string s] w5 fun e w2 => ∃ a c, e = .returned (.slice a ds.length c) ∧ Below w5.heap.size w5 w2) := HLn.out w5
      go_wp2_with fail
      refine calls_at HL5.out (by with_reducible rfl) (by with_reducible rfl) ?_
      rintro e w6 ⟨a6, c6, rfl, hb6⟩
      have HB6 : Hid (Below w.heap.size w w6) := bl_next (bl_next HB1.out HB5.out) hb6
      clear hb6 HL5
      go_wp2_with fail
      go_ret
      exact ⟨rfl, HB6.out⟩
    · obtain ⟨_, _, f, _, _, _, rfl, _, _, hbN⟩ := hN
      have HB1 : Hid (Below w.heap.size w w1) := bl_next HB0.out hbN
      clear hbN hxe
      go_wp2_with fail
      go_ret
      exact ⟨rfl, HB1.out⟩
  · have hsI : (400000 : Int) < (s.size : Int) := by omega
    go_wp2_with fail
    go_ret
    exact ⟨rfl, HB0.out⟩
end Go.Proofs.YtibbnijicdijnaaGreatDoor

namespace Go.Proofs.YtibbnijicdijnaaGreatDoor
open Go.RowKit

structure CtAt (w : World) (b : Nat) (L : Int) : Prop where
  o : w.heap[b]? = some (.cells #[.int .i64 L] 86 (0, 0))
  le : L ≤ 200000
  ge : -9223372036854775807 ≤ L
theorem CtAt.lt {w : World} {b : Nat} {L : Int} (h : CtAt w b L) : b < w.heap.size := (Array.getElem?_eq_some_iff.1 h.o).1
theorem CtAt.below {w w' : World} {b : Nat} {L : Int} (h : CtAt w b L) (hb : Below w.heap.size w w') : CtAt w' b L := ⟨(hb.block b h.lt).trans h.o, h.le, h.ge⟩
/-- So much was taken. -/
def CtO (B b : Nat) (L : Int) (wt : Nat) (w w' : World) : Prop := ∃ L', CtAt w' b L' ∧ (0 ≤ L' → L' + (wt : Int) ≤ L) ∧ SStp B (fun k => k = b) w w'
theorem CtO.next {B b : Nat} {L L1 : Int} {u v : Nat} {w w1 w2 : World} (h1 : (0 ≤ L1 → L1 + (u : Int) ≤ L)) (h2 : SStp B (fun k => k = b) w w1) (h : CtO B b L1 v w1 w2) : CtO B b L (u + v) w w2 := by
  obtain ⟨L2, a1, a2, a3⟩ := h
  exact ⟨L2, a1, fun h0 => by have := a2 h0; have := h1 (by omega); omega, h2.trans a3⟩
theorem CtO.to {B b : Nat} {L : Int} {u v : Nat} {w w1 : World} (h : CtO B b L u w w1) (e : v ≤ u) : CtO B b L v w w1 := by
  obtain ⟨L2, a1, a2, a3⟩ := h
  exact ⟨L2, a1, fun h0 => by have := a2 h0; omega, a3⟩

def SomeB (e : Ending) : Prop := ∃ bo, e = .returned (.bool bo)
theorem many_any (w : World) : Calls Tryz.prog 8 #[.int .i64 200000] w fun e w' => e = .returned (.pointer (some ⟨w.heap.size, 0, none⟩)) ∧ w' = w.alloc (.cells #[.int .i64 200000] 86) := by
  go_enter Tryz.func8, Tryz.ntmps8
  go_wp2
  go_ret
  exact ⟨rfl, rfl⟩
theorem cok_any (b : Nat) (L : Int) (w : World) (h : CtAt w b L) : Calls Tryz.prog 10 #[.pointer (some ⟨b, 0, none⟩)] w fun e w' => e = .returned (.bool (decide (0 ≤ L))) ∧ w' = w := by
  have c0 : w.cell? ⟨b, 0, none⟩ = some (.int .i64 L) := cell_of h.o 0
  clear h
  go_enter Tryz.func10, Tryz.ntmps10
  go_wp2
  go_ret
  exact ⟨rfl, rfl⟩
theorem cadd_any {B b : Nat} (L : Int) (n : Nat) (w : World) (h : CtAt w b L) (hB : B ≤ b) (hn : n ≤ maxLen) : Calls Tryz.prog 50 #[.pointer (some ⟨b, 0, none⟩), .int .i64 (n : Int)] w fun e w' => SomeB e ∧ CtO B b L n w w' := by
  have c0 : w.cell? ⟨b, 0, none⟩ = some (.int .i64 L) := cell_of h.o 0
  have z0 := frozen_of h.o 0
  unfold maxLen at hn
  have hle := h.le
  have hge := h.ge
  have HC : Hid (CtAt w b L) := h
  clear h
  by_cases hL : 0 ≤ L
  · have hwr : wrap64 (L - (n : Int)) = L - (n : Int) := by unfold wrap64; omega
    have c1 : (w.setCell ⟨b, 0, none⟩ (.int .i64 (L - (n : Int)))).cell? ⟨b, 0, none⟩ = some (.int .i64 (L - (n : Int))) := cell_of (set_of HC.out.o 0 _) 0
    go_enter Tryz.func50, Tryz.ntmps50
    go_wp2
    go_ret
    exact ⟨⟨_, rfl⟩, L - n, ⟨set_of HC.out.o 0 _, by omega, by omega⟩, fun _ => by omega, (Below.refl _ _).setCell hB _, Off.set _ rfl⟩
  · have hLd : decide (0 ≤ L) = false := decide_eq_false hL
    go_enter Tryz.func50, Tryz.ntmps50
    go_wp2
    go_ret
    exact ⟨⟨_, rfl⟩, L, HC.out, fun h => by omega, SStp.refl _ _ _⟩
theorem ctext_any {B b : Nat} (L : Int) (s : ByteArray) (w : World) (h : CtAt w b L) (hB : B ≤ b) (hn : s.size ≤ maxLen) : Calls Tryz.prog 57 #[.pointer (some ⟨b, 0, none⟩), .string s] w fun e w' => e = .returned (.tuple #[]) ∧ CtO B b L (s.size + 1) w w' := by
  have H1 : Hid (Calls Tryz.prog 50 #[.pointer (some ⟨b, 0, none⟩), .int .i64 1] w fun e w' => SomeB e ∧ CtO B b L 1 w w') := cadd_any L 1 w h hB (by unfold maxLen; omega)
  have H2 : Hid (∀ L' w', CtAt w' b L' → Calls Tryz.prog 50 #[.pointer (some ⟨b, 0, none⟩), .int .i64 (s.size : Int)] w' fun e w2 => SomeB e ∧ CtO B b L' s.size w' w2) := fun L' w' h' => cadd_any L' s.size w' h' hB hn
  clear h hn
  go_enter Tryz.func57, Tryz.ntmps57
  go_wp2_with fail
  refine calls_at H1.out (by with_reducible rfl) (by with_reducible rfl) ?_
  rintro e w1 ⟨⟨b1, rfl⟩, L1, h1, h2, h3⟩
  have HC : Hid (CtAt w1 b L1 ∧ (0 ≤ L1 → L1 + ((1 : Nat) : Int) ≤ L) ∧ SStp B (fun k => k = b) w w1) := ⟨h1, h2, h3⟩
  clear h1 h2 h3 H1
  go_wp2_with fail
  refine calls_at (H2.out L1 w1 HC.out.1) (by with_reducible rfl) (by with_reducible rfl) ?_
  rintro e w2 ⟨⟨b2, rfl⟩, h2⟩
  have HE : Hid (CtO B b L1 s.size w1 w2) := h2
  clear h2
  go_wp2_with fail
  go_end0
  exact ⟨rfl, (CtO.next HC.out.2.1 HC.out.2.2 HE.out).to (by omega)⟩
end Go.Proofs.YtibbnijicdijnaaGreatDoor
