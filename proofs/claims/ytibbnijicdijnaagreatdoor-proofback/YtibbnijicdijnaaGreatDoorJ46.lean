/-
  Put together: PfAl, PfMg, PfWlog, PfPra.
-/
import Derived.Test.YtibbnijicdijnaaGreatDoorJ45
import Derived.Test.YtibbnijicdijnaaGreatDoorJ42
import Derived.Test.YtibbnijicdijnaaGreatDoorPfNoS
import Derived.Test.YtibbnijicdijnaaGreatDoorJ36
namespace Go.Proofs.YtibbnijicdijnaaGreatDoor
open Go.RowKit

theorem addr_plain (b j : Nat) : (⟨b, 0, none⟩ : Addr).add j = ⟨b, j, none⟩ := by
  unfold Addr.add
  by_cases h : j = 0
  · subst h; rfl
  · simp [h]
theorem own_few {w : World} {B : Nat} {e : TypeId} {m : Nat} {v : Value} {n : Nat} {xs : List Value} (h : w.ownsRow B e m v n xs) : n ≤ 9223372036854775807 := by
  rcases h.2 with ⟨_, rfl⟩ | ⟨_, cap, _, _, _, _, h1, h2, _⟩
  · omega
  · unfold maxLen at h2; omega
theorem slr_of_own {B : Nat} {w : World} {d : SL} {vo vp vl vi : Value} (h : SlOwn B w d vo vp vl vi) : SlR w d vo vp vl vi := ⟨rd_of_own h.o (own_few h.o), rd_of_own h.p (own_few h.p), rd_of_own h.l (own_few h.l), rd_of_own h.i (own_few h.i)⟩
theorem flat_get (L : List St4) (i : Nat) (hi : i < L.length) (j : Nat) (hj : j < 10) : (L.flatMap stC)[i * 10 + j]? = (stC L[i])[j]? := by
  induction L generalizing i with
  | nil => exact absurd hi (Nat.not_lt_zero _)
  | cons p L ih =>
    rw [List.flatMap_cons]
    cases i with
    | zero =>
      rw [Nat.zero_mul, Nat.zero_add, List.getElem?_append_left (by rw [stC_len]; exact hj)]
      rfl
    | succ i =>
      rw [List.getElem?_append_right (by rw [stC_len]; omega), stC_len]
      have := ih i (by simpa using hi)
      simp only [List.getElem_cons_succ]
      rw [← this]
      congr 1
      omega
/-- A step of a row. -/
theorem sts_get {B : Nat} {w : World} {a : Option Addr} {n c : Nat} {ds : List SL} (h : StsAt B w (.slice a n c) ds) (i : Nat) (hi : i < ds.length) : ∃ g vo vp vl vi, a = some ⟨g, 0, none⟩ ∧ SlR w ds[i] vo vp vl vi ∧ ∀ j, j < 10 → w.cell? ⟨g, i * 10 + j, none⟩ = (slC ds[i] vo vp vl vi)[j]? := by
  obtain ⟨L, h1, h2, h3⟩ := h
  have hL : i < L.length := by rw [← h1] at hi; simpa using hi
  have hd : ds[i] = L[i].1 := by simp [← h1]
  have hcs := fun g hg => h2.cells (g := g) hg
  rcases h2.2 with ⟨_, hz⟩ | ⟨g, cap, cur, hv, _⟩
  · omega
  · injection hv with q1 q2 q3
    subst q1
    refine ⟨g, L[i].2.1, L[i].2.2.1, L[i].2.2.2.1, L[i].2.2.2.2, rfl, ?_, fun j hj => ?_⟩
    · rw [hd]; exact slr_of_own (h3 _ (List.getElem_mem hL))
    · have hf := flat_get L i hL j hj
      rw [hd]
      have hs : (stC L[i])[j]? = (slC L[i].1 L[i].2.1 L[i].2.2.1 L[i].2.2.2.1 L[i].2.2.2.2)[j]? := by unfold stC; simp
      rw [hs] at hf
      have hlt : j < (slC L[i].1 L[i].2.1 L[i].2.2.1 L[i].2.2.2.1 L[i].2.2.2.2).size := hj
      rw [Array.getElem?_eq_getElem hlt] at hf ⊢
      have := hcs g rfl (i * 10 + j) _ hf
      rw [addr_plain] at this
      exact this
theorem RdAt.at {w : World} {a : Option Addr} {n c : Nat} {xs : List Value} (h : RdAt w (.slice a n c) n xs) (i : Nat) (hi : i < n) : ∃ g off, a = some ⟨g, off, none⟩ ∧ ∀ j u, xs[j]? = some u → w.cell? ⟨g, off + j, none⟩ = some u := by
  obtain ⟨a', c', h1, _, h3⟩ := h
  injection h1 with q1 q2 q3
  subst q1
  obtain ⟨g, off, e1, _, e3⟩ := h3 (by omega)
  exact ⟨g, off, e1, e3⟩
/-- A line that is read. -/
theorem parse_out (x : List UInt8) (hx : x.length ≤ 9000000) (w : World) (hg : Gl w) : Calls Tryz.prog 18 #[.string (txtOf x)] w fun e w' => ∃ oa oc pa pc la lc ia ic, e = .returned (.tuple #[.agg #[.int .i64 (gd x).k, .string (txtOf (gd x).n), .slice oa (gd x).ops.length oc, .slice pa (gd x).pcs.length pc, .string (txtOf (gd x).deg), .slice la (gd x).lits.length lc, .slice ia (gd x).ids.length ic, .int .i64 (gd x).ends, .string (txtOf (gd x).low), .string (txtOf (gd x).high)], .int .i64 (er x)]) ∧ SlR w' (gd x) (.slice oa (gd x).ops.length oc) (.slice pa (gd x).pcs.length pc) (.slice la (gd x).lits.length lc) (.slice ia (gd x).ids.length ic) ∧ Below w.heap.size w w' := by
  refine (parse_any8 x w hx hg).mono fun e w' hq => ?_
  obtain ⟨vo, vp, vl, vi, q1, q2, q3⟩ := hq
  have r := slr_of_own q2
  obtain ⟨oa, oc, rfl⟩ := own_slice q2.o
  obtain ⟨pa, pc, rfl⟩ := own_slice q2.p
  obtain ⟨la, lc, rfl⟩ := own_slice q2.l
  obtain ⟨ia, ic, rfl⟩ := own_slice q2.i
  exact ⟨oa, oc, pa, pc, la, lc, ia, ic, q1, r, q3⟩

end Go.Proofs.YtibbnijicdijnaaGreatDoor

namespace Go.Proofs.YtibbnijicdijnaaGreatDoor
open Go.RowKit

theorem BdC.same {f : FuncId} {M : List (List UInt8)} {d : SL} (h : BdC f M d) : d.pcs = [] ∧ d.lits = [] ∧ d.ops = [] := by
  unfold BdC at h
  split at h
  · rcases h with ⟨_, rfl⟩ | ⟨_, _, _, rfl⟩ <;> exact ⟨rfl, rfl, rfl⟩
  split at h
  · rcases h with ⟨_, _, _, _, _, rfl⟩ | ⟨_, _, _, _, _, _, _, rfl⟩ <;> exact ⟨rfl, rfl, rfl⟩
  split at h
  · obtain ⟨_, _, _, _, _, rfl⟩ := h
    exact ⟨rfl, rfl, rfl⟩
  · obtain ⟨_, rfl⟩ := h
    exact ⟨rfl, rfl, rfl⟩
theorem BdF.ints {f : FuncId} {M : List (List UInt8)} {d : SL} (h : BdF f M d) : SlI d := by
  have nil : ∀ d : SL, d.pcs = [] → d.lits = [] → d.ops = [] → SlI d := fun d h1 h2 h3 => ⟨fun x hx => by rw [h1] at hx; exact absurd hx List.not_mem_nil, fun x hx => by rw [h2] at hx; exact absurd hx List.not_mem_nil, fun x hx => by rw [h3] at hx; exact absurd hx List.not_mem_nil⟩
  have row : ∀ P : List PcL, (∀ o ∈ P, okPc o) → ∀ x ∈ P, -9223372036854775808 ≤ x.2 ∧ x.2 ≤ 9223372036854775807 := fun P hP x hx => by
    have := (hP x hx).2.good
    exact ⟨by omega, by omega⟩
  unfold BdF at h
  split at h
  · obtain ⟨_, _, _, rfl⟩ := h; exact nil _ rfl rfl rfl
  split at h
  · obtain ⟨F, _, hr, rfl⟩ := h
    refine ⟨fun x hx => absurd hx List.not_mem_nil, fun x hx => absurd hx List.not_mem_nil, fun x hx => ?_⟩
    have := (runW_is M [] F hr).2.2 (fun o ho => absurd ho List.not_mem_nil) x hx
    exact ⟨by have := this.1; omega, by have := this.2; omega⟩
  split at h
  · obtain ⟨P, deg, ids, _, hP, _, _, rfl⟩ := h
    exact ⟨row P hP, fun x hx => absurd hx List.not_mem_nil, fun x hx => absurd hx List.not_mem_nil⟩
  split at h
  · obtain ⟨i, P, deg, _, _, hP, _, rfl⟩ := h
    exact ⟨row P hP, fun x hx => absurd hx List.not_mem_nil, fun x hx => absurd hx List.not_mem_nil⟩
  split at h
  · obtain ⟨l, _, hl, rfl⟩ := h
    refine ⟨fun x hx => absurd hx List.not_mem_nil, fun x hx => ?_, fun x hx => absurd hx List.not_mem_nil⟩
    have := (hl x hx).good
    exact ⟨by omega, by omega⟩
  split at h
  · obtain ⟨_, _, _, _, _, rfl⟩ := h; exact nil _ rfl rfl rfl
  split at h
  · obtain ⟨_, rfl⟩ := h; exact nil _ rfl rfl rfl
  split at h
  · obtain ⟨g, hg, N, e, _, hB, rfl⟩ := h
    obtain ⟨h1, h2, h3⟩ := hB.same
    exact nil _ h1 h2 h3
  · obtain ⟨_, rfl⟩ := h; exact nil _ rfl rfl rfl
theorem Rgt.ints {L : List (List UInt8)} {d : SL} (h : Rgt L d) : SlI d := by
  obtain ⟨f, hf, M, e, _, hb, rfl⟩ := h
  have := hb.ints
  exact ⟨this.p, this.l, this.o⟩
/-- A text of lines. -/
def txt (ls : List (List UInt8)) : List UInt8 := ls.flatMap fun x => x ++ [10]
theorem lns_line : ∀ (x t cur : List UInt8), 10 ∉ x → lns (x ++ 10 :: t) cur = (cur ++ x) :: lns t [] := by
  intro x
  induction x with
  | nil => intro t cur _; rw [List.nil_append, lns, if_pos rfl, List.append_nil]
  | cons c x ih =>
    intro t cur h
    rw [List.cons_append, lns, if_neg (fun e => h (by rw [e]; exact List.mem_cons_self)), ih t (cur ++ [c]) (fun e => h (List.mem_cons_of_mem _ e))]
    simp
theorem lns_txt : ∀ ls : List (List UInt8), (∀ x ∈ ls, 10 ∉ x) → lns (txt ls) [] = ls := by
  intro ls
  induction ls with
  | nil => intro _; rfl
  | cons x ls ih =>
    intro h
    have e : txt (x :: ls) = x ++ 10 :: txt ls := by simp [txt]
    rw [e, lns_line x _ [] (h x List.mem_cons_self), ih fun y hy => h y (List.mem_cons_of_mem _ hy)]
    rfl
theorem txt_len (ls : List (List UInt8)) : (txt ls).length = tot ls := by
  induction ls with
  | nil => rfl
  | cons x ls ih => simp [txt, tot] at ih ⊢; omega
theorem lns_tot : ∀ (r cur : List UInt8), tot (lns r cur) ≤ cur.length + r.length + 1 := by
  intro r
  induction r with
  | nil => intro cur; unfold lns; split <;> simp [tot]
  | cons c r ih =>
    intro cur
    unfold lns
    split
    · have := ih []
      simp [tot] at this ⊢
      omega
    · have := ih (cur ++ [c])
      simp at this ⊢
      omega
theorem er_right {x : List UInt8} (h : er x = 0) : ∃ L, Rgt L (gd x) ∧ (Tk x L ∨ L = [[42]]) := by
  refine parse_right (x := x) (Prod.ext rfl h) fun e he => ?_
  intro h0
  subst h0
  have hk : OkL (endP (pickP formsL rdF (x, none)).2.2) := ok_end (ok_pick _ _ ok_rdF (fun e he => by cases he))
  unfold readP at he
  split at he
  · cases he
  · have := hk 0 he
    omega
end Go.Proofs.YtibbnijicdijnaaGreatDoor

namespace Go.Proofs.YtibbnijicdijnaaGreatDoor
open Go.RowKit

/-- A row of steps, as it is read. -/
def StsR (w : World) (v : Value) (ds : List SL) : Prop := ∃ a c, v = .slice a ds.length c ∧ ds.length ≤ 9223372036854775807 ∧ ∀ i (hi : i < ds.length), ∃ g off vo vp vl vi, a = some ⟨g, off, none⟩ ∧ g < w.heap.size ∧ SlR w ds[i] vo vp vl vi ∧ ∀ j, j < 10 → w.cell? ⟨g, off + i * 10 + j, none⟩ = (slC ds[i] vo vp vl vi)[j]?
theorem StsR.below {w w' : World} {v : Value} {ds : List SL} (h : StsR w v ds) (hb : Below w.heap.size w w') : StsR w' v ds := by
  obtain ⟨a, c, h1, h2, h3⟩ := h
  refine ⟨a, c, h1, h2, fun i hi => ?_⟩
  obtain ⟨g, off, vo, vp, vl, vi, e1, e2, e3, e4⟩ := h3 i hi
  exact ⟨g, off, vo, vp, vl, vi, e1, Nat.lt_of_lt_of_le e2 hb.size, e3.below hb, fun j hj => (hb.cell (p := ⟨g, off + i * 10 + j, none⟩) e2).trans (e4 j hj)⟩
theorem StsAt.r {B : Nat} {w : World} {v : Value} {ds : List SL} (h : StsAt B w v ds) : StsR w v ds := by
  have hn : ds.length ≤ 9223372036854775807 := by obtain ⟨L, _, h1, _⟩ := id h; exact own_few h1
  obtain ⟨a, c, rfl⟩ : ∃ a c, v = .slice a ds.length c := by obtain ⟨L, _, h1, _⟩ := id h; exact own_slice h1
  refine ⟨a, c, rfl, hn, fun i hi => ?_⟩
  obtain ⟨g, vo, vp, vl, vi, e1, e2, e3⟩ := sts_get h i hi
  have hg : g < w.heap.size := by
    have h0 := e3 0 (by omega)
    refine Nat.lt_of_not_le fun hle => ?_
    simp [World.cell?, Array.getElem?_eq_none hle, slC] at h0
  exact ⟨g, 0, vo, vp, vl, vi, e1, hg, e2, fun j hj => by rw [Nat.zero_add]; exact e3 j hj⟩
def slB (a b : SL) : Bool := decide (a.k = b.k ∧ a.n = b.n ∧ a.ops = b.ops ∧ a.pcs = b.pcs ∧ a.deg = b.deg ∧ a.lits = b.lits ∧ a.ids = b.ids ∧ a.ends = b.ends ∧ a.low = b.low ∧ a.high = b.high)
theorem slB_iff {a b : SL} : slB a b = true ↔ a = b := by
  unfold slB
  rw [decide_eq_true_iff]
  constructor
  · intro h
    obtain ⟨k, n, o, p, g, l, i, e, w, q⟩ := a
    obtain ⟨h0, h1, h2, h3, h4, h5, h6, h7, h8, h9⟩ := h
    obtain ⟨k', n', o', p', g', l', i', e', w', q'⟩ := b
    simp only at h0 h1 h2 h3 h4 h5 h6 h7 h8 h9
    subst h0 h1 h2 h3 h4 h5 h6 h7 h8 h9
    rfl
  · intro h; rw [h]; exact ⟨rfl, rfl, rfl, rfl, rfl, rfl, rfl, rfl, rfl, rfl⟩
theorem slB_pair {q : SL × Int} {d : SL} : (slB q.1 d && decide (q.2 = 0)) = true ↔ q = (d, 0) := by
  obtain ⟨a, n⟩ := q
  simp only [Bool.and_eq_true, slB_iff, decide_eq_true_iff, Prod.mk.injEq]
/-- What Print tells of a step. -/
def prT (d : SL) : List UInt8 × Int := if (slB (parseP (lnT d)).1 d && decide ((parseP (lnT d)).2 = 0)) = true then (lnT d, 0) else ([], 83)
def PrO (d : SL) (w : World) (e : Ending) (w' : World) : Prop := e = .returned (.tuple #[.string (txtOf (prT d).1), .int .i64 (prT d).2]) ∧ Below w.heap.size w w'
theorem prT_yes {d : SL} (h : parseP (lnT d) = (d, 0)) : prT d = (lnT d, 0) := by unfold prT; rw [if_pos (slB_pair.2 h)]
theorem prT_no {d : SL} (h : parseP (lnT d) ≠ (d, 0)) : prT d = ([], 83) := by unfold prT; rw [if_neg (fun e => h (slB_pair.1 e))]
/-- Print of a right step. -/
theorem print_right {L : List (List UInt8)} {d : SL} (hr : Rgt L d) (hl : (lnT d).length < 9000000) (vo vp vl vi : Value) (w : World) (hs : SlR w d vo vp vl vi) (hg : Gl w) (hB : 12 ≤ w.heap.size) : Calls Tryz.prog 13 #[.agg (slC d vo vp vl vi)] w (PrO d w) := by
  unfold PrO
  rw [prT_yes hr.parse]
  exact print_eq d (tabF d.k) vo vp vl vi w hs hr.ints (by have := hr.line.2.2; unfold lnW at this; omega) (lnT d) rfl hr.parse hg hB
/-- How Write ends. -/
def WlO (ds : List SL) (w : World) (e : Ending) (w' : World) : Prop := Below w.heap.size w w' ∧ ((e = .returned (.tuple #[.string (txtOf (txt (ds.map lnT))), .nilIface]) ∧ ∀ d ∈ ds, parseP (lnT d) = (d, 0)) ∨ ∃ pre d post f, ds = pre ++ d :: post ∧ (∀ x ∈ pre, parseP (lnT x) = (x, 0)) ∧ parseP (lnT d) ≠ (d, 0) ∧ e = .returned (.tuple #[.string ⟨#[]⟩, .iface 95 (.pointer (some ⟨f, 0, none⟩))]) ∧ w'.heap[f]? = some (.cells #[.int .i64 2, .int .i64 (pre.length + 1), .int .i64 83] 98 (0, 0)))
theorem txt_take (ds : List SL) (i : Nat) (hi : i < ds.length) : txt ((ds.take (i + 1)).map lnT) = txt ((ds.take i).map lnT) ++ lnT ds[i] ++ [10] := by
  unfold txt
  rw [List.take_succ_eq_append_getElem hi, List.map_append, List.flatMap_append]
  simp only [List.map_cons, List.map_nil, List.flatMap_cons, List.flatMap_nil, List.append_nil, List.append_assoc]
theorem tot_le (ds : List SL) (i : Nat) (hi : i < ds.length) : (txt ((ds.take i).map lnT)).length + (lnT ds[i]).length + 1 ≤ tot (ds.map lnT) := by
  have h1 := tot_take (ds.map lnT) i (by simpa using hi)
  rw [txt_len, List.map_take]
  simp at h1
  omega

set_option maxRecDepth 10000 in
set_option maxHeartbeats 2000000 in
theorem wlog_any (ds : List SL) (v : Value) (w : World) (hS : StsR w v ds) (hl : tot (ds.map lnT) ≤ 900000000) (hn : ds.length ≤ 900000000) (hP : ∀ d ∈ ds, ∀ (w' : World) (vo vp vl vi : Value), Below w.heap.size w w' → SlR w' d vo vp vl vi → Calls Tryz.prog 13 #[.agg (slC d vo vp vl vi)] w' (PrO d w')) : Calls Tryz.prog 11 #[v] w (WlO ds w) := by
  unfold WlO
  obtain ⟨a, c, rfl, hn0, hC⟩ := id hS
  have HS : Hid (StsR w (.slice a ds.length c) ds) := hS
  have HL : Hid (tot (ds.map lnT) ≤ 900000000) := hl
  have HP : Hid (∀ d ∈ ds, ∀ (w' : World) (vo vp vl vi : Value), Below w.heap.size w w' → SlR w' d vo vp vl vi → Calls Tryz.prog 13 #[.agg (slC d vo vp vl vi)] w' (PrO d w')) := hP
  obtain ⟨V, hV⟩ : ∃ V, w.alloc (.cells #[.pointer none, .slice none 0 0] 90) = V := ⟨_, rfl⟩
  have hbV : Below w.heap.size w V := by rw [← hV]; exact (Below.refl _ _).alloc (Nat.le_refl _) _
  have gV : V.heap[w.heap.size]? = some (.cells #[.pointer none, .slice none 0 0] 90 (0, 0)) := by rw [← hV]; exact heap_alloc_new w _
  have HPg : Hid (Bd.PageAt w.heap.size w.heap.size [] V) := ⟨Nat.le_refl _, none, .slice none 0 0, gV, .inl rfl, own_z _ _ _ _⟩
  have HBV : Hid (Below w.heap.size w V) := hbV
  clear hS hl hP hC hbV gV
  go_enter Tryz.func11, Tryz.ntmps11
  go_wp2_with fail
  try rw [hV]
  clear hV
  go_loopw [11] (fun iv wr => ∃ i : Nat, iv = .int .i64 (i : Int) ∧ i ≤ ds.length ∧ Hid (Bd.PageAt w.heap.size w.heap.size (txt ((ds.take i).map lnT)) wr ∧ Below w.heap.size w wr ∧ ∀ d ∈ ds.take i, parseP (lnT d) = (d, 0))) (fun iv _ => ds.length - (intOf iv).toNat)
  case atStart => exact ⟨0, rfl, Nat.zero_le _, HPg.out, HBV.out, fun d hd => absurd hd List.not_mem_nil⟩
  case round =>
    obtain ⟨i, rfl, hi, HR⟩ := hrel
    by_cases hin : i < ds.length
    · have hiI : (i : Int) < (ds.length : Int) := by omega
      obtain ⟨a0, c0, e0, _, hC⟩ := HS.out.below (HR.out.2.1)
      obtain ⟨rfl, _, rfl⟩ : a = a0 ∧ ds.length = ds.length ∧ c = c0 := by simpa using e0
      obtain ⟨g, off, vo, vp, vl, vi, rfl, hgl, hsl, hce⟩ := hC i hin
      have htk := txt_take ds i hin
      have htl := tot_le ds i hin
      have HPr := HP.out ds[i] (List.getElem_mem hin)
      have hsp : ds = ds.take i ++ ds[i] :: ds.drop (i + 1) := by rw [← List.drop_eq_getElem_cons hin, List.take_append_drop]
      have htn : ds.take (i + 1) = ds.take i ++ [ds[i]] := List.take_succ_eq_append_getElem hin
      obtain ⟨d, hd⟩ : ∃ d, ds[i] = d := ⟨_, rfl⟩
      rw [hd] at hsl hce htk htl HPr hsp htn
      have HSp : Hid (ds = ds.take i ++ d :: ds.drop (i + 1)) := hsp
      have HTn : Hid (ds.take (i + 1) = ds.take i ++ [d]) := htn
      obtain ⟨oa, oc, rfl, _, _⟩ := id hsl.o
      obtain ⟨pa, pc, rfl, _, _⟩ := id hsl.p
      obtain ⟨la, lc, rfl, _, _⟩ := id hsl.l
      obtain ⟨ia, ic, rfl, _, _⟩ := id hsl.i
      have q0 : wr.cell? ⟨g, off + i * 10, none⟩ = some (.int .i64 d.k) := hce 0 (by omega)
      have q1 : wr.cell? ⟨g, off + i * 10 + 1, none⟩ = some (.string (txtOf d.n)) := hce 1 (by omega)
      have q2 : wr.cell? ⟨g, off + i * 10 + 2, none⟩ = some (.slice oa d.ops.length oc) := hce 2 (by omega)
      have q3 : wr.cell? ⟨g, off + i * 10 + 3, none⟩ = some (.slice pa d.pcs.length pc) := hce 3 (by omega)
      have q4 : wr.cell? ⟨g, off + i * 10 + 4, none⟩ = some (.string (txtOf d.deg)) := hce 4 (by omega)
      have q5 : wr.cell? ⟨g, off + i * 10 + 5, none⟩ = some (.slice la d.lits.length lc) := hce 5 (by omega)
      have q6 : wr.cell? ⟨g, off + i * 10 + 6, none⟩ = some (.slice ia d.ids.length ic) := hce 6 (by omega)
      have q7 : wr.cell? ⟨g, off + i * 10 + 7, none⟩ = some (.int .i64 d.ends) := hce 7 (by omega)
      have q8 : wr.cell? ⟨g, off + i * 10 + 8, none⟩ = some (.string (txtOf d.low)) := hce 8 (by omega)
      have q9 : wr.cell? ⟨g, off + i * 10 + 9, none⟩ = some (.string (txtOf d.high)) := hce 9 (by omega)
      obtain ⟨X, hX⟩ : ∃ X, wr.alloc (.cells #[.int .i64 d.k, .string (txtOf d.n), .slice oa d.ops.length oc, .slice pa d.pcs.length pc, .string (txtOf d.deg), .slice la d.lits.length lc, .slice ia d.ids.length ic, .int .i64 d.ends, .string (txtOf d.low), .string (txtOf d.high)] 45) = X := ⟨_, rfl⟩
      have hbX : Below wr.heap.size wr X := by rw [← hX]; exact (Below.refl _ _).alloc (Nat.le_refl _) _
      have gX : X.heap[wr.heap.size]? = some (.cells #[.int .i64 d.k, .string (txtOf d.n), .slice oa d.ops.length oc, .slice pa d.pcs.length pc, .string (txtOf d.deg), .slice la d.lits.length lc, .slice ia d.ids.length ic, .int .i64 d.ends, .string (txtOf d.low), .string (txtOf d.high)] 45 (0, 0)) := by rw [← hX]; exact heap_alloc_new wr _
      have HBX : Hid (Below w.heap.size w X) := HR.out.2.1.trans (hbX.mono HR.out.2.1.size)
      have HPX : Hid (Bd.PageAt w.heap.size w.heap.size (txt ((ds.take i).map lnT)) X) := Bd.page_below HR.out.1 hbX
      have HPc : Hid (Calls Tryz.prog 13 #[.agg #[.int .i64 d.k, .string (txtOf d.n), .slice oa d.ops.length oc, .slice pa d.pcs.length pc, .string (txtOf d.deg), .slice la d.lits.length lc, .slice ia d.ids.length ic, .int .i64 d.ends, .string (txtOf d.low), .string (txtOf d.high)]] X (PrO d X)) := HPr X _ _ _ _ HBX.out (hsl.below hbX)
      have e0 : X.cell? ⟨wr.heap.size, 0, none⟩ = some (.int .i64 d.k) := cell_of gX 0
      have e1 : X.cell? ⟨wr.heap.size, 1, none⟩ = some (.string (txtOf d.n)) := cell_of gX 1
      have e2 : X.cell? ⟨wr.heap.size, 2, none⟩ = some (.slice oa d.ops.length oc) := cell_of gX 2
      have e3 : X.cell? ⟨wr.heap.size, 3, none⟩ = some (.slice pa d.pcs.length pc) := cell_of gX 3
      have e4 : X.cell? ⟨wr.heap.size, 4, none⟩ = some (.string (txtOf d.deg)) := cell_of gX 4
      have e5 : X.cell? ⟨wr.heap.size, 5, none⟩ = some (.slice la d.lits.length lc) := cell_of gX 5
      have e6 : X.cell? ⟨wr.heap.size, 6, none⟩ = some (.slice ia d.ids.length ic) := cell_of gX 6
      have e7 : X.cell? ⟨wr.heap.size, 7, none⟩ = some (.int .i64 d.ends) := cell_of gX 7
      have e8 : X.cell? ⟨wr.heap.size, 8, none⟩ = some (.string (txtOf d.low)) := cell_of gX 8
      have e9 : X.cell? ⟨wr.heap.size, 9, none⟩ = some (.string (txtOf d.high)) := cell_of gX 9
      have HTk : Hid (txt ((ds.take (i + 1)).map lnT) = txt ((ds.take i).map lnT) ++ lnT d ++ [10]) := htk
      have HTl : Hid ((txt ((ds.take i).map lnT)).length + (lnT d).length + 1 ≤ 900000000) := Nat.le_trans htl HL.out
      clear hce hsl HPr hbX gX htk htl hsp htn hC hd hgl
      unfold PrO at HPc
      by_cases hok : parseP (lnT d) = (d, 0)
      · have HOk : Hid (parseP (lnT d) = (d, 0)) := hok
        rw [prT_yes hok] at HPc
        clear hok
        obtain ⟨y, hy⟩ : ∃ y, lnT d = y := ⟨_, rfl⟩
        rw [hy] at HPc HTk HTl
        obtain ⟨m, hm⟩ : ∃ m, txt ((ds.take i).map lnT) = m := ⟨_, rfl⟩
        rw [hm] at HTk HTl HPX
        go_wp2_with fail
        refine calls_at HPc.out (by with_reducible rfl) (by with_reducible rfl) ?_
        rintro e w1 ⟨rfl, hb1⟩
        have HB1 : Hid (Below w.heap.size w w1) := HBX.out.trans (hb1.mono HBX.out.size)
        have HP1 : Hid (Bd.PageAt w.heap.size w.heap.size m w1) := Bd.page_below HPX.out hb1
        clear hb1 e0 e1 e2 e3 e4 e5 e6 e7 e8 e9 hX
        have HWs : Hid (Calls Tryz.prog 37 #[.pointer (some ⟨w.heap.size, 0, none⟩), .string (txtOf y)] w1 fun e w' => e = .returned (.tuple #[.int .i64 ((txtOf y).size : Int), .nilIface]) ∧ Bd.PageAt w.heap.size w.heap.size (m ++ y) w' ∧ Bd.Kq w.heap.size w1 w') := by
          have h := Bd.writeString_any w.heap.size w.heap.size m (txtOf y) w1 HP1.out (by rw [txt_size]; have := HTl.out; omega) HB1.out.size
          rw [txt_list] at h
          exact h
        go_wp2_with fail
        refine calls_at HWs.out (by with_reducible rfl) (by with_reducible rfl) ?_
        rintro e w2 ⟨rfl, hp2, hk2⟩
        have HB2 : Hid (Below w.heap.size w w2) := HB1.out.trans hk2.low
        have HWb : Hid (Calls Tryz.prog 38 #[.pointer (some ⟨w.heap.size, 0, none⟩), .int .u8 10] w2 fun e w' => e = .returned .nilIface ∧ Bd.PageAt w.heap.size w.heap.size (m ++ y ++ [10]) w' ∧ Bd.Kq w.heap.size w2 w') := Bd.writeByte_any w.heap.size w.heap.size (m ++ y) 10 10 rfl w2 hp2 (by rw [List.length_append]; have := HTl.out; omega) HB2.out.size
        clear hp2 hk2 HWs
        go_wp2_with fail
        refine calls_at HWb.out (by with_reducible rfl) (by with_reducible rfl) ?_
        rintro e w3 ⟨rfl, hp3, hk3⟩
        have H3 : Hid (Bd.PageAt w.heap.size w.heap.size (txt ((ds.take (i + 1)).map lnT)) w3 ∧ Below w.heap.size w w3 ∧ ∀ d ∈ ds.take (i + 1), parseP (lnT d) = (d, 0)) := by
          refine ⟨by rw [HTk.out]; exact hp3, HB2.out.trans hk3.low, fun x hx => ?_⟩
          rw [HTn.out] at hx
          rcases List.mem_append.1 hx with hx | hx
          · exact HR.out.2.2 x hx
          · have : x = d := by simpa using hx
            rw [this]
            exact HOk.out
        clear hp3 hk3 HWb
        go_wp2_with fail
        go_roundw
        case rel => exact ⟨i + 1, by go_num, hin, H3⟩
        case measure => simp [intOf]; omega
      · have HNo : Hid (parseP (lnT d) ≠ (d, 0)) := hok
        rw [prT_no hok] at HPc
        clear hok
        go_wp2_with fail
        refine calls_at HPc.out (by with_reducible rfl) (by with_reducible rfl) ?_
        rintro e w1 ⟨rfl, hb1⟩
        have HB1 : Hid (Below w.heap.size w w1) := HBX.out.trans (hb1.mono HBX.out.size)
        clear hb1 e0 e1 e2 e3 e4 e5 e6 e7 e8 e9 hX
        have hwr : wrap64 ((i : Int) + 1) = (i : Int) + 1 := by unfold wrap64; omega
        have HFt : Hid (∀ W, Calls Tryz.prog 36 #[.int .i64 ((i : Int) + 1), .int .i64 83] W fun e w' => e = .returned (.iface 95 (.pointer (some ⟨W.heap.size, 0, none⟩))) ∧ w' = W.alloc (.cells #[.int .i64 2, .int .i64 ((i : Int) + 1), .int .i64 83] 98)) := fault_any _ _
        go_wp2_with fail
        refine calls_at (HFt.out w1) (by with_reducible rfl) (by with_reducible rfl) ?_
        rintro e w2 ⟨rfl, hw2⟩
        have hb2 : Below w1.heap.size w1 w2 := by rw [hw2]; exact (Below.refl _ _).alloc (Nat.le_refl _) _
        have g2 : w2.heap[w1.heap.size]? = some (.cells #[.int .i64 2, .int .i64 ((i : Int) + 1), .int .i64 83] 98 (0, 0)) := by rw [hw2]; exact heap_alloc_new w1 _
        have hpl : (ds.take i).length = i := by rw [List.length_take]; omega
        clear hw2
        go_wp2_with fail
        go_ret2
        refine ⟨HB1.out.trans (hb2.mono HB1.out.size), .inr ⟨ds.take i, d, ds.drop (i + 1), w1.heap.size, HSp.out, HR.out.2.2, HNo.out, rfl, ?_⟩⟩
        rw [hpl]
        exact g2
    · have hiI : ¬ (i : Int) < (ds.length : Int) := by omega
      have hti : ds.take i = ds := List.take_of_length_le (by omega)
      have HR' : Hid (Bd.PageAt w.heap.size w.heap.size (txt (ds.map lnT)) wr ∧ Below w.heap.size w wr ∧ ∀ d ∈ ds, parseP (lnT d) = (d, 0)) := by
        have := HR.out
        rw [hti] at this
        exact this
      have HSt : Hid (Calls Tryz.prog 39 #[.pointer (some ⟨w.heap.size, 0, none⟩)] wr fun e w' => e = .returned (.string (txtOf (txt (ds.map lnT)))) ∧ Below w.heap.size wr w') := by
        by_cases h0 : txt (ds.map lnT) = []
        · have h1 := HR'.out.1
          rw [h0] at h1 ⊢
          exact Bd.string_none _ _ wr h1
        · exact Bd.string_any _ _ _ wr HR'.out.1 h0
      clear hti
      go_wp2_with fail
      refine calls_at HSt.out (by with_reducible rfl) (by with_reducible rfl) ?_
      rintro e w1 ⟨rfl, hb1⟩
      go_wp2_with fail
      go_ret2
      exact ⟨HR'.out.2.1.trans hb1, .inl ⟨rfl, HR'.out.2.2⟩⟩
end Go.Proofs.YtibbnijicdijnaaGreatDoor

namespace Go.Proofs.YtibbnijicdijnaaGreatDoor
open Go.RowKit

set_option maxRecDepth 10000 in
set_option maxHeartbeats 4000000 in
theorem print_any (d : SL) (vo vp vl vi : Value) (w : World) (hs : SlR w d vo vp vl vi) (hi : SlI d) (hl : tot (lnW d) ≤ 9000000) (hg : Gl w) (hB : 12 ≤ w.heap.size) : Calls Tryz.prog 13 #[.agg (slC d vo vp vl vi)] w (PrO d w) := by
  unfold PrO
  obtain ⟨W, hW⟩ : ∃ W, w.alloc (.cells (slC d vo vp vl vi) 45) = W := ⟨_, rfl⟩
  have hbW : Below w.heap.size w W := by rw [← hW]; exact (Below.refl _ _).alloc (Nat.le_refl _) _
  have gW : W.heap[w.heap.size]? = some (.cells (slC d vo vp vl vi) 45 (0, 0)) := by rw [← hW]; exact heap_alloc_new w _
  have hlt : w.heap.size < W.heap.size := (Array.getElem?_eq_some_iff.1 gW).1
  obtain ⟨x, hx⟩ : ∃ x, lnT d = x := ⟨_, rfl⟩
  have hxl : x.length ≤ 9000000 := by
    have := words_len (lnW d) []
    have e : wordsP (lnW d) [] = x := hx
    rw [e] at this
    simp at this
    omega
  have HWr : Hid (Calls Tryz.prog 40 #[.agg (slC d vo vp vl vi)] W fun e w' => e = .returned (.string (txtOf x)) ∧ Below W.heap.size W w') := by
    have := write_any d (tabF d.k) vo vp vl vi W (hs.below hbW).e hi (by unfold lnW at hl; omega) (Nat.le_refl _) (hg.next hbW) (by omega)
    have e : wordsP (kindT formsL wrF d.k d) [] = x := hx
    rw [e] at this
    exact this
  obtain ⟨G, hG⟩ : ∃ G, gd x = G := ⟨_, rfl⟩
  obtain ⟨E, hE⟩ : ∃ E, er x = E := ⟨_, rfl⟩
  have HPa : Hid (∀ w', Below W.heap.size W w' → Calls Tryz.prog 18 #[.string (txtOf x)] w' fun e w2 => ∃ oa2 oc2 pa2 pc2 la2 lc2 ia2 ic2, e = .returned (.tuple #[.agg #[.int .i64 G.k, .string (txtOf G.n), .slice oa2 G.ops.length oc2, .slice pa2 G.pcs.length pc2, .string (txtOf G.deg), .slice la2 G.lits.length lc2, .slice ia2 G.ids.length ic2, .int .i64 G.ends, .string (txtOf G.low), .string (txtOf G.high)], .int .i64 E]) ∧ SlR w2 G (.slice oa2 G.ops.length oc2) (.slice pa2 G.pcs.length pc2) (.slice la2 G.lits.length lc2) (.slice ia2 G.ids.length ic2) ∧ Below w'.heap.size w' w2) := fun w' hb => by
    have := parse_out x hxl w' ((hg.next hbW).below hb (by omega))
    rw [hG, hE] at this
    exact this
  have HSm : Hid (∀ w' vo2 vp2 vl2 vi2, Below w.heap.size w w' → SlR w' G vo2 vp2 vl2 vi2 → Calls Tryz.prog 41 #[.agg (slC G vo2 vp2 vl2 vi2), .agg (slC d vo vp vl vi)] w' fun e w2 => e = .returned (.bool (sameB G d)) ∧ Below w'.heap.size w' w2) := fun w' vo2 vp2 vl2 vi2 hb h2 => psame_any G d _ _ _ _ _ _ _ _ w' h2 (hs.below hb)
  have hPx : parseP x = (G, E) := by rw [← hG, ← hE]; rfl
  have HYes : Hid (G = d → E = 0 → prT d = (x, 0)) := fun e1 e2 => by rw [← hx]; exact prT_yes (by rw [hx, hPx, e1, e2])
  have HNo : Hid ((E ≠ 0 ∨ G ≠ d) → prT d = ([], 83)) := fun h => prT_no (by
    rw [hx, hPx]
    intro e
    rcases h with h | h
    · exact h (Prod.ext_iff.1 e).2
    · exact h (Prod.ext_iff.1 e).1)
  have HBW : Hid (Below w.heap.size w W) := hbW
  have HMx : Hid (∀ w', Below W.heap.size W w' → w'.heap[w.heap.size]? = some (.cells (slC d vo vp vl vi) 45 (0, 0))) := fun w' hb => (hb.block _ hlt).trans gW
  obtain ⟨oa, oc, rfl, _, _⟩ := id hs.o
  obtain ⟨pa, pc, rfl, _, _⟩ := id hs.p
  obtain ⟨la, lc, rfl, _, _⟩ := id hs.l
  obtain ⟨ia, ic, rfl, _, _⟩ := id hs.i
  unfold slC at hW HWr HMx gW
  have HM : Hid (∀ w', Below W.heap.size W w' → w'.cell? ⟨w.heap.size, 0, none⟩ = some (.int .i64 d.k) ∧ w'.cell? ⟨w.heap.size, 1, none⟩ = some (.string (txtOf d.n)) ∧ w'.cell? ⟨w.heap.size, 2, none⟩ = some (.slice oa d.ops.length oc) ∧ w'.cell? ⟨w.heap.size, 3, none⟩ = some (.slice pa d.pcs.length pc) ∧ w'.cell? ⟨w.heap.size, 4, none⟩ = some (.string (txtOf d.deg)) ∧ w'.cell? ⟨w.heap.size, 5, none⟩ = some (.slice la d.lits.length lc) ∧ w'.cell? ⟨w.heap.size, 6, none⟩ = some (.slice ia d.ids.length ic) ∧ w'.cell? ⟨w.heap.size, 7, none⟩ = some (.int .i64 d.ends) ∧ w'.cell? ⟨w.heap.size, 8, none⟩ = some (.string (txtOf d.low)) ∧ w'.cell? ⟨w.heap.size, 9, none⟩ = some (.string (txtOf d.high))) := fun w' hb => by
    have g := HMx.out w' hb
    exact ⟨cell_of g 0, cell_of g 1, cell_of g 2, cell_of g 3, cell_of g 4, cell_of g 5, cell_of g 6, cell_of g 7, cell_of g 8, cell_of g 9⟩
  unfold slC
  obtain ⟨m0, m1, m2, m3, m4, m5, m6, m7, m8, m9⟩ := HM.out W (Below.refl _ _)
  obtain ⟨X, hX⟩ : ∃ X, txtOf x = X := ⟨_, rfl⟩
  have HX : Hid (txtOf x = X) := hX
  rw [hX] at HWr HPa
  clear hs hi hl hx hg hbW gW hlt hxl HMx hX hG hE hPx
  go_enter Tryz.func13, Tryz.ntmps13
  go_wp2_with fail
  refine calls_at HWr.out (by with_reducible rfl) (by with_reducible rfl) ?_
  rintro e w1 ⟨rfl, hb1⟩
  have HB1 : Hid (Below W.heap.size W w1) := hb1
  clear hb1 m0 m1 m2 m3 m4 m5 m6 m7 m8 m9
  go_wp2_with fail
  refine calls_at (HPa.out w1 HB1.out) (by with_reducible rfl) (by with_reducible rfl) ?_
  rintro e w2 ⟨oa2, oc2, pa2, pc2, la2, lc2, ia2, ic2, rfl, h2, hb2⟩
  have H2 : Hid (SlR w2 G (.slice oa2 G.ops.length oc2) (.slice pa2 G.pcs.length pc2) (.slice la2 G.lits.length lc2) (.slice ia2 G.ids.length ic2)) := h2
  have HB2 : Hid (Below W.heap.size W w2) := bl_next HB1.out hb2
  clear hb2 h2
  obtain ⟨V, hV⟩ : ∃ V, w2.alloc (.cells #[.int .i64 G.k, .string (txtOf G.n), .slice oa2 G.ops.length oc2, .slice pa2 G.pcs.length pc2, .string (txtOf G.deg), .slice la2 G.lits.length lc2, .slice ia2 G.ids.length ic2, .int .i64 G.ends, .string (txtOf G.low), .string (txtOf G.high)] 45) = V := ⟨_, rfl⟩
  have hbV : Below w2.heap.size w2 V := by rw [← hV]; exact (Below.refl _ _).alloc (Nat.le_refl _) _
  have gV : V.heap[w2.heap.size]? = some (.cells #[.int .i64 G.k, .string (txtOf G.n), .slice oa2 G.ops.length oc2, .slice pa2 G.pcs.length pc2, .string (txtOf G.deg), .slice la2 G.lits.length lc2, .slice ia2 G.ids.length ic2, .int .i64 G.ends, .string (txtOf G.low), .string (txtOf G.high)] 45 (0, 0)) := by rw [← hV]; exact heap_alloc_new w2 _
  have HBV : Hid (Below W.heap.size W V) := bl_next HB2.out hbV
  obtain ⟨m0, m1, m2, m3, m4, m5, m6, m7, m8, m9⟩ := HM.out V HBV.out
  obtain ⟨n0, n1, n2, n3, n4, n5, n6, n7, n8, n9⟩ : V.cell? ⟨w2.heap.size, 0, none⟩ = some (.int .i64 G.k) ∧ V.cell? ⟨w2.heap.size, 1, none⟩ = some (.string (txtOf G.n)) ∧ V.cell? ⟨w2.heap.size, 2, none⟩ = some (.slice oa2 G.ops.length oc2) ∧ V.cell? ⟨w2.heap.size, 3, none⟩ = some (.slice pa2 G.pcs.length pc2) ∧ V.cell? ⟨w2.heap.size, 4, none⟩ = some (.string (txtOf G.deg)) ∧ V.cell? ⟨w2.heap.size, 5, none⟩ = some (.slice la2 G.lits.length lc2) ∧ V.cell? ⟨w2.heap.size, 6, none⟩ = some (.slice ia2 G.ids.length ic2) ∧ V.cell? ⟨w2.heap.size, 7, none⟩ = some (.int .i64 G.ends) ∧ V.cell? ⟨w2.heap.size, 8, none⟩ = some (.string (txtOf G.low)) ∧ V.cell? ⟨w2.heap.size, 9, none⟩ = some (.string (txtOf G.high)) := by
    have g := gV
    exact ⟨cell_of g 0, cell_of g 1, cell_of g 2, cell_of g 3, cell_of g 4, cell_of g 5, cell_of g 6, cell_of g 7, cell_of g 8, cell_of g 9⟩
  have HS2 : Hid (Calls Tryz.prog 41 #[.agg #[.int .i64 G.k, .string (txtOf G.n), .slice oa2 G.ops.length oc2, .slice pa2 G.pcs.length pc2, .string (txtOf G.deg), .slice la2 G.lits.length lc2, .slice ia2 G.ids.length ic2, .int .i64 G.ends, .string (txtOf G.low), .string (txtOf G.high)], .agg #[.int .i64 d.k, .string (txtOf d.n), .slice oa d.ops.length oc, .slice pa d.pcs.length pc, .string (txtOf d.deg), .slice la d.lits.length lc, .slice ia d.ids.length ic, .int .i64 d.ends, .string (txtOf d.low), .string (txtOf d.high)]] V fun e w2 => e = .returned (.bool (sameB G d)) ∧ Below V.heap.size V w2) := HSm.out V _ _ _ _ (HBW.out.trans (HBV.out.mono HBW.out.size)) (H2.out.below hbV)
  clear hbV gV
  by_cases hE0 : E = 0
  · have hEB : (E != 0) = false := by rw [hE0]; rfl
    have HE0 : Hid (E = 0) := hE0
    clear hE0
    go_wp2_with fail
    refine calls_at HS2.out (by with_reducible rfl) (by with_reducible rfl) ?_
    rintro e w3 ⟨rfl, hb3⟩
    have HB3 : Hid (Below W.heap.size W w3) := bl_next HBV.out hb3
    clear hb3 m0 m1 m2 m3 m4 m5 m6 m7 m8 m9 n0 n1 n2 n3 n4 n5 n6 n7 n8 n9
    by_cases hq : G = d
    · have HR : Hid (prT d = (x, 0)) := HYes.out hq HE0.out
      rw [(sameB_iff G d).2 hq]
      clear hq
      go_wp2_with fail
      go_ret2
      refine ⟨?_, HBW.out.trans (HB3.out.mono HBW.out.size)⟩
      rw [HR.out]
      show _ = Ending.returned (.tuple #[.string (txtOf x), .int .i64 0])
      rw [HX.out]
      rfl
    · have HR : Hid (prT d = ([], 83)) := HNo.out (.inr hq)
      rw [sameB_no hq]
      clear hq
      go_wp2_with fail
      go_ret2
      refine ⟨?_, HBW.out.trans (HB3.out.mono HBW.out.size)⟩
      rw [HR.out]
      rfl
  · have hEB : (E != 0) = true := by simpa using hE0
    have HR : Hid (prT d = ([], 83)) := HNo.out (.inl hE0)
    clear hE0
    go_wp2_with fail
    go_ret2
    refine ⟨?_, HBW.out.trans (HBV.out.mono HBW.out.size)⟩
    rw [HR.out]
    rfl
end Go.Proofs.YtibbnijicdijnaaGreatDoor
