/-
  Put together: DtPair, DtM2, DtDuo, DtPlayA, DtReads.
-/
import Derived.Test.YtchpapppkmnfnaaGreatDoorJ37
import Derived.Test.YtchpapppkmnfnaaGreatDoorJ21
import Derived.Test.YtchpapppkmnfnaaGreatDoorDmCut
import Derived.Test.YtchpapppkmnfnaaGreatDoorJ40
import Derived.Test.YtchpapppkmnfnaaGreatDoorDmBack
import Derived.Test.YtchpapppkmnfnaaGreatDoorJ38
import Derived.Test.YtchpapppkmnfnaaGreatDoorDmMark
import Derived.Test.YtchpapppkmnfnaaGreatDoorDrReads
import Derived.Test.YtchpapppkmnfnaaGreatDoorJ35
namespace Go.Proofs.YtchpapppkmnfnaaGreatDoor
open Go.RowKit

theorem own_lt {B : Nat} {w : World} {p : Nat} {nv mv : Value} {s : St} (h : StAt B w p nv mv s) {k : Nat} (hk : Own p nv mv k) : k < w.heap.size := by
  rcases hk with h1 | h1 | h1
  · rw [h1]; exact h.lt
  · exact (row_lt h.n h1).2
  · exact (row_lt h.m h1).2
theorem own_lo {B : Nat} {w : World} {p : Nat} {nv mv : Value} {s : St} (h : StAt B w p nv mv s) {k : Nat} (hk : Own p nv mv k) : B ≤ k := by
  rcases hk with h1 | h1 | h1
  · rw [h1]; exact h.p1
  · exact (row_lt h.n h1).1
  · exact (row_lt h.m h1).1
/-- What the marks noted, as lists. -/
def mksOf (s : St) : List (List (List Int)) := (List.range s.marks).map fun i => ((s.noted.drop (i * s.now.length)).take s.now.length).map Dm.all
def AllsM (s : St) : Prop := ∀ d ∈ s.noted, d.Ok ∧ d.Any
/-- A cut, of lists as of words. -/
theorem cut_rel {s : St} (h : Alls s) (k x v : Int) : (s.cut k x v).now.map Dm.all = cutLL (s.now.map Dm.all) k x v ∧ s.went k x v = wentLL (s.now.map Dm.all) k x v ∧ s.may k x v = mayLL (s.now.map Dm.all) k x v := by
  cases hi : isB s.now.length x with
  | false =>
    obtain ⟨e1, e2, e3⟩ := cut_no (k := k) (v := v) hi
    obtain ⟨f1, f2, f3⟩ := cutLL_no (LL := s.now.map Dm.all) (k := k) (x := x) (v := v) (by rw [List.length_map]; exact hi)
    rw [e1, e2, e3, f1, f2, f3]
    exact ⟨rfl, rfl, rfl⟩
  | true =>
    obtain ⟨q, rfl, hq⟩ : ∃ q : Nat, x = (q : Int) ∧ q < s.now.length := by
      simp [isB] at hi
      exact ⟨x.toNat, by omega, by omega⟩
    obtain ⟨e1, e2, e3⟩ := cut_yes (k := k) (v := v) hq
    obtain ⟨f1, f2, f3⟩ := cutLL_yes (LL := s.now.map Dm.all) (k := k) (v := v) (q := q) (by rw [List.length_map]; exact hq)
    obtain ⟨ho, ha⟩ := h _ (List.getElem_mem hq)
    obtain ⟨g1, g2, g3⟩ := went_is ho ha k v
    have hqm : q < (s.now.map Dm.all).length := by rw [List.length_map]; exact hq
    have hl : lfR k v (s.now.map Dm.all)[q] = lft k v s.now[q].all := by rw [List.getElem_map]; rfl
    rw [e1, e2, e3, f1, f2, f3, hl]
    refine ⟨?_, by rw [g1, List.getElem_map], g2⟩
    cases hw : s.now[q].went k v with
    | true =>
      rw [hw] at g1 g3
      have hE : (lft k v s.now[q].all).isEmpty = false := by
        cases hb : (lft k v s.now[q].all).isEmpty with
        | false => rfl
        | true => rw [hb] at g1; simp at g1
      rw [hE] at g3
      rw [hE]
      simp only [if_true] at g3 ⊢
      simp [g3]
    | false =>
      rw [hw] at g3
      simp only [Bool.false_eq_true, if_false] at g3 ⊢
      cases hb : (lft k v s.now[q].all).isEmpty with
      | true => rfl
      | false =>
        rw [hb] at g3
        simp only [Bool.false_eq_true, if_false] at g3 ⊢
        rw [← g3]
        apply List.ext_getElem?
        intro i
        by_cases e : i = q
        · subst e; simp [hq]
        · rw [List.getElem?_set_ne (by omega)]
theorem cut_mks (s : St) (k x v : Int) : mksOf (s.cut k x v) = mksOf s := by
  obtain ⟨e1, e2, e3⟩ := cut_len s k x v
  unfold mksOf
  rw [e1, e2, e3]
theorem new_rel (m : Md.Mo) : (newS m).now.map Dm.all = newLL m ∧ mksOf (newS m) = [] ∧ AllsM (newS m) := by
  unfold newS newLL
  split
  · rename_i h
    refine ⟨?_, rfl, fun d hd => by cases hd⟩
    simp only [List.map_map]
    exact List.map_congr_left fun v hv => whole_all ((Md.right_of h).var v hv).2
  · exact ⟨rfl, rfl, fun d hd => by cases hd⟩
/-- A pair in memory. -/
structure PaAt (B P : Nat) (O : Nat → Prop) (w : World) (s : St) : Prop where
  ex : ∃ p nv mv r S Bs, w.heap[P]? = some (.cells #[.pointer (some ⟨p, 0, none⟩), .pointer (some ⟨r, 0, none⟩)] 39 (0, 0)) ∧ StAt Bs w p nv mv s ∧ RsAt B S w r (s.now.map Dm.all) (mksOf s) ∧ B ≤ Bs ∧ (∀ k, Own p nv mv k → O k ∧ k ≠ P) ∧ (∀ k, S k → O k ∧ k ≠ P) ∧ ∀ k, Own p nv mv k → ¬ S k
  op : O P
  lo : ∀ k, O k → B ≤ k
  lt : ∀ k, O k → k < w.heap.size
  al : Alls s
  alm : AllsM s
theorem PaAt.keep {B P : Nat} {O : Nat → Prop} {w w' : World} {s : St} (h : PaAt B P O w s) (hz : w.heap.size ≤ w'.heap.size) (hk : ∀ k, O k → w'.heap[k]? = w.heap[k]?) : PaAt B P O w' s := by
  obtain ⟨p, nv, mv, r, S, Bs, h1, h2, h3, h4, h5, h6, h7⟩ := h.ex
  exact { h with
    ex := ⟨p, nv, mv, r, S, Bs, (hk P h.op).trans h1, h2.keep (fun k _ ho => hk k (h5 k ho).1), h3.keep hz (fun k hS => hk k (h6 k hS).1), h4, h5, h6, h7⟩
    lt := fun k hS => Nat.lt_of_lt_of_le (h.lt k hS) hz }
theorem PaAt.below {B P : Nat} {O : Nat → Prop} {w w' : World} {s : St} (h : PaAt B P O w s) (hb : Below w.heap.size w w') : PaAt B P O w' s := h.keep hb.size fun k hk => hb.block k (h.lt k hk)
def PcOut (B P : Nat) (O : Nat → Prop) (s : St) (k x v : Int) (w : World) (e : Ending) (w' : World) : Prop := e = .returned (.bool true) ∧ ∃ O', PaAt B P O' w' (s.cut k x v) ∧ SStp B O w w' ∧ Grown O w w' O'

set_option maxRecDepth 10000 in
set_option maxHeartbeats 1000000 in
theorem plays_cut {B P : Nat} {O : Nat → Prop} {s : St} (k x v n : Int) (w : World) (h : PaAt B P O w s) : Calls Tryz.prog 9 #[.pointer (some ⟨P, 0, none⟩), .agg #[.int .i64 1, .int .i64 k, .int .i64 x, .int .i64 v, .int .i64 n]] w (PcOut B P O s k x v w) := by
  have hBw : B ≤ w.heap.size := Nat.le_of_lt (Nat.lt_of_le_of_lt (h.lo P h.op) (h.lt P h.op))
  obtain ⟨W, hW⟩ : ∃ W, w.alloc (.cells #[.int .i64 1, .int .i64 k, .int .i64 x, .int .i64 v, .int .i64 n] 63) = W := ⟨_, rfl⟩
  have hb0 : Below w.heap.size w W := by rw [← hW]; exact (Below.refl _ _).alloc (Nat.le_refl _) _
  have HB : Hid (Below w.heap.size w W) := hb0
  have g0 : W.heap[w.heap.size]? = some (.cells #[.int .i64 1, .int .i64 k, .int .i64 x, .int .i64 v, .int .i64 n] 63 (0, 0)) := by rw [← hW]; exact heap_alloc_new w _
  have hlt := (Array.getElem?_eq_some_iff.1 g0).1
  have hA := h.below hb0
  obtain ⟨p, nv, mv, r, S, Bs, h1, h2, h3, h4, h5, h6, h7⟩ := hA.ex
  have hPl := hA.lt P hA.op
  have HX : Hid (∀ w', Off (fun k => O k ∧ k ≠ P) W w' → w'.cell? ⟨P, 0, none⟩ = some (.pointer (some ⟨p, 0, none⟩)) ∧ w'.cell? ⟨P, 1, none⟩ = some (.pointer (some ⟨r, 0, none⟩)) ∧ w'.cell? ⟨w.heap.size, 0, none⟩ = some (.int .i64 1) ∧ w'.cell? ⟨w.heap.size, 1, none⟩ = some (.int .i64 k) ∧ w'.cell? ⟨w.heap.size, 2, none⟩ = some (.int .i64 x) ∧ w'.cell? ⟨w.heap.size, 3, none⟩ = some (.int .i64 v) ∧ Off (fun k => O k ∧ k ≠ P) W w') := fun w' ho => by
    have f1 := (ho.block P hPl (fun e => e.2 rfl)).trans h1
    have f0 := (ho.block _ hlt (fun e => by have := h.lt _ e.1; omega)).trans g0
    exact ⟨cell_of f1 0, cell_of f1 1, cell_of f0 0, cell_of f0 1, cell_of f0 2, cell_of f0 3, ho⟩
  obtain ⟨c0, _, c2, _⟩ := HX.out W (Off.refl _ _)
  have HC : Hid (Calls Tryz.prog 21 #[.pointer (some ⟨p, 0, none⟩), .agg #[.int .i64 k, .int .i64 x, .int .i64 v]] W.drew (CutOut Bs p nv mv s k x v W.drew)) := cut_any Bs p nv mv s k x v W.drew (h2.below (Below.refl _ _).drew)
  obtain ⟨e1, e2, e3⟩ := cut_rel h.al k x v
  obtain ⟨bw, hbw⟩ : ∃ b, s.went k x v = b := ⟨_, rfl⟩
  obtain ⟨bm, hbm⟩ : ∃ b, s.may k x v = b := ⟨_, rfl⟩
  have HC2 : Hid (∀ w2, RsAt B S w2 r (s.now.map Dm.all) (mksOf s) → Calls Tryz.prog 33 #[.pointer (some ⟨r, 0, none⟩), .agg #[.int .i64 k, .int .i64 x, .int .i64 v]] w2 fun e w' => e = .returned (.tuple #[.bool bw, .bool bm]) ∧ ∃ S', RsAt B S' w' r ((s.cut k x v).now.map Dm.all) (mksOf (s.cut k x v)) ∧ SStp B S w2 w' ∧ Grown S w2 w' S') := fun w2 hq => by
    have := rCut_any k x v w2 hq
    rw [e1, cut_mks, ← hbw, ← hbm, e2, e3]
    exact this
  have HSt : Hid (∀ w2, Stp Bs p nv mv W.drew w2 → RsAt B S w2 r (s.now.map Dm.all) (mksOf s) ∧ Off (fun k => O k ∧ k ≠ P) W w2 ∧ Below B W w2) := fun w2 hs =>
    ⟨h3.keep hs.off.size (fun j hj => hs.off.block j (h3.lt j hj) (fun e => h7 j e hj)), ⟨hs.off.size, fun j hj hn => hs.off.block j hj (fun e => hn (h5 j e))⟩, (Below.refl B W).drew.trans (hs.below.mono h4)⟩
  have HEnd : Hid (∀ w2 w3 S', StAt Bs w2 p nv mv (s.cut k x v) → Off (fun k => O k ∧ k ≠ P) W w2 → Below B W w2 → RsAt B S' w3 r ((s.cut k x v).now.map Dm.all) (mksOf (s.cut k x v)) → SStp B S w2.drew w3 → Grown S w2.drew w3 S' → ∃ O', PaAt B P O' w3 (s.cut k x v) ∧ SStp B O w w3 ∧ Grown O w w3 O') := fun w2 w3 S' q1 q2 q3 q4 q5 q6 => by
    have hWs : w.heap.size ≤ W.heap.size := hb0.size
    have hS' : ∀ j, S' j → (O j ∧ j ≠ P) ∨ (w2.heap.size ≤ j ∧ j < w3.heap.size) := fun j hj => by
      rcases q6 j hj with e | e
      · exact .inl (h6 j e)
      · exact .inr e
    have hO3 : Off (fun k => O k ∧ k ≠ P) W w3 := q2.trans ⟨q5.off.size, fun j hj hn => q5.off.block j hj (fun e => hn (h6 j e))⟩
    refine ⟨fun j => O j ∨ S' j, ⟨⟨p, nv, mv, r, S', Bs, (hO3.block P hPl (fun e => e.2 rfl)).trans h1, q1.keep (fun j hj ho => q5.off.block j hj (fun e => h7 j ho e)), q4, h4, fun j hj => ⟨.inl (h5 j hj).1, (h5 j hj).2⟩, fun j hj => ?_, fun j hj hS => ?_⟩, .inl h.op, ?_, ?_, alls_cut h.al k x v, ?_⟩, ⟨?_, ?_⟩, ?_⟩
    · refine ⟨.inr hj, fun e => ?_⟩
      rcases hS' j hj with a | a
      · exact a.2 e
      · have := Nat.lt_of_lt_of_le hPl q2.size
        omega
    · rcases q6 j hS with a | a
      · exact h7 j hj a
      · have h8 : j < w2.heap.size := own_lt q1 hj
        have h9 : w2.heap.size ≤ j := a.1
        omega
    · rintro j (e | e)
      · exact h.lo j e
      · exact q4.lo j e
    · rintro j (e | e)
      · exact Nat.lt_of_lt_of_le (h.lt j e) (Nat.le_trans hWs hO3.size)
      · exact q4.lt j e
    · intro d hd
      rw [(cut_len s k x v).2.1] at hd
      exact h.alm d hd
    · exact (hb0.mono hBw).trans (q3.trans ((Below.refl B w2).drew.trans q5.below))
    · exact (Off.of_below hb0).trans (hO3.less fun j hj => hj.1)
    · rintro j (e | e)
      · exact .inl e
      · rcases hS' j e with a | a
        · exact .inl a.1
        · exact .inr ⟨Nat.le_trans (Nat.le_trans hWs q2.size) a.1, a.2⟩
  have HSO : Hid (∀ a b, SStp B S a b → Off (fun k => O k ∧ k ≠ P) a b) := fun a b q => q.off.less h6
  have HWM : Hid (s.went k x v = bw ∧ s.may k x v = bm) := ⟨hbw, hbm⟩
  have hbb : (bw == bw) = true := by simp
  have hmm : (bm == bm) = true := by simp
  clear h hA hb0 g0 hlt h1 h2 h3 h4 h5 h6 h7 hPl e1 e2 e3 hbw hbm
  go_enter Tryz.func9, Tryz.ntmps9
  go_wp2_with fail
  go_region_held3 (fun w' => w'.cell? ⟨P, 0, none⟩ = some (.pointer (some ⟨p, 0, none⟩)) ∧ w'.cell? ⟨P, 1, none⟩ = some (.pointer (some ⟨r, 0, none⟩)) ∧ w'.cell? ⟨w.heap.size, 0, none⟩ = some (.int .i64 1) ∧ w'.cell? ⟨w.heap.size, 1, none⟩ = some (.int .i64 k) ∧ w'.cell? ⟨w.heap.size, 2, none⟩ = some (.int .i64 x) ∧ w'.cell? ⟨w.heap.size, 3, none⟩ = some (.int .i64 v) ∧ Off (fun k => O k ∧ k ≠ P) W w')
    (first | exact HX.out _ (Off.of_below (Below.refl _ _).drew) | exact HX.out _ HO2.out | assumption)
    (first
      | (go_at_call 21; refine calls_at HC.out (by with_reducible rfl) (by with_reducible rfl) ?_; rintro e w2 ⟨he, hA2, hS2⟩; rw [HWM.out.1, HWM.out.2] at he; subst he; (have HA2 : Hid (StAt Bs w2 p nv mv (s.cut k x v)) := hA2); (have HR2 : Hid (RsAt B S w2 r (s.now.map Dm.all) (mksOf s)) := (HSt.out w2 hS2).1); (have HO2 : Hid (Off (fun k => O k ∧ k ≠ P) W w2) := (HSt.out w2 hS2).2.1); (have HB2 : Hid (Below B W w2) := (HSt.out w2 hS2).2.2); clear hA2 hS2))
  go_wp2_with fail
  have HC3 : Hid (Calls Tryz.prog 33 #[.pointer (some ⟨r, 0, none⟩), .agg #[.int .i64 k, .int .i64 x, .int .i64 v]] w2.drew fun e w' => e = .returned (.tuple #[.bool bw, .bool bm]) ∧ ∃ S', RsAt B S' w' r ((s.cut k x v).now.map Dm.all) (mksOf (s.cut k x v)) ∧ SStp B S w2.drew w' ∧ Grown S w2.drew w' S') := HC2.out w2.drew (HR2.out.below (Below.refl _ _).drew)
  have HX2 : Hid (∀ w', Off (fun k => O k ∧ k ≠ P) W w' → w'.cell? ⟨P, 1, none⟩ = some (.pointer (some ⟨r, 0, none⟩)) ∧ w'.cell? ⟨w.heap.size, 1, none⟩ = some (.int .i64 k) ∧ w'.cell? ⟨w.heap.size, 2, none⟩ = some (.int .i64 x) ∧ w'.cell? ⟨w.heap.size, 3, none⟩ = some (.int .i64 v)) := fun w' ho => by
    obtain ⟨_, y1, _, y3, y4, y5, _⟩ := HX.out w' ho
    exact ⟨y1, y3, y4, y5⟩
  go_region_held3 (fun w' => w'.cell? ⟨P, 1, none⟩ = some (.pointer (some ⟨r, 0, none⟩)) ∧ w'.cell? ⟨w.heap.size, 1, none⟩ = some (.int .i64 k) ∧ w'.cell? ⟨w.heap.size, 2, none⟩ = some (.int .i64 x) ∧ w'.cell? ⟨w.heap.size, 3, none⟩ = some (.int .i64 v))
    (first | exact HX2.out _ HO3.out | exact HX2.out _ (HO2.out.trans (Off.of_below (Below.refl _ _).drew)) | assumption)
    (first
      | (go_at_call 33; refine calls_at HC3.out (by with_reducible rfl) (by with_reducible rfl) ?_; rintro e w3 ⟨rfl, S', q4, q5, q6⟩; obtain ⟨O', z1, z2, z3⟩ := HEnd.out w2 w3 S' HA2.out HO2.out HB2.out q4 q5 q6; (have HZ : Hid (PaAt B P O' w3 (s.cut k x v) ∧ SStp B O w w3 ∧ Grown O w w3 O') := ⟨z1, z2, z3⟩); (have HO3 : Hid (Off (fun k => O k ∧ k ≠ P) W w3) := HO2.out.trans ((Off.of_below (Below.refl _ _).drew).trans (HSO.out w2.drew w3 q5))); clear q4 q5 q6 z1 z2 z3))
  go_wp2_with fail
  go_ret
  exact ⟨ret_bool (by simp), O', HZ.out.1, HZ.out.2.1, HZ.out.2.2⟩
end Go.Proofs.YtchpapppkmnfnaaGreatDoor

namespace Go.Proofs.YtchpapppkmnfnaaGreatDoor
open Go.RowKit

theorem all_bits {d : Dm} (h : d.Ok) (ha : d.Any) : d.all = ((List.range 64).filter (bt d.a d.b)).map fun k : Nat => d.f + (k : Int) := by
  have hf := fine_of h ha
  refine up_ext hf.up ?_ fun v => ?_
  · rw [List.pairwise_map]
    exact ((List.pairwise_lt_range (n := 64)).filter _).imp fun hlt => by omega
  · rw [hf.all, Dm.has_is h, List.mem_map]
    constructor
    · rintro ⟨k, hk, rfl, hb⟩
      exact ⟨k, List.mem_filter.2 ⟨List.mem_range.2 hk, hb⟩, rfl⟩
    · rintro ⟨k, hk, rfl⟩
      obtain ⟨h1, h2⟩ := List.mem_filter.1 hk
      exact ⟨k, List.mem_range.1 h1, rfl, h2⟩
theorem all_len {d : Dm} (h : d.Ok) (ha : d.Any) : (d.all.length : Int) = d.size := by
  rw [all_bits h ha, List.length_map, ← List.countP_eq_length_filter]
  exact (bSize_is h.a h.b).symm
theorem all_len64 {d : Dm} (h : d.Ok) (ha : d.Any) : d.all.length ≤ 64 := by
  rw [all_bits h ha, List.length_map]
  exact Nat.le_trans (List.length_filter_le _ _) (by simp)
theorem all_pos {d : Dm} (h : d.Ok) (ha : d.Any) : 0 < d.all.length := List.length_pos_iff.2 (all_ne (fine_of h ha))
theorem up_first : ∀ {L : List Int} (h : 0 < L.length) {x : Int}, L.Pairwise (· < ·) → x ∈ L → (∀ v ∈ L, x ≤ v) → L[0] = x
  | l :: L, _, x, hu, hx, hm => by
    rcases List.mem_cons.1 hx with e | e
    · exact e.symm
    · have h1 := (List.pairwise_cons.1 hu).1 x e
      have h2 := hm l (by simp)
      omega
theorem up_last {L : List Int} (h : 0 < L.length) {x : Int} (hu : L.Pairwise (· < ·)) (hx : x ∈ L) (hm : ∀ v ∈ L, v ≤ x) : L[L.length - 1] = x := by
  obtain ⟨i, hi, rfl⟩ := List.mem_iff_getElem.1 hx
  have h1 := hm L[L.length - 1] (List.getElem_mem _)
  by_cases e : i = L.length - 1
  · simp [e]
  · have := List.pairwise_iff_getElem.1 hu i (L.length - 1) hi (by omega) (by omega)
    omega
theorem all_first {d : Dm} (h : d.Ok) (ha : d.Any) : d.all[0]'(all_pos h ha) = d.lo := by
  have hf := fine_of h ha
  exact up_first _ hf.up ((hf.all _).2 hf.loIn) fun v hv => hf.least v ((hf.all v).1 hv)
theorem all_last {d : Dm} (h : d.Ok) (ha : d.Any) : d.all[d.all.length - 1]'(by have := all_pos h ha; omega) = d.hi := by
  have hf := fine_of h ha
  exact up_last (all_pos h ha) hf.up ((hf.all _).2 hf.hiIn) fun v hv => hf.most v ((hf.all v).1 hv)
theorem all_has {d : Dm} (h : d.Ok) (ha : d.Any) (v : Int) : d.has v = d.all.any (fun u => u == v) := by
  have hf := fine_of h ha
  cases hh : d.has v with
  | true =>
    symm
    rw [List.any_eq_true]
    exact ⟨v, (hf.all v).2 hh, by simp⟩
  | false =>
    symm
    rw [List.any_eq_false]
    intro u hu e
    have : u = v := by simpa using e
    subst this
    rw [(hf.all u).1 hu] at hh
    cases hh

/-- Marks. -/
theorem mks_mark {s : St} (hl : s.noted.length = s.marks * s.now.length) : mksOf s.mark = mksOf s ++ [s.now.map Dm.all] := by
  unfold mksOf St.mark
  simp only
  rw [List.range_succ, List.map_append]
  congr 1
  · refine List.map_congr_left fun i hi => ?_
    have hi := List.mem_range.1 hi
    have : (i + 1) * s.now.length ≤ s.marks * s.now.length := Nat.mul_le_mul_right _ hi
    rw [Nat.succ_mul] at this
    rw [List.drop_append_of_le_length (by omega), List.take_append_of_le_length (by rw [List.length_drop]; omega)]
  · simp only [List.map_cons, List.map_nil]
    rw [List.drop_append, List.drop_eq_nil_of_le (by omega), hl]
    simp
theorem mks_back {s : St} {k : Int} (hl : s.noted.length = s.marks * s.now.length) (hk : s.backB k = true) : mksOf (s.back k) = (mksOf s).take k.toNat ∧ ∃ h : k.toNat < (mksOf s).length, (s.back k).now.map Dm.all = (mksOf s)[k.toNat] := by
  have hk2 : 0 ≤ k ∧ k < (s.marks : Int) := by
    unfold St.backB at hk
    simpa using hk
  have hkm : k.toNat < s.marks := by omega
  have h1 : (k.toNat + 1) * s.now.length ≤ s.marks * s.now.length := Nat.mul_le_mul_right _ hkm
  rw [Nat.succ_mul] at h1
  have hn : ((s.noted.drop (k.toNat * s.now.length)).take s.now.length).length = s.now.length := by
    rw [List.length_take, List.length_drop]; omega
  unfold St.back
  rw [if_pos hk]
  refine ⟨?_, by simp [mksOf]; omega, by simp [mksOf]⟩
  unfold mksOf
  simp only [hn]
  rw [← List.map_take]
  have hr : (List.range s.marks).take k.toNat = List.range k.toNat := by
    rw [List.take_range]; congr 1; omega
  rw [hr]
  refine List.map_congr_left fun i hi => ?_
  have hi := List.mem_range.1 hi
  have h2 : (i + 1) * s.now.length ≤ k.toNat * s.now.length := Nat.mul_le_mul_right _ hi
  rw [Nat.succ_mul] at h2
  rw [List.drop_take, List.take_take]
  congr 2
  omega
end Go.Proofs.YtchpapppkmnfnaaGreatDoor

namespace Go.Proofs.YtchpapppkmnfnaaGreatDoor
open Go.RowKit

structure Duo (B : Nat) (O : Nat → Prop) (w : World) (p r : Nat) (s : St) (LL : List (List Int)) (MM : List (List (List Int))) : Prop where
  ex : ∃ nv mv S Bs, StAt Bs w p nv mv s ∧ RsAt B S w r LL MM ∧ B ≤ Bs ∧ (∀ k, Own p nv mv k → O k) ∧ (∀ k, S k → O k) ∧ ∀ k, Own p nv mv k → ¬ S k
  lo : ∀ k, O k → B ≤ k
  lt : ∀ k, O k → k < w.heap.size
def DuOut (B : Nat) (O : Nat → Prop) (p r : Nat) (s : St) (LL : List (List Int)) (MM : List (List (List Int))) (v : Value) (w : World) (e : Ending) (w' : World) : Prop := e = .returned v ∧ ∃ O', Duo B O' w' p r s LL MM ∧ SStp B O w w' ∧ Grown O w w' O'
section
variable {B : Nat} {O : Nat → Prop} {w w' : World} {p r : Nat} {s s' : St} {LL LL' : List (List Int)} {MM MM' : List (List (List Int))}
theorem Duo.keep (h : Duo B O w p r s LL MM) (hz : w.heap.size ≤ w'.heap.size) (hk : ∀ k, O k → w'.heap[k]? = w.heap[k]?) : Duo B O w' p r s LL MM := by
  obtain ⟨nv, mv, S, Bs, h2, h3, h4, h5, h6, h7⟩ := h.ex
  exact ⟨⟨nv, mv, S, Bs, h2.keep (fun k _ ho => hk k (h5 k ho)), h3.keep hz (fun k hS => hk k (h6 k hS)), h4, h5, h6, h7⟩, h.lo, fun k hS => Nat.lt_of_lt_of_le (h.lt k hS) hz⟩
theorem Duo.below (h : Duo B O w p r s LL MM) (hb : Below w.heap.size w w') : Duo B O w' p r s LL MM := h.keep hb.size fun k hk => hb.block k (h.lt k hk)
theorem Duo.prog {nv mv mv' : Value} {S : Nat → Prop} {Bs : Nat} (h : Duo B O w p r s LL MM) (_h2 : StAt Bs w p nv mv s) (h3 : RsAt B S w r LL MM) (h4 : B ≤ Bs) (h5 : ∀ k, Own p nv mv k → O k) (h6 : ∀ k, S k → O k) (h7 : ∀ k, Own p nv mv k → ¬ S k)
    (a1 : StAt Bs w' p nv mv' s') (a2 : Stp Bs p nv mv w w') (a3 : ∀ k, mv'.ownBlock = some k → mv.ownBlock = some k ∨ w.heap.size ≤ k) : ∃ O', Duo B O' w' p r s' LL MM ∧ SStp B O w w' ∧ Grown O w w' O' := by
  have hown : ∀ k, Own p nv mv' k → Own p nv mv k ∨ (w.heap.size ≤ k ∧ k < w'.heap.size) := fun k hk => by
    rcases hk with e | e | e
    · exact .inl (.inl e)
    · exact .inl (.inr (.inl e))
    · rcases a3 k e with a | a
      · exact .inl (.inr (.inr a))
      · exact .inr ⟨a, own_lt a1 (.inr (.inr e))⟩
  refine ⟨fun k => O k ∨ Own p nv mv' k, ⟨⟨nv, mv', S, Bs, a1, h3.keep a2.off.size (fun k hk => a2.off.block k (h3.lt k hk) (fun e => h7 k e hk)), h4, fun k hk => .inr hk, fun k hk => .inl (h6 k hk), fun k hk hS => ?_⟩, ?_, ?_⟩, ⟨a2.below.mono h4, a2.off.less h5⟩, fun k hk => ?_⟩
  · rcases hown k hk with e | e
    · exact h7 k e hS
    · have := h3.lt k hS; omega
  · rintro k (e | e)
    · exact h.lo k e
    · exact Nat.le_trans h4 (own_lo a1 e)
  · rintro k (e | e)
    · exact Nat.lt_of_lt_of_le (h.lt k e) a2.off.size
    · exact own_lt a1 e
  · rcases hk with e | e
    · exact .inl e
    · rcases hown k e with a | a
      · exact .inl (h5 k a)
      · exact .inr a
theorem Duo.doc {nv mv : Value} {S S' : Nat → Prop} {Bs : Nat} (h : Duo B O w p r s LL MM) (h2 : StAt Bs w p nv mv s) (h4 : B ≤ Bs) (h5 : ∀ k, Own p nv mv k → O k) (h6 : ∀ k, S k → O k) (h7 : ∀ k, Own p nv mv k → ¬ S k)
    (a1 : RsAt B S' w' r LL' MM') (a2 : SStp B S w w') (a3 : Grown S w w' S') : ∃ O', Duo B O' w' p r s LL' MM' ∧ SStp B O w w' ∧ Grown O w w' O' := by
  refine ⟨fun k => O k ∨ S' k, ⟨⟨nv, mv, S', Bs, h2.keep (fun k hk ho => a2.off.block k hk (fun e => h7 k ho e)), a1, h4, fun k hk => .inl (h5 k hk), fun k hk => .inr hk, fun k hk hS => ?_⟩, ?_, ?_⟩, ⟨a2.below, a2.off.less h6⟩, fun k hk => ?_⟩
  · rcases a3 k hS with e | e
    · exact h7 k hk e
    · have := own_lt h2 hk; omega
  · rintro k (e | e)
    · exact h.lo k e
    · exact a1.lo k e
  · rintro k (e | e)
    · exact Nat.lt_of_lt_of_le (h.lt k e) a2.off.size
    · exact a1.lt k e
  · rcases hk with e | e
    · exact .inl e
    · rcases a3 k e with a | a
      · exact .inl (h6 k a)
      · exact .inr a
/-- The calls. -/
theorem Duo.cut1 (h : Duo B O w p r s LL MM) (k x v : Int) : Calls Tryz.prog 21 #[.pointer (some ⟨p, 0, none⟩), .agg #[.int .i64 k, .int .i64 x, .int .i64 v]] w (DuOut B O p r (s.cut k x v) LL MM (.tuple #[.bool (s.went k x v), .bool (s.may k x v)]) w) := by
  obtain ⟨nv, mv, S, Bs, h2, h3, h4, h5, h6, h7⟩ := h.ex
  exact (cut_any Bs p nv mv s k x v w h2).mono fun e w' hq => ⟨hq.1, h.prog h2 h3 h4 h5 h6 h7 hq.2.1 hq.2.2 fun k hk => .inl hk⟩
theorem Duo.cut2 (h : Duo B O w p r s LL MM) (k x v : Int) : Calls Tryz.prog 33 #[.pointer (some ⟨r, 0, none⟩), .agg #[.int .i64 k, .int .i64 x, .int .i64 v]] w (DuOut B O p r s (cutLL LL k x v) MM (.tuple #[.bool (wentLL LL k x v), .bool (mayLL LL k x v)]) w) := by
  obtain ⟨nv, mv, S, Bs, h2, h3, h4, h5, h6, h7⟩ := h.ex
  refine (rCut_any k x v w h3).mono fun e w' hq => ?_
  obtain ⟨q1, S', q2, q3, q4⟩ := hq
  exact ⟨q1, h.doc h2 h4 h5 h6 h7 q2 q3 q4⟩
theorem Duo.mark1 (h : Duo B O w p r s LL MM) (hm : s.marks + 1 ≤ 10000) : Calls Tryz.prog 22 #[.pointer (some ⟨p, 0, none⟩)] w (DuOut B O p r s.mark LL MM (.int .i64 (s.marks : Int)) w) := by
  obtain ⟨nv, mv, S, Bs, h2, h3, h4, h5, h6, h7⟩ := h.ex
  refine (mark_any Bs p nv mv s w h2 hm).mono fun e w' hq => ?_
  obtain ⟨mv', q1, q2, q3, q4⟩ := hq
  exact ⟨q1, h.prog h2 h3 h4 h5 h6 h7 q2 q3 q4⟩
theorem Duo.mark2 (h : Duo B O w p r s LL MM) (hm : MM.length + 1 ≤ 10000) : Calls Tryz.prog 34 #[.pointer (some ⟨r, 0, none⟩)] w (DuOut B O p r s LL (MM ++ [LL]) (.int .i64 (MM.length : Int)) w) := by
  obtain ⟨nv, mv, S, Bs, h2, h3, h4, h5, h6, h7⟩ := h.ex
  refine (rMark_any w h3 hm).mono fun e w' hq => ?_
  obtain ⟨q1, S', q2, q3, q4⟩ := hq
  exact ⟨q1, h.doc h2 h4 h5 h6 h7 q2 q3 q4⟩
theorem Duo.back1 (h : Duo B O w p r s LL MM) (k : Int) : Calls Tryz.prog 26 #[.pointer (some ⟨p, 0, none⟩), .int .i64 k] w (DuOut B O p r (s.back k) LL MM (.bool (s.backB k)) w) := by
  obtain ⟨nv, mv, S, Bs, h2, h3, h4, h5, h6, h7⟩ := h.ex
  refine (back_any Bs p nv mv s k w h2).mono fun e w' hq => ?_
  obtain ⟨mv', q1, q2, q3, q4⟩ := hq
  exact ⟨q1, h.prog h2 h3 h4 h5 h6 h7 q2 q3 fun k hk => .inl (q4 k hk)⟩
theorem Duo.back2 (h : Duo B O w p r s LL MM) (k : Int) : Calls Tryz.prog 35 #[.pointer (some ⟨r, 0, none⟩), .int .i64 k] w (DuOut B O p r s (if backL MM k then MM.getD k.toNat [] else LL) (if backL MM k then MM.take k.toNat else MM) (.bool (backL MM k)) w) := by
  obtain ⟨nv, mv, S, Bs, h2, h3, h4, h5, h6, h7⟩ := h.ex
  refine (rBack_any k w h3).mono fun e w' hq => ?_
  obtain ⟨q1, S', q2, q3, q4⟩ := hq
  exact ⟨q1, h.doc h2 h4 h5 h6 h7 q2 q3 q4⟩
/-- A pair is two stores and a box. -/
theorem PaAt.duo {P : Nat} (h : PaAt B P O w s) : ∃ p r, w.heap[P]? = some (.cells #[.pointer (some ⟨p, 0, none⟩), .pointer (some ⟨r, 0, none⟩)] 39 (0, 0)) ∧ Duo B (fun k => O k ∧ k ≠ P) w p r s (s.now.map Dm.all) (mksOf s) := by
  obtain ⟨p, nv, mv, r, S, Bs, h1, h2, h3, h4, h5, h6, h7⟩ := h.ex
  exact ⟨p, r, h1, ⟨nv, mv, S, Bs, h2, h3, h4, h5, h6, h7⟩, fun k hk => h.lo k hk.1, fun k hk => h.lt k hk.1⟩
theorem Duo.pair {P : Nat} (h : Duo B O w p r s (s.now.map Dm.all) (mksOf s)) (h1 : w.heap[P]? = some (.cells #[.pointer (some ⟨p, 0, none⟩), .pointer (some ⟨r, 0, none⟩)] 39 (0, 0))) (hP : ¬ O P) (hB : B ≤ P) (ha : Alls s) (hm : AllsM s) : PaAt B P (fun k => O k ∨ k = P) w s := by
  obtain ⟨nv, mv, S, Bs, h2, h3, h4, h5, h6, h7⟩ := h.ex
  refine ⟨⟨p, nv, mv, r, S, Bs, h1, h2, h3, h4, fun k hk => ⟨.inl (h5 k hk), fun e => hP (e ▸ h5 k hk)⟩, fun k hk => ⟨.inl (h6 k hk), fun e => hP (e ▸ h6 k hk)⟩, h7⟩, .inr rfl, ?_, ?_, ha, hm⟩
  · rintro k (e | e)
    · exact h.lo k e
    · rw [e]; exact hB
  · rintro k (e | e)
    · exact h.lt k e
    · rw [e]; exact (Array.getElem?_eq_some_iff.1 h1).1
end
/-- Mark and Back, of lists as of words. -/
theorem mark_rel {s : St} (ha : Alls s) (hm : AllsM s) (hl : s.noted.length = s.marks * s.now.length) : s.mark.now.map Dm.all = s.now.map Dm.all ∧ mksOf s.mark = mksOf s ++ [s.now.map Dm.all] ∧ (mksOf s).length = s.marks ∧ Alls s.mark ∧ AllsM s.mark := by
  refine ⟨rfl, mks_mark hl, by simp [mksOf], ha, fun d hd => ?_⟩
  rcases List.mem_append.1 hd with e | e
  · exact hm d e
  · exact ha d e
theorem back_rel {s : St} (ha : Alls s) (hm : AllsM s) (hl : s.noted.length = s.marks * s.now.length) (k : Int) : s.backB k = backL (mksOf s) k ∧ (s.back k).now.map Dm.all = (if backL (mksOf s) k then (mksOf s).getD k.toNat [] else s.now.map Dm.all) ∧ mksOf (s.back k) = (if backL (mksOf s) k then (mksOf s).take k.toNat else mksOf s) ∧ Alls (s.back k) ∧ AllsM (s.back k) ∧ (s.back k).marks ≤ s.marks := by
  have e0 : s.backB k = backL (mksOf s) k := by unfold St.backB backL; simp [mksOf]
  cases hb : s.backB k with
  | false =>
    have e1 : s.back k = s := by unfold St.back; rw [hb]; rfl
    rw [← e0, hb, e1]
    exact ⟨rfl, rfl, rfl, ha, hm, Nat.le_refl _⟩
  | true =>
    obtain ⟨q1, q2, q3⟩ := mks_back hl hb
    rw [← e0, hb, if_pos rfl, if_pos rfl]
    refine ⟨rfl, ?_, q1, ?_, ?_, ?_⟩
    · rw [q3, List.getD_eq_getElem?_getD, List.getElem?_eq_getElem q2]; rfl
    · intro d hd
      unfold St.back at hd
      rw [if_pos hb] at hd
      exact hm d (List.mem_of_mem_drop (List.mem_of_mem_take hd))
    · intro d hd
      unfold St.back at hd
      rw [if_pos hb] at hd
      exact hm d (List.mem_of_mem_take hd)
    · unfold St.back
      rw [if_pos hb]
      have : 0 ≤ k ∧ k < (s.marks : Int) := by unfold St.backB at hb; simpa using hb
      show k.toNat ≤ s.marks
      omega
end Go.Proofs.YtchpapppkmnfnaaGreatDoor

namespace Go.Proofs.YtchpapppkmnfnaaGreatDoor
open Go.RowKit

/-- What calls on two stores have changed since W. -/
structure Ch (B : Nat) (T : Nat → Prop) (W w : World) (O : Nat → Prop) : Prop where
  off : Off T W w
  below : Below B W w
  own : ∀ k, O k → T k ∨ W.heap.size ≤ k
theorem Ch.refl (B : Nat) (T : Nat → Prop) (W : World) : Ch B T W W T := ⟨Off.refl _ _, Below.refl _ _, fun _ h => .inl h⟩
theorem Ch.next {B : Nat} {T O O' : Nat → Prop} {W w w' : World} (h : Ch B T W w O) (h1 : SStp B O w w') (h2 : Grown O w w' O') : Ch B T W w' O' :=
  ⟨⟨Nat.le_trans h.off.size h1.off.size, fun k hk hn => (h1.off.block k (Nat.lt_of_lt_of_le hk h.off.size) fun e => by
      rcases h.own k e with a | a
      · exact hn a
      · omega).trans (h.off.block k hk hn)⟩,
    h.below.trans h1.below, fun k hk => by
      rcases h2 k hk with a | a
      · exact h.own k a
      · exact .inr (Nat.le_trans h.off.size a.1)⟩
theorem Ch.read {B : Nat} {T O : Nat → Prop} {W w w' : World} (h : Ch B T W w O) (hb : Below w.heap.size w w') (hB : B ≤ w.heap.size) : Ch B T W w' O :=
  ⟨h.off.trans (Off.of_below hb), h.below.trans (hb.mono hB), h.own⟩
theorem Ch.drew {B : Nat} {T O : Nat → Prop} {W w : World} (h : Ch B T W w O) : Ch B T W w.drew O := ⟨⟨h.off.size, h.off.block⟩, h.below.drew, h.own⟩
theorem Ch.pair {B P : Nat} {T O : Nat → Prop} {W w : World} {p r : Nat} {s : St} (h : Ch B T W w O) (hd : Duo B O w p r s (s.now.map Dm.all) (mksOf s)) (h1 : W.heap[P]? = some (.cells #[.pointer (some ⟨p, 0, none⟩), .pointer (some ⟨r, 0, none⟩)] 39 (0, 0))) (hT : ¬ T P) (hB : B ≤ P) (ha : Alls s) (hm : AllsM s) : PaAt B P (fun k => O k ∨ k = P) w s := by
  have hPl := (Array.getElem?_eq_some_iff.1 h1).1
  refine hd.pair ((h.off.block P hPl hT).trans h1) (fun e => ?_) hB ha hm
  rcases h.own P e with a | a
  · exact hT a
  · omega
def PlOut (B P : Nat) (O : Nat → Prop) (s : St) (w : World) (e : Ending) (w' : World) : Prop := e = .returned (.bool true) ∧ ∃ O' s', PaAt B P O' w' s' ∧ s'.marks ≤ s.marks + 1 ∧ SStp B O w w' ∧ Grown O w w' O'
theorem Ch.fin {B P : Nat} {O T O3 : Nat → Prop} {w W w3 : World} (h : Ch B T W w3 O3) (hb : Below w.heap.size w W) (hB : B ≤ w.heap.size) (hO : O P) (hT : ∀ k, T k → O k) (hlt : ∀ k, O3 k → k < w3.heap.size) : SStp B O w w3 ∧ Grown O w w3 (fun k => O3 k ∨ k = P) := by
  refine ⟨⟨(hb.mono hB).trans h.below, (Off.of_below hb).trans (h.off.less hT)⟩, fun k hk => ?_⟩
  rcases hk with e | e
  · rcases h.own k e with a | a
    · exact .inl (hT k a)
    · exact .inr ⟨Nat.le_trans hb.size a, hlt k e⟩
  · rw [e]; exact .inl hO
theorem noted_len {B P : Nat} {O : Nat → Prop} {w : World} {s : St} (h : PaAt B P O w s) : s.noted.length = s.marks * s.now.length := by
  obtain ⟨_, _, _, _, _, _, _, h2, _⟩ := h.ex
  exact h2.len

set_option maxRecDepth 10000 in
set_option maxHeartbeats 1000000 in
theorem plays_mark {B P : Nat} {O : Nat → Prop} {s : St} (k x v n : Int) (w : World) (h : PaAt B P O w s) (hm : s.marks + 1 ≤ 10000) : Calls Tryz.prog 9 #[.pointer (some ⟨P, 0, none⟩), .agg #[.int .i64 2, .int .i64 k, .int .i64 x, .int .i64 v, .int .i64 n]] w (PlOut B P O s w) := by
  have hBw : B ≤ w.heap.size := Nat.le_of_lt (Nat.lt_of_le_of_lt (h.lo P h.op) (h.lt P h.op))
  obtain ⟨W, hW⟩ : ∃ W, w.alloc (.cells #[.int .i64 2, .int .i64 k, .int .i64 x, .int .i64 v, .int .i64 n] 63) = W := ⟨_, rfl⟩
  have hb0 : Below w.heap.size w W := by rw [← hW]; exact (Below.refl _ _).alloc (Nat.le_refl _) _
  have HB : Hid (Below w.heap.size w W) := hb0
  have g0 : W.heap[w.heap.size]? = some (.cells #[.int .i64 2, .int .i64 k, .int .i64 x, .int .i64 v, .int .i64 n] 63 (0, 0)) := by rw [← hW]; exact heap_alloc_new w _
  have c0 : W.cell? ⟨w.heap.size, 0, none⟩ = some (.int .i64 2) := cell_of g0 0
  have hA := h.below hb0
  obtain ⟨p, r, h1, hd⟩ := hA.duo
  obtain ⟨T, hT⟩ : ∃ T, (fun k => O k ∧ k ≠ P) = T := ⟨_, rfl⟩
  have hTP : ¬ T P := by rw [← hT]; exact fun e => e.2 rfl
  rw [hT] at hd
  have HX : Hid (∀ w' O', Ch B T W w' O' → w'.cell? ⟨P, 0, none⟩ = some (.pointer (some ⟨p, 0, none⟩)) ∧ w'.cell? ⟨P, 1, none⟩ = some (.pointer (some ⟨r, 0, none⟩))) := fun w' O' hc => by
    have f := (hc.off.block P (hA.lt P hA.op) hTP).trans h1
    exact ⟨cell_of f 0, cell_of f 1⟩
  obtain ⟨e1, e2, e3, e4, e5⟩ := mark_rel h.al h.alm (noted_len h)
  obtain ⟨mk, hmk⟩ : ∃ mk, s.marks = mk := ⟨_, rfl⟩
  have HC1 : Hid (Calls Tryz.prog 22 #[.pointer (some ⟨p, 0, none⟩)] W.drew (DuOut B T p r s.mark (s.now.map Dm.all) (mksOf s) (.int .i64 (mk : Int)) W.drew)) := by
    have := (hd.below (Below.refl _ _).drew).mark1 hm
    rw [hmk] at this
    exact this
  have HC2 : Hid (∀ w2 O2, Duo B O2 w2 p r s.mark (s.now.map Dm.all) (mksOf s) → Calls Tryz.prog 34 #[.pointer (some ⟨r, 0, none⟩)] w2 (DuOut B O2 p r s.mark (s.mark.now.map Dm.all) (mksOf s.mark) (.int .i64 (mk : Int)) w2)) := fun w2 O2 hq => by
    have := hq.mark2 (by rw [e3]; exact hm)
    rw [e3, hmk] at this
    rw [e1, e2]
    exact this
  have HE : Hid (∀ w3 O3, Ch B T W w3 O3 → Duo B O3 w3 p r s.mark (s.mark.now.map Dm.all) (mksOf s.mark) → ∃ O' s', PaAt B P O' w3 s' ∧ s'.marks ≤ s.marks + 1 ∧ SStp B O w w3 ∧ Grown O w w3 O') := fun w3 O3 hc hq => ⟨_, s.mark, hc.pair hq h1 hTP (h.lo P h.op) e4 e5, Nat.le_refl _, hc.fin hb0 hBw h.op (fun k hk => by rw [← hT] at hk; exact hk.1) hq.lt⟩
  have HK0 : Hid (Ch B T W W.drew T) := (Ch.refl B T W).drew
  have hmm : ((mk : Int) == (mk : Int)) = true := by simp
  clear h hA hb0 g0 h1 hd hT hTP hmk e1 e2 e3 e4 e5 hm
  go_enter Tryz.func9, Tryz.ntmps9
  go_wp2_with fail
  go_region_held3 (fun w' => w'.cell? ⟨P, 0, none⟩ = some (.pointer (some ⟨p, 0, none⟩)) ∧ w'.cell? ⟨P, 1, none⟩ = some (.pointer (some ⟨r, 0, none⟩)))
    (first | exact HX.out _ _ HK0.out | exact HX.out _ _ HK3.out | exact HX.out _ _ HK2.out | assumption)
    (first
      | (go_at_call 22; refine calls_at HC1.out (by with_reducible rfl) (by with_reducible rfl) ?_; rintro e w2 ⟨rfl, O2, hD2, hS2, hG2⟩; (have HK2 : Hid (Ch B T W w2 O2) := HK0.out.next hS2 hG2); (have HD2 : Hid (Duo B O2 w2 p r s.mark (s.now.map Dm.all) (mksOf s)) := hD2); clear hD2 hS2 hG2)
      | (go_at_call 34; refine calls_at (HC2.out w2 O2 HD2.out) (by with_reducible rfl) (by with_reducible rfl) ?_; rintro e w3 ⟨rfl, O3, hD3, hS3, hG3⟩; (have HK3 : Hid (Ch B T W w3 O3) := HK2.out.next hS3 hG3); (have HD3 : Hid (Duo B O3 w3 p r s.mark (s.mark.now.map Dm.all) (mksOf s.mark)) := hD3); clear hD3 hS3 hG3))
  go_wp2_with fail
  go_ret
  exact ⟨ret_bool (by simp), HE.out w3 O3 HK3.out HD3.out⟩

set_option maxRecDepth 10000 in
set_option maxHeartbeats 1000000 in
theorem plays_back {B P : Nat} {O : Nat → Prop} {s : St} (k x v n : Int) (w : World) (h : PaAt B P O w s) : Calls Tryz.prog 9 #[.pointer (some ⟨P, 0, none⟩), .agg #[.int .i64 3, .int .i64 k, .int .i64 x, .int .i64 v, .int .i64 n]] w (PlOut B P O s w) := by
  have hBw : B ≤ w.heap.size := Nat.le_of_lt (Nat.lt_of_le_of_lt (h.lo P h.op) (h.lt P h.op))
  obtain ⟨W, hW⟩ : ∃ W, w.alloc (.cells #[.int .i64 3, .int .i64 k, .int .i64 x, .int .i64 v, .int .i64 n] 63) = W := ⟨_, rfl⟩
  have hb0 : Below w.heap.size w W := by rw [← hW]; exact (Below.refl _ _).alloc (Nat.le_refl _) _
  have HB : Hid (Below w.heap.size w W) := hb0
  have g0 : W.heap[w.heap.size]? = some (.cells #[.int .i64 3, .int .i64 k, .int .i64 x, .int .i64 v, .int .i64 n] 63 (0, 0)) := by rw [← hW]; exact heap_alloc_new w _
  have hlt := (Array.getElem?_eq_some_iff.1 g0).1
  have c0 : W.cell? ⟨w.heap.size, 0, none⟩ = some (.int .i64 3) := cell_of g0 0
  have hA := h.below hb0
  obtain ⟨p, r, h1, hd⟩ := hA.duo
  obtain ⟨T, hT⟩ : ∃ T, (fun k => O k ∧ k ≠ P) = T := ⟨_, rfl⟩
  have hTP : ¬ T P := by rw [← hT]; exact fun e => e.2 rfl
  have hTW : ¬ T w.heap.size := by rw [← hT]; exact fun e => by have := h.lt _ e.1; omega
  rw [hT] at hd
  have HX : Hid (∀ w' O', Ch B T W w' O' → w'.cell? ⟨P, 0, none⟩ = some (.pointer (some ⟨p, 0, none⟩)) ∧ w'.cell? ⟨P, 1, none⟩ = some (.pointer (some ⟨r, 0, none⟩)) ∧ w'.cell? ⟨w.heap.size, 4, none⟩ = some (.int .i64 n)) := fun w' O' hc => by
    have f := (hc.off.block P (hA.lt P hA.op) hTP).trans h1
    have f2 := (hc.off.block _ hlt hTW).trans g0
    exact ⟨cell_of f 0, cell_of f 1, cell_of f2 4⟩
  obtain ⟨e1, e2, e3, e4, e5, e6⟩ := back_rel h.al h.alm (noted_len h) n
  obtain ⟨bb, hbb⟩ : ∃ bb, s.backB n = bb := ⟨_, rfl⟩
  have HC1 : Hid (Calls Tryz.prog 26 #[.pointer (some ⟨p, 0, none⟩), .int .i64 n] W.drew (DuOut B T p r (s.back n) (s.now.map Dm.all) (mksOf s) (.bool bb) W.drew)) := by
    have := (hd.below (Below.refl _ _).drew).back1 n
    rw [hbb] at this
    exact this
  have HC2 : Hid (∀ w2 O2, Duo B O2 w2 p r (s.back n) (s.now.map Dm.all) (mksOf s) → Calls Tryz.prog 35 #[.pointer (some ⟨r, 0, none⟩), .int .i64 n] w2 (DuOut B O2 p r (s.back n) ((s.back n).now.map Dm.all) (mksOf (s.back n)) (.bool bb) w2)) := fun w2 O2 hq => by
    have := hq.back2 n
    rw [e2, e3, ← hbb, e1]
    exact this
  have HE : Hid (∀ w3 O3, Ch B T W w3 O3 → Duo B O3 w3 p r (s.back n) ((s.back n).now.map Dm.all) (mksOf (s.back n)) → ∃ O' s', PaAt B P O' w3 s' ∧ s'.marks ≤ s.marks + 1 ∧ SStp B O w w3 ∧ Grown O w w3 O') := fun w3 O3 hc hq => ⟨_, s.back n, hc.pair hq h1 hTP (h.lo P h.op) e4 e5, by omega, hc.fin hb0 hBw h.op (fun k hk => by rw [← hT] at hk; exact hk.1) hq.lt⟩
  have HK0 : Hid (Ch B T W W.drew T) := (Ch.refl B T W).drew
  have hmm : (bb == bb) = true := by simp
  clear h hA hb0 g0 hlt h1 hd hT hTP hTW hbb e1 e2 e3 e4 e5 e6
  go_enter Tryz.func9, Tryz.ntmps9
  go_wp2_with fail
  go_region_held3 (fun w' => w'.cell? ⟨P, 0, none⟩ = some (.pointer (some ⟨p, 0, none⟩)) ∧ w'.cell? ⟨P, 1, none⟩ = some (.pointer (some ⟨r, 0, none⟩)) ∧ w'.cell? ⟨w.heap.size, 4, none⟩ = some (.int .i64 n))
    (first | exact HX.out _ _ HK0.out | exact HX.out _ _ HK3.out | exact HX.out _ _ HK2.out | assumption)
    (first
      | (go_at_call 26; refine calls_at HC1.out (by with_reducible rfl) (by with_reducible rfl) ?_; rintro e w2 ⟨rfl, O2, hD2, hS2, hG2⟩; (have HK2 : Hid (Ch B T W w2 O2) := HK0.out.next hS2 hG2); (have HD2 : Hid (Duo B O2 w2 p r (s.back n) (s.now.map Dm.all) (mksOf s)) := hD2); clear hD2 hS2 hG2)
      | (go_at_call 35; refine calls_at (HC2.out w2 O2 HD2.out) (by with_reducible rfl) (by with_reducible rfl) ?_; rintro e w3 ⟨rfl, O3, hD3, hS3, hG3⟩; (have HK3 : Hid (Ch B T W w3 O3) := HK2.out.next hS3 hG3); (have HD3 : Hid (Duo B O3 w3 p r (s.back n) ((s.back n).now.map Dm.all) (mksOf (s.back n))) := hD3); clear hD3 hS3 hG3))
  go_wp2_with fail
  go_ret
  exact ⟨ret_bool (by simp), HE.out w3 O3 HK3.out HD3.out⟩
end Go.Proofs.YtchpapppkmnfnaaGreatDoor

namespace Go.Proofs.YtchpapppkmnfnaaGreatDoor
open Go.RowKit
section
variable {B p : Nat} {nv mv : Value} {s : St}
set_option maxRecDepth 10000 in
set_option maxHeartbeats 400000 in
theorem lo_no (x : Int) (hx : isB s.now.length x = false) (w : World) (h : StAt B w p nv mv s) : Calls Tryz.prog 24 #[.pointer (some ⟨p, 0, none⟩), .int .i64 x] w fun e w' => e = .returned (.int .i64 0) ∧ Below w.heap.size w w' := by
  have HIs : Hid (Calls Tryz.prog 39 #[.pointer (some ⟨p, 0, none⟩), .int .i64 x] w fun e w' => e = .returned (.bool false) ∧ w' = w) := by
    have := is_any B p nv mv s x w h
    rw [hx] at this
    exact this
  clear h hx
  go_enter Tryz.func24, Tryz.ntmps24
  go_wp2_with fail
  refine calls_at HIs.out (by with_reducible rfl) (by with_reducible rfl) ?_
  rintro e w1 ⟨rfl, rfl⟩
  go_wp2_with fail
  go_ret
  exact ⟨rfl, Below.refl _ _⟩
set_option maxRecDepth 10000 in
set_option maxHeartbeats 400000 in
theorem hi_no (x : Int) (hx : isB s.now.length x = false) (w : World) (h : StAt B w p nv mv s) : Calls Tryz.prog 23 #[.pointer (some ⟨p, 0, none⟩), .int .i64 x] w fun e w' => e = .returned (.int .i64 0) ∧ Below w.heap.size w w' := by
  have HIs : Hid (Calls Tryz.prog 39 #[.pointer (some ⟨p, 0, none⟩), .int .i64 x] w fun e w' => e = .returned (.bool false) ∧ w' = w) := by
    have := is_any B p nv mv s x w h
    rw [hx] at this
    exact this
  clear h hx
  go_enter Tryz.func23, Tryz.ntmps23
  go_wp2_with fail
  refine calls_at HIs.out (by with_reducible rfl) (by with_reducible rfl) ?_
  rintro e w1 ⟨rfl, rfl⟩
  go_wp2_with fail
  go_ret
  exact ⟨rfl, Below.refl _ _⟩
set_option maxRecDepth 10000 in
set_option maxHeartbeats 400000 in
theorem size_no (x : Int) (hx : isB s.now.length x = false) (w : World) (h : StAt B w p nv mv s) : Calls Tryz.prog 20 #[.pointer (some ⟨p, 0, none⟩), .int .i64 x] w fun e w' => e = .returned (.int .i64 0) ∧ Below w.heap.size w w' := by
  have HIs : Hid (Calls Tryz.prog 39 #[.pointer (some ⟨p, 0, none⟩), .int .i64 x] w fun e w' => e = .returned (.bool false) ∧ w' = w) := by
    have := is_any B p nv mv s x w h
    rw [hx] at this
    exact this
  clear h hx
  go_enter Tryz.func20, Tryz.ntmps20
  go_wp2_with fail
  refine calls_at HIs.out (by with_reducible rfl) (by with_reducible rfl) ?_
  rintro e w1 ⟨rfl, rfl⟩
  go_wp2_with fail
  go_ret
  exact ⟨rfl, Below.refl _ _⟩
set_option maxRecDepth 10000 in
set_option maxHeartbeats 400000 in
theorem vals_no (x : Int) (hx : isB s.now.length x = false) (w : World) (h : StAt B w p nv mv s) : Calls Tryz.prog 11 #[.pointer (some ⟨p, 0, none⟩), .int .i64 x] w fun e w' => e = .returned (.slice none 0 0) ∧ Below w.heap.size w w' := by
  have HIs : Hid (Calls Tryz.prog 39 #[.pointer (some ⟨p, 0, none⟩), .int .i64 x] w fun e w' => e = .returned (.bool false) ∧ w' = w) := by
    have := is_any B p nv mv s x w h
    rw [hx] at this
    exact this
  clear h hx
  go_enter Tryz.func11, Tryz.ntmps11
  go_wp2_with fail
  refine calls_at HIs.out (by with_reducible rfl) (by with_reducible rfl) ?_
  rintro e w1 ⟨rfl, rfl⟩
  go_wp2_with fail
  go_ret
  exact ⟨rfl, Below.refl _ _⟩
set_option maxRecDepth 10000 in
set_option maxHeartbeats 400000 in
theorem has_no (x : Int) (hx : isB s.now.length x = false) (v : Int) (w : World) (h : StAt B w p nv mv s) : Calls Tryz.prog 25 #[.pointer (some ⟨p, 0, none⟩), .int .i64 x, .int .i64 v] w fun e w' => e = .returned (.bool false) ∧ Below w.heap.size w w' := by
  have HIs : Hid (Calls Tryz.prog 39 #[.pointer (some ⟨p, 0, none⟩), .int .i64 x] w fun e w' => e = .returned (.bool false) ∧ w' = w) := by
    have := is_any B p nv mv s x w h
    rw [hx] at this
    exact this
  clear h hx
  go_enter Tryz.func25, Tryz.ntmps25
  go_wp2_with fail
  refine calls_at HIs.out (by with_reducible rfl) (by with_reducible rfl) ?_
  rintro e w1 ⟨rfl, rfl⟩
  go_wp2_with fail
  go_ret
  exact ⟨rfl, Below.refl _ _⟩
end
/-- What is asked of a place, of both. -/
structure Asks (p r : Nat) (x : Int) (lo hi sz : Int) (L : List Int) (hs : Int → Bool) (w : World) : Prop where
  lo1 : Calls Tryz.prog 24 #[.pointer (some ⟨p, 0, none⟩), .int .i64 x] w fun e w' => e = .returned (.int .i64 lo) ∧ Below w.heap.size w w'
  lo2 : Calls Tryz.prog 37 #[.pointer (some ⟨r, 0, none⟩), .int .i64 x] w fun e w' => e = .returned (.int .i64 lo) ∧ Below w.heap.size w w'
  hi1 : Calls Tryz.prog 23 #[.pointer (some ⟨p, 0, none⟩), .int .i64 x] w fun e w' => e = .returned (.int .i64 hi) ∧ Below w.heap.size w w'
  hi2 : Calls Tryz.prog 59 #[.pointer (some ⟨r, 0, none⟩), .int .i64 x] w fun e w' => e = .returned (.int .i64 hi) ∧ Below w.heap.size w w'
  sz1 : Calls Tryz.prog 20 #[.pointer (some ⟨p, 0, none⟩), .int .i64 x] w fun e w' => e = .returned (.int .i64 sz) ∧ Below w.heap.size w w'
  sz2 : Calls Tryz.prog 60 #[.pointer (some ⟨r, 0, none⟩), .int .i64 x] w fun e w' => e = .returned (.int .i64 sz) ∧ Below w.heap.size w w'
  vs1 : Calls Tryz.prog 11 #[.pointer (some ⟨p, 0, none⟩), .int .i64 x] w (VsOut L w)
  vs2 : Calls Tryz.prog 13 #[.pointer (some ⟨r, 0, none⟩), .int .i64 x] w (VsOut L w)
  hs1 : ∀ v, Calls Tryz.prog 25 #[.pointer (some ⟨p, 0, none⟩), .int .i64 x, .int .i64 v] w fun e w' => e = .returned (.bool (hs v)) ∧ Below w.heap.size w w'
  hs2 : ∀ v, Calls Tryz.prog 61 #[.pointer (some ⟨r, 0, none⟩), .int .i64 x, .int .i64 v] w fun e w' => e = .returned (.bool (hs v)) ∧ Below w.heap.size w w'
theorem vs_none {w : World} : ∀ e w', (e = .returned (.slice none 0 0) ∧ Below w.heap.size w w') → VsOut [] w e w' := fun _ _ h => ⟨_, h.1, World.ownsRow_nil _ _ _ _, h.2⟩
theorem asks_at {B Bs p r : Nat} {nv mv : Value} {s : St} {S : Nat → Prop} {MM : List (List (List Int))} {w : World} (x : Int) (h2 : StAt Bs w p nv mv s) (h3 : RsAt B S w r (s.now.map Dm.all) MM) (ha : Alls s) : ∃ lo hi sz L hs, (-1000000000 ≤ lo ∧ lo ≤ hi ∧ hi ≤ 2000000000 ∧ L.length ≤ 64) ∧ ∀ w', Below w.heap.size w w' → Tz w' → Asks p r x lo hi sz L hs w' := by
  cases hi : isB s.now.length x with
  | false =>
    have hi2 : isL (s.now.map Dm.all).length x = false := by rw [List.length_map]; exact hi
    exact ⟨0, 0, 0, [], fun _ => false, ⟨by omega, by omega, by omega, Nat.zero_le _⟩, fun w' hb hT => ⟨lo_no x hi w' (h2.below hb), rLo_no x hi2 w' (h3.below hb), hi_no x hi w' (h2.below hb), rHi_no x hi2 w' (h3.below hb), size_no x hi w' (h2.below hb), rSize_no x hi2 w' (h3.below hb), (vals_no x hi w' (h2.below hb)).mono vs_none, (rVals_no x hi2 w' (h3.below hb)).mono vs_none, fun v => has_no x hi v w' (h2.below hb), fun v => rHas_no x hi2 v w' (h3.below hb)⟩⟩
  | true =>
    obtain ⟨q, rfl, hq⟩ : ∃ q : Nat, x = (q : Int) ∧ q < s.now.length := by
      simp [isB] at hi
      exact ⟨x.toNat, by omega, by omega⟩
    obtain ⟨ho, hA⟩ := ha _ (List.getElem_mem hq)
    have hf := fine_of ho hA
    have hqm : q < (s.now.map Dm.all).length := by rw [List.length_map]; exact hq
    have e0 : (s.now.map Dm.all)[q] = s.now[q].all := List.getElem_map _
    have hp : 0 < (s.now.map Dm.all)[q].length := by rw [e0]; exact all_pos ho hA
    have e1 : (s.now.map Dm.all)[q][0] = s.now[q].lo := by simp only [e0]; exact all_first ho hA
    have e2 : (s.now.map Dm.all)[q][(s.now.map Dm.all)[q].length - 1] = s.now[q].hi := by simp only [e0]; exact all_last ho hA
    have e3 : ((s.now.map Dm.all)[q].length : Int) = s.now[q].size := by rw [e0]; exact all_len ho hA
    refine ⟨s.now[q].lo, s.now[q].hi, s.now[q].size, s.now[q].all, s.now[q].has, ⟨hf.b1, hf.most _ hf.loIn, hf.b2, all_len64 ho hA⟩, fun w' hb hT => ⟨lo_in _ p _ _ s q hq w' (h2.below hb) hT, ?_, hi_in _ p _ _ s q hq w' (h2.below hb), ?_, size_in _ p _ _ s q hq w' (h2.below hb), ?_, values_in _ p _ _ s q hq w' (h2.below hb) hT, ?_, fun v => has_in _ p _ _ s q hq v w' (h2.below hb), fun v => ?_⟩⟩
    · have := rLo_in q hqm hp w' (h3.below hb)
      rw [e1] at this
      exact this
    · have := rHi_in q hqm hp w' (h3.below hb)
      rw [e2] at this
      exact this
    · have := rSize_in q hqm w' (h3.below hb)
      rw [e3] at this
      exact this
    · have := rVals_in q hqm w' (h3.below hb)
      rw [e0] at this
      exact this
    · have := rHas_in q hqm v w' (h3.below hb)
      rw [e0, ← all_has ho hA v] at this
      exact this
theorem open_rel {s : St} (ha : Alls s) : ∀ k, k ≤ s.now.length → openR (s.now.map Dm.all) k = openL s.now k
  | 0, _ => rfl
  | k + 1, hk => by
    have hkl : k < s.now.length := hk
    obtain ⟨ho, hA⟩ := ha _ (List.getElem_mem hkl)
    rw [openR_succ _ _ (by rw [List.length_map]; exact hkl), openL_succ _ _ hkl, open_rel ha k (by omega)]
    refine congrArg (HAppend.hAppend _) ?_
    have e : ((s.now.map Dm.all)[k]'(by rw [List.length_map]; exact hkl)).length = s.now[k].all.length := by rw [List.getElem_map]
    have e3 : (s.now[k].all.length : Int) = bSize s.now[k].a s.now[k].b := all_len ho hA
    rw [e]
    by_cases h1 : 1 < s.now[k].all.length
    · rw [if_pos h1, if_pos (by omega)]
    · rw [if_neg h1, if_neg (by omega)]
end Go.Proofs.YtchpapppkmnfnaaGreatDoor
