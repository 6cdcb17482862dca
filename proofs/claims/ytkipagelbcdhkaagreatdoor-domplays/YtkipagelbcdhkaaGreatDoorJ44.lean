/-
  Put together: DtPair, DtBegin.
-/
import Derived.Test.YtkipagelbcdhkaaGreatDoorDrNew
import Derived.Test.YtkipagelbcdhkaaGreatDoorJ25
import Derived.Test.YtkipagelbcdhkaaGreatDoorDmCut
import Derived.Test.YtkipagelbcdhkaaGreatDoorDmCopied
namespace Go.Proofs.YtkipagelbcdhkaaGreatDoor
open Go.RowKit

theorem own_lt {B : Nat} {w : World} {p : Nat} {nv mv : Value} {s : St} (h : StAt B w p nv mv s) {k : Nat} (hk : Own p nv mv k) : k < w.heap.size := by
  rcases hk with h1 | h1 | h1
  · rw [h1]; exact h.lt
  · exact (row_lt h.n h1).2
  · exact (row_lt h.m h1).2
theorem own_lo {B : Nat} {w : World} {p : Nat} {nv mv : Value} {s : St} (h : StAt B w p nv mv s) {k : Nat} (hk : Own p nv mv k) : B ≤ k := by
  rcases hk with h1 | h1 | h1
  · rw [h1]; exact h.p1
  · exact (row_lt h.n h1).1
  · exact (row_lt h.m h1).1
/-- What the marks noted, as lists. -/
def mksOf (s : St) : List (List (List Int)) := (List.range s.marks).map fun i => ((s.noted.drop (i * s.now.length)).take s.now.length).map Dm.all
def AllsM (s : St) : Prop := ∀ d ∈ s.noted, d.Ok ∧ d.Any
/-- A cut, of lists as of words. -/
theorem cut_rel {s : St} (h : Alls s) (k x v : Int) : (s.cut k x v).now.map Dm.all = cutLL (s.now.map Dm.all) k x v ∧ s.went k x v = wentLL (s.now.map Dm.all) k x v ∧ s.may k x v = mayLL (s.now.map Dm.all) k x v := by
  cases hi : isB s.now.length x with
  | false =>
    obtain ⟨e1, e2, e3⟩ := cut_no (k := k) (v := v) hi
    obtain ⟨f1, f2, f3⟩ := cutLL_no (LL := s.now.map Dm.all) (k := k) (x := x) (v := v) (by rw [List.length_map]; exact hi)
    rw [e1, e2, e3, f1, f2, f3]
    exact ⟨rfl, rfl, rfl⟩
  | true =>
    obtain ⟨q, rfl, hq⟩ : ∃ q : Nat, x = (q : Int) ∧ q < s.now.length := by
      simp [isB] at hi
      exact ⟨x.toNat, by omega, by omega⟩
    obtain ⟨e1, e2, e3⟩ := cut_yes (k := k) (v := v) hq
    obtain ⟨f1, f2, f3⟩ := cutLL_yes (LL := s.now.map Dm.all) (k := k) (v := v) (q := q) (by rw [List.length_map]; exact hq)
    obtain ⟨ho, ha⟩ := h _ (List.getElem_mem hq)
    obtain ⟨g1, g2, g3⟩ := went_is ho ha k v
    have hqm : q < (s.now.map Dm.all).length := by rw [List.length_map]; exact hq
    have hl : lfR k v (s.now.map Dm.all)[q] = lft k v s.now[q].all := by rw [List.getElem_map]; rfl
    rw [e1, e2, e3, f1, f2, f3, hl]
    refine ⟨?_, by rw [g1, List.getElem_map], g2⟩
    cases hw : s.now[q].went k v with
    | true =>
      rw [hw] at g1 g3
      have hE : (lft k v s.now[q].all).isEmpty = false := by
        cases hb : (lft k v s.now[q].all).isEmpty with
        | false => rfl
        | true => rw [hb] at g1; simp at g1
      rw [hE] at g3
      rw [hE]
      simp only [if_true] at g3 ⊢
      simp [g3]
    | false =>
      rw [hw] at g3
      simp only [Bool.false_eq_true, if_false] at g3 ⊢
      cases hb : (lft k v s.now[q].all).isEmpty with
      | true => rfl
      | false =>
        rw [hb] at g3
        simp only [Bool.false_eq_true, if_false] at g3 ⊢
        rw [← g3]
        apply List.ext_getElem?
        intro i
        by_cases e : i = q
        · subst e; simp [hq]
        · rw [List.getElem?_set_ne (by omega)]
theorem cut_mks (s : St) (k x v : Int) : mksOf (s.cut k x v) = mksOf s := by
  obtain ⟨e1, e2, e3⟩ := cut_len s k x v
  unfold mksOf
  rw [e1, e2, e3]
theorem new_rel (m : Md.Mo) : (newS m).now.map Dm.all = newLL m ∧ mksOf (newS m) = [] ∧ AllsM (newS m) := by
  unfold newS newLL
  split
  · rename_i h
    refine ⟨?_, rfl, fun d hd => by cases hd⟩
    simp only [List.map_map]
    exact List.map_congr_left fun v hv => whole_all ((Md.right_of h).var v hv).2
  · exact ⟨rfl, rfl, fun d hd => by cases hd⟩
/-- A pair in memory. -/
structure PaAt (B P : Nat) (O : Nat → Prop) (w : World) (s : St) : Prop where
  ex : ∃ p nv mv r S Bs, w.heap[P]? = some (.cells #[.pointer (some ⟨p, 0, none⟩), .pointer (some ⟨r, 0, none⟩)] 42 (0, 0)) ∧ StAt Bs w p nv mv s ∧ RsAt B S w r (s.now.map Dm.all) (mksOf s) ∧ B ≤ Bs ∧ (∀ k, Own p nv mv k → O k ∧ k ≠ P) ∧ (∀ k, S k → O k ∧ k ≠ P) ∧ ∀ k, Own p nv mv k → ¬ S k
  op : O P
  lo : ∀ k, O k → B ≤ k
  lt : ∀ k, O k → k < w.heap.size
  al : Alls s
  alm : AllsM s
theorem PaAt.keep {B P : Nat} {O : Nat → Prop} {w w' : World} {s : St} (h : PaAt B P O w s) (hz : w.heap.size ≤ w'.heap.size) (hk : ∀ k, O k → w'.heap[k]? = w.heap[k]?) : PaAt B P O w' s := by
  obtain ⟨p, nv, mv, r, S, Bs, h1, h2, h3, h4, h5, h6, h7⟩ := h.ex
  exact { h with
    ex := ⟨p, nv, mv, r, S, Bs, (hk P h.op).trans h1, h2.keep (fun k _ ho => hk k (h5 k ho).1), h3.keep hz (fun k hS => hk k (h6 k hS).1), h4, h5, h6, h7⟩
    lt := fun k hS => Nat.lt_of_lt_of_le (h.lt k hS) hz }
theorem PaAt.below {B P : Nat} {O : Nat → Prop} {w w' : World} {s : St} (h : PaAt B P O w s) (hb : Below w.heap.size w w') : PaAt B P O w' s := h.keep hb.size fun k hk => hb.block k (h.lt k hk)
def PcOut (B P : Nat) (O : Nat → Prop) (s : St) (k x v : Int) (w : World) (e : Ending) (w' : World) : Prop := e = .returned (.bool true) ∧ ∃ O', PaAt B P O' w' (s.cut k x v) ∧ SStp B O w w' ∧ Grown O w w' O'

set_option maxRecDepth 10000 in
set_option maxHeartbeats 1000000 in
theorem plays_cut {B P : Nat} {O : Nat → Prop} {s : St} (k x v n : Int) (w : World) (h : PaAt B P O w s) : Calls Tryz.prog 9 #[.pointer (some ⟨P, 0, none⟩), .agg #[.int .i64 1, .int .i64 k, .int .i64 x, .int .i64 v, .int .i64 n]] w (PcOut B P O s k x v w) := by
  have hBw : B ≤ w.heap.size := Nat.le_of_lt (Nat.lt_of_le_of_lt (h.lo P h.op) (h.lt P h.op))
  obtain ⟨W, hW⟩ : ∃ W, w.alloc (.cells #[.int .i64 1, .int .i64 k, .int .i64 x, .int .i64 v, .int .i64 n] 36) = W := ⟨_, rfl⟩
  have hb0 : Below w.heap.size w W := by rw [← hW]; exact (Below.refl _ _).alloc (Nat.le_refl _) _
  have HB : Hid (Below w.heap.size w W) := hb0
  have g0 : W.heap[w.heap.size]? = some (.cells #[.int .i64 1, .int .i64 k, .int .i64 x, .int .i64 v, .int .i64 n] 36 (0, 0)) := by rw [← hW]; exact heap_alloc_new w _
  have hlt := (Array.getElem?_eq_some_iff.1 g0).1
  have hA := h.below hb0
  obtain ⟨p, nv, mv, r, S, Bs, h1, h2, h3, h4, h5, h6, h7⟩ := hA.ex
  have hPl := hA.lt P hA.op
  have HX : Hid (∀ w', Off (fun k => O k ∧ k ≠ P) W w' → w'.cell? ⟨P, 0, none⟩ = some (.pointer (some ⟨p, 0, none⟩)) ∧ w'.cell? ⟨P, 1, none⟩ = some (.pointer (some ⟨r, 0, none⟩)) ∧ w'.cell? ⟨w.heap.size, 0, none⟩ = some (.int .i64 1) ∧ w'.cell? ⟨w.heap.size, 1, none⟩ = some (.int .i64 k) ∧ w'.cell? ⟨w.heap.size, 2, none⟩ = some (.int .i64 x) ∧ w'.cell? ⟨w.heap.size, 3, none⟩ = some (.int .i64 v) ∧ Off (fun k => O k ∧ k ≠ P) W w') := fun w' ho => by
    have f1 := (ho.block P hPl (fun e => e.2 rfl)).trans h1
    have f0 := (ho.block _ hlt (fun e => by have := h.lt _ e.1; omega)).trans g0
    exact ⟨cell_of f1 0, cell_of f1 1, cell_of f0 0, cell_of f0 1, cell_of f0 2, cell_of f0 3, ho⟩
  obtain ⟨c0, _, c2, _⟩ := HX.out W (Off.refl _ _)
  have HC : Hid (Calls Tryz.prog 15 #[.pointer (some ⟨p, 0, none⟩), .agg #[.int .i64 k, .int .i64 x, .int .i64 v]] W.drew (CutOut Bs p nv mv s k x v W.drew)) := cut_any Bs p nv mv s k x v W.drew (h2.below (Below.refl _ _).drew)
  obtain ⟨e1, e2, e3⟩ := cut_rel h.al k x v
  obtain ⟨bw, hbw⟩ : ∃ b, s.went k x v = b := ⟨_, rfl⟩
  obtain ⟨bm, hbm⟩ : ∃ b, s.may k x v = b := ⟨_, rfl⟩
  have HC2 : Hid (∀ w2, RsAt B S w2 r (s.now.map Dm.all) (mksOf s) → Calls Tryz.prog 35 #[.pointer (some ⟨r, 0, none⟩), .agg #[.int .i64 k, .int .i64 x, .int .i64 v]] w2 fun e w' => e = .returned (.tuple #[.bool bw, .bool bm]) ∧ ∃ S', RsAt B S' w' r ((s.cut k x v).now.map Dm.all) (mksOf (s.cut k x v)) ∧ SStp B S w2 w' ∧ Grown S w2 w' S') := fun w2 hq => by
    have := rCut_any k x v w2 hq
    rw [e1, cut_mks, ← hbw, ← hbm, e2, e3]
    exact this
  have HSt : Hid (∀ w2, Stp Bs p nv mv W.drew w2 → RsAt B S w2 r (s.now.map Dm.all) (mksOf s) ∧ Off (fun k => O k ∧ k ≠ P) W w2 ∧ Below B W w2) := fun w2 hs =>
    ⟨h3.keep hs.off.size (fun j hj => hs.off.block j (h3.lt j hj) (fun e => h7 j e hj)), ⟨hs.off.size, fun j hj hn => hs.off.block j hj (fun e => hn (h5 j e))⟩, (Below.refl B W).drew.trans (hs.below.mono h4)⟩
  have HEnd : Hid (∀ w2 w3 S', StAt Bs w2 p nv mv (s.cut k x v) → Off (fun k => O k ∧ k ≠ P) W w2 → Below B W w2 → RsAt B S' w3 r ((s.cut k x v).now.map Dm.all) (mksOf (s.cut k x v)) → SStp B S w2.drew w3 → Grown S w2.drew w3 S' → ∃ O', PaAt B P O' w3 (s.cut k x v) ∧ SStp B O w w3 ∧ Grown O w w3 O') := fun w2 w3 S' q1 q2 q3 q4 q5 q6 => by
    have hWs : w.heap.size ≤ W.heap.size := hb0.size
    have hS' : ∀ j, S' j → (O j ∧ j ≠ P) ∨ (w2.heap.size ≤ j ∧ j < w3.heap.size) := fun j hj => by
      rcases q6 j hj with e | e
      · exact .inl (h6 j e)
      · exact .inr e
    have hO3 : Off (fun k => O k ∧ k ≠ P) W w3 := q2.trans ⟨q5.off.size, fun j hj hn => q5.off.block j hj (fun e => hn (h6 j e))⟩
    refine ⟨fun j => O j ∨ S' j, ⟨⟨p, nv, mv, r, S', Bs, (hO3.block P hPl (fun e => e.2 rfl)).trans h1, q1.keep (fun j hj ho => q5.off.block j hj (fun e => h7 j ho e)), q4, h4, fun j hj => ⟨.inl (h5 j hj).1, (h5 j hj).2⟩, fun j hj => ?_, fun j hj hS => ?_⟩, .inl h.op, ?_, ?_, alls_cut h.al k x v, ?_⟩, ⟨?_, ?_⟩, ?_⟩
    · refine ⟨.inr hj, fun e => ?_⟩
      rcases hS' j hj with a | a
      · exact a.2 e
      · have := Nat.lt_of_lt_of_le hPl q2.size
        omega
    · rcases q6 j hS with a | a
      · exact h7 j hj a
      · have h8 : j < w2.heap.size := own_lt q1 hj
        have h9 : w2.heap.size ≤ j := a.1
        omega
    · rintro j (e | e)
      · exact h.lo j e
      · exact q4.lo j e
    · rintro j (e | e)
      · exact Nat.lt_of_lt_of_le (h.lt j e) (Nat.le_trans hWs hO3.size)
      · exact q4.lt j e
    · intro d hd
      rw [(cut_len s k x v).2.1] at hd
      exact h.alm d hd
    · exact (hb0.mono hBw).trans (q3.trans ((Below.refl B w2).drew.trans q5.below))
    · exact (Off.of_below hb0).trans (hO3.less fun j hj => hj.1)
    · rintro j (e | e)
      · exact .inl e
      · rcases hS' j e with a | a
        · exact .inl a.1
        · exact .inr ⟨Nat.le_trans (Nat.le_trans hWs q2.size) a.1, a.2⟩
  have HSO : Hid (∀ a b, SStp B S a b → Off (fun k => O k ∧ k ≠ P) a b) := fun a b q => q.off.less h6
  have HWM : Hid (s.went k x v = bw ∧ s.may k x v = bm) := ⟨hbw, hbm⟩
  have hbb : (bw == bw) = true := by simp
  have hmm : (bm == bm) = true := by simp
  clear h hA hb0 g0 hlt h1 h2 h3 h4 h5 h6 h7 hPl e1 e2 e3 hbw hbm
  go_enter Tryz.func9, Tryz.ntmps9
  go_wp2_with fail
  go_region_held3 (fun w' => w'.cell? ⟨P, 0, none⟩ = some (.pointer (some ⟨p, 0, none⟩)) ∧ w'.cell? ⟨P, 1, none⟩ = some (.pointer (some ⟨r, 0, none⟩)) ∧ w'.cell? ⟨w.heap.size, 0, none⟩ = some (.int .i64 1) ∧ w'.cell? ⟨w.heap.size, 1, none⟩ = some (.int .i64 k) ∧ w'.cell? ⟨w.heap.size, 2, none⟩ = some (.int .i64 x) ∧ w'.cell? ⟨w.heap.size, 3, none⟩ = some (.int .i64 v) ∧ Off (fun k => O k ∧ k ≠ P) W w')
    (first | exact HX.out _ (Off.of_below (Below.refl _ _).drew) | exact HX.out _ HO2.out | assumption)
    (first
      | (go_at_call 15; refine calls_at HC.out (by with_reducible rfl) (by with_reducible rfl) ?_; rintro e w2 ⟨he, hA2, hS2⟩; rw [HWM.out.1, HWM.out.2] at he; subst he; (have HA2 : Hid (StAt Bs w2 p nv mv (s.cut k x v)) := hA2); (have HR2 : Hid (RsAt B S w2 r (s.now.map Dm.all) (mksOf s)) := (HSt.out w2 hS2).1); (have HO2 : Hid (Off (fun k => O k ∧ k ≠ P) W w2) := (HSt.out w2 hS2).2.1); (have HB2 : Hid (Below B W w2) := (HSt.out w2 hS2).2.2); clear hA2 hS2))
  go_wp2_with fail
  have HC3 : Hid (Calls Tryz.prog 35 #[.pointer (some ⟨r, 0, none⟩), .agg #[.int .i64 k, .int .i64 x, .int .i64 v]] w2.drew fun e w' => e = .returned (.tuple #[.bool bw, .bool bm]) ∧ ∃ S', RsAt B S' w' r ((s.cut k x v).now.map Dm.all) (mksOf (s.cut k x v)) ∧ SStp B S w2.drew w' ∧ Grown S w2.drew w' S') := HC2.out w2.drew (HR2.out.below (Below.refl _ _).drew)
  have HX2 : Hid (∀ w', Off (fun k => O k ∧ k ≠ P) W w' → w'.cell? ⟨P, 1, none⟩ = some (.pointer (some ⟨r, 0, none⟩)) ∧ w'.cell? ⟨w.heap.size, 1, none⟩ = some (.int .i64 k) ∧ w'.cell? ⟨w.heap.size, 2, none⟩ = some (.int .i64 x) ∧ w'.cell? ⟨w.heap.size, 3, none⟩ = some (.int .i64 v)) := fun w' ho => by
    obtain ⟨_, y1, _, y3, y4, y5, _⟩ := HX.out w' ho
    exact ⟨y1, y3, y4, y5⟩
  go_region_held3 (fun w' => w'.cell? ⟨P, 1, none⟩ = some (.pointer (some ⟨r, 0, none⟩)) ∧ w'.cell? ⟨w.heap.size, 1, none⟩ = some (.int .i64 k) ∧ w'.cell? ⟨w.heap.size, 2, none⟩ = some (.int .i64 x) ∧ w'.cell? ⟨w.heap.size, 3, none⟩ = some (.int .i64 v))
    (first | exact HX2.out _ HO3.out | exact HX2.out _ (HO2.out.trans (Off.of_below (Below.refl _ _).drew)) | assumption)
    (first
      | (go_at_call 35; refine calls_at HC3.out (by with_reducible rfl) (by with_reducible rfl) ?_; rintro e w3 ⟨rfl, S', q4, q5, q6⟩; obtain ⟨O', z1, z2, z3⟩ := HEnd.out w2 w3 S' HA2.out HO2.out HB2.out q4 q5 q6; (have HZ : Hid (PaAt B P O' w3 (s.cut k x v) ∧ SStp B O w w3 ∧ Grown O w w3 O') := ⟨z1, z2, z3⟩); (have HO3 : Hid (Off (fun k => O k ∧ k ≠ P) W w3) := HO2.out.trans ((Off.of_below (Below.refl _ _).drew).trans (HSO.out w2.drew w3 q5))); clear q4 q5 q6 z1 z2 z3))
  go_wp2_with fail
  go_ret
  exact ⟨ret_bool (by simp), O', HZ.out.1, HZ.out.2.1, HZ.out.2.2⟩
end Go.Proofs.YtkipagelbcdhkaaGreatDoor

namespace Go.Proofs.YtkipagelbcdhkaaGreatDoor
open Go.RowKit

def BgOut (m : Md.Mo) (w : World) (e : Ending) (w' : World) : Prop := ∃ P O, e = .returned (.pointer (some ⟨P, 0, none⟩)) ∧ PaAt w.heap.size P O w' (newS m) ∧ Below w.heap.size w w'
set_option maxRecDepth 10000 in
set_option maxHeartbeats 1000000 in
theorem begin_any (m : Md.Mo) (vv vc vg : Value) (w : World) (h : MoAt w m vv vc vg) (hf : MoFit m) (hs : 0 < w.heap.size) : Calls Tryz.prog 7 #[moVal m vv vc vg] w (BgOut m w) := by
  obtain ⟨W, hW⟩ : ∃ W, w.alloc (.cells #[vv, vc, .bool m.has, vg] 26) = W := ⟨_, rfl⟩
  have hb0 : Below w.heap.size w W := by rw [← hW]; exact (Below.refl _ _).alloc (Nat.le_refl _) _
  have g0 : W.heap[w.heap.size]? = some (.cells #[vv, vc, .bool m.has, vg] 26 (0, 0)) := by rw [← hW]; exact heap_alloc_new w _
  have hlt := (Array.getElem?_eq_some_iff.1 g0).1
  have HB : Hid (Below w.heap.size w W) := hb0
  have hsW : 0 < W.heap.size := Nat.lt_of_lt_of_le hs hb0.size
  have HM : Hid (∀ w', Below W.heap.size W w' → w'.cell? ⟨w.heap.size, 0, none⟩ = some vv ∧ w'.cell? ⟨w.heap.size, 1, none⟩ = some vc ∧ w'.cell? ⟨w.heap.size, 2, none⟩ = some (.bool m.has) ∧ w'.cell? ⟨w.heap.size, 3, none⟩ = some vg) := fun w' hb => by
    have g1 := (hb.block _ hlt).trans g0
    exact ⟨cell_of g1 0, cell_of g1 1, cell_of g1 2, cell_of g1 3⟩
  have HMo : Hid (∀ w', Below W.heap.size W w' → MoAt w' m vv vc vg) := fun w' hb => (h.below hb0).below hb
  have HCd : Hid (Calls Tryz.prog 26 #[.agg #[vv, vc, .bool m.has, vg]] W fun e w2 => ∃ vv2 vc2 vg2, e = .returned (.agg #[vv2, vc2, .bool m.has, vg2]) ∧ MoAt w2 m vv2 vc2 vg2 ∧ Below W.heap.size W w2) := copied_any m vv vc vg W (h.below hb0) hf
  have HNw : Hid (∀ (w' : World) (a b c : Value), Below W.heap.size W w' → MoAt w' m a b c → Calls Tryz.prog 12 #[.agg #[a, b, .bool m.has, c]] w' (NewOut m w')) := fun w' a b c hb hM => new_any m a b c w' hM (Nat.lt_of_lt_of_le hsW hb.size)
  have HRn : Hid (∀ (w' : World), Below W.heap.size W w' → Calls Tryz.prog 27 #[.agg #[vv, vc, .bool m.has, vg]] w' (RnOut m w')) := fun w' hb => rNew_any m vv vc vg w' ((h.below hb0).below hb)
  obtain ⟨c0, c1, c2, c3⟩ := HM.out W (Below.refl _ _)
  clear hb0 g0 hlt h hf
  unfold moVal
  go_enter Tryz.func7, Tryz.ntmps7
  go_wp2_with fail
  refine calls_at HCd.out (by with_reducible rfl) (by with_reducible rfl) ?_
  rintro e w1 ⟨vv2, vc2, vg2, rfl, hM1, hb1⟩
  have HB1 : Hid (Below W.heap.size W w1) := hb1
  have HN1 : Hid (Calls Tryz.prog 12 #[.agg #[vv2, vc2, .bool m.has, vg2]] w1 (NewOut m w1)) := HNw.out w1 vv2 vc2 vg2 hb1 hM1
  clear hM1 hb1 c0 c1 c2 c3 hW
  go_wp2_with fail
  refine calls_at HN1.out (by with_reducible rfl) (by with_reducible rfl) ?_
  rintro e w2 ⟨p, nv, mv, rfl, hA2, hb2⟩
  have HA2 : Hid (StAt w1.heap.size w2 p nv mv (newS m)) := hA2
  have HB2 : Hid (Below W.heap.size W w2) := bl_next HB1.out hb2
  obtain ⟨c0, c1, c2, c3⟩ := HM.out w2 HB2.out
  clear hA2 hb2
  go_wp2_with fail
  refine calls_at (HRn.out w2 HB2.out) (by with_reducible rfl) (by with_reducible rfl) ?_
  rintro e w3 ⟨r, S, rfl, hR3, hb3⟩
  have HR3 : Hid (RsAt w2.heap.size S w3 r (newLL m) [] ∧ Below w2.heap.size w2 w3) := ⟨hR3, hb3⟩
  clear hR3 hb3 c0 c1 c2 c3
  obtain ⟨X, hX⟩ : ∃ X, w3.alloc (.cells #[.pointer (some ⟨p, 0, none⟩), .pointer (some ⟨r, 0, none⟩)] 42) = X := ⟨_, rfl⟩
  go_wp2_with fail
  go_ret
  have hbX : Below w3.heap.size w3 X := by rw [← hX]; exact (Below.refl _ _).alloc (Nat.le_refl _) _
  have gX : X.heap[w3.heap.size]? = some (.cells #[.pointer (some ⟨p, 0, none⟩), .pointer (some ⟨r, 0, none⟩)] 42 (0, 0)) := by rw [← hX]; exact heap_alloc_new w3 _
  obtain ⟨e1, e2, e3⟩ := new_rel m
  have hwW := HB.out.size
  have hW1 := HB1.out.size
  have h12 : w1.heap.size ≤ w2.heap.size := HA2.out.size
  have h23 := HR3.out.2.size
  have h3X := hbX.size
  refine ⟨w3.heap.size, fun k => w.heap.size ≤ k ∧ k < X.heap.size, rfl, ⟨⟨p, nv, mv, r, S, w1.heap.size, gX, (HA2.out.below HR3.out.2).below hbX, ?_, by omega, fun k hk => ?_, fun k hk => ?_, fun k hk hS => ?_⟩, ⟨by omega, (Array.getElem?_eq_some_iff.1 gX).1⟩, fun k hk => hk.1, fun k hk => hk.2, alls_new m, e3⟩, HB.out.trans ((HB2.out.trans ((HR3.out.2.trans (hbX.mono h23)).mono HB2.out.size)).mono HB.out.size)⟩
  · rw [e1, e2]
    have := HR3.out.1.below hbX
    exact { this with lo := fun k hk => by have := this.lo k hk; omega }
  · have a1 := own_lo HA2.out hk
    have a2 := own_lt HA2.out hk
    exact ⟨⟨by omega, by omega⟩, by omega⟩
  · have a1 := HR3.out.1.lo k hk
    have a2 := HR3.out.1.lt k hk
    exact ⟨⟨by omega, by omega⟩, by omega⟩
  · have a1 := HR3.out.1.lo k hS
    have a2 := own_lt HA2.out hk
    omega
end Go.Proofs.YtkipagelbcdhkaaGreatDoor
