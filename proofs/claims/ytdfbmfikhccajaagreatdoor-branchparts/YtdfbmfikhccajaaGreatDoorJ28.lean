/-
  Put together: DrCut, DrSame.
-/
import Derived.Test.YtdfbmfikhccajaaGreatDoorDrAt
import Derived.Deep.CutRange
import Derived.Deep.RegionHeld3
import Derived.Deep.RegionWith
import Derived.Deep.AppendLies
import Derived.Deep.RegionHeldLaw
namespace Go.Proofs.YtdfbmfikhccajaaGreatDoor
open Go.RowKit

def isL (n : Nat) (x : Int) : Bool := decide (0 ≤ x) && decide (x < (n : Int))
set_option maxRecDepth 10000 in
set_option maxHeartbeats 400000 in
theorem rIs_any {B : Nat} {S : Nat → Prop} {r : Nat} {LL : List (List Int)} {MM : List (List (List Int))} (x : Int) (w : World) (h : RsAt B S w r LL MM) : Calls Tryz.prog 40 #[.pointer (some ⟨r, 0, none⟩), .int .i64 x] w fun e w' => e = .returned (.bool (isL LL.length x)) ∧ w' = w := by
  obtain ⟨dv, mv, ho, hd, _⟩ := h.ex
  have c0 : w.cell? ⟨r, 0, none⟩ = some dv := cell_of ho 0
  obtain ⟨a, cap, rfl, _⟩ := hd.form
  clear h hd ho
  by_cases h0 : 0 ≤ x
  · go_enter Tryz.func40, Tryz.ntmps40
    go_wp2_with fail
    go_ret
    exact ⟨ret_bool (by simp [isL, h0]), rfl⟩
  · have e : isL LL.length x = false := by simp [isL, h0]
    rw [e]
    clear e
    go_enter Tryz.func40, Tryz.ntmps40
    go_wp2_with fail
    go_ret
    exact ⟨rfl, rfl⟩

def goB (k cv v : Int) : Bool := (k == 1 && decide (v < cv)) || (k == 2 && decide (cv < v)) || (k == 3 && v == cv)
set_option maxRecDepth 10000 in
set_option maxHeartbeats 400000 in
theorem goes_any (k x v u : Int) (w : World) : Calls Tryz.prog 41 #[.agg #[.int .i64 k, .int .i64 x, .int .i64 v], .int .i64 u] w fun e w' => e = .returned (.bool (goB k v u)) ∧ Below w.heap.size w w' := by
  obtain ⟨W, hW⟩ : ∃ W, w.alloc (.cells #[.int .i64 k, .int .i64 x, .int .i64 v] 44) = W := ⟨_, rfl⟩
  have HB : Hid (Below w.heap.size w W) := by show Below _ _ _; rw [← hW]; exact (Below.refl _ _).alloc (Nat.le_refl _) _
  have g0 : W.heap[w.heap.size]? = some (.cells #[.int .i64 k, .int .i64 x, .int .i64 v] 44 (0, 0)) := by rw [← hW]; exact heap_alloc_new w _
  have c0 : W.cell? ⟨w.heap.size, 0, none⟩ = some (.int .i64 k) := cell_of g0 0
  have c2 : W.cell? ⟨w.heap.size, 2, none⟩ = some (.int .i64 v) := cell_of g0 2
  clear g0
  by_cases h1 : k = 1
  · subst h1
    go_enter Tryz.func41, Tryz.ntmps41
    go_wp2_with fail
    go_ret
    exact ⟨ret_bool (by simp [goB]), HB.out⟩
  by_cases h2 : k = 2
  · subst h2
    go_enter Tryz.func41, Tryz.ntmps41
    go_wp2_with fail
    go_ret
    exact ⟨ret_bool (by simp [goB]), HB.out⟩
  by_cases h3 : k = 3
  · subst h3
    go_enter Tryz.func41, Tryz.ntmps41
    go_wp2_with fail
    go_ret
    exact ⟨ret_bool (by simp [goB]), HB.out⟩
  have e1 : (k == 1) = false := by simpa using h1
  have e2 : (k == 2) = false := by simpa using h2
  have e3 : (k == 3) = false := by simpa using h3
  go_enter Tryz.func41, Tryz.ntmps41
  go_wp2_with fail
  go_ret
  exact ⟨ret_bool (by simp [goB, e1, e2, e3]), HB.out⟩

def lfR (k v : Int) (L : List Int) : List Int := L.filter fun u => !goB k v u
theorem lfR_succ (k v : Int) (L : List Int) (j : Nat) (hj : j < L.length) : lfR k v (L.take (j + 1)) = lfR k v (L.take j) ++ (if goB k v L[j] then [] else [L[j]]) := by
  unfold lfR
  rw [List.take_succ_eq_append_getElem hj, List.filter_append]
  congr 1
  cases h : goB k v L[j] <;> simp [h]
theorem lfR_len (k v : Int) (L : List Int) : (lfR k v L).length ≤ L.length := List.length_filter_le _ _
/-- What Cut leaves, and answers. -/
def cutLL (LL : List (List Int)) (k x v : Int) : List (List Int) := match LL[x.toNat]? with
  | none => LL
  | some L => if isL LL.length x && !(lfR k v L).isEmpty then LL.set x.toNat (lfR k v L) else LL
def wentLL (LL : List (List Int)) (k x v : Int) : Bool := match LL[x.toNat]? with
  | none => false
  | some L => isL LL.length x && (!(lfR k v L).isEmpty && decide ((lfR k v L).length < L.length))
def mayLL (LL : List (List Int)) (k x v : Int) : Bool := match LL[x.toNat]? with
  | none => true
  | some L => !isL LL.length x || !(lfR k v L).isEmpty
theorem cutLL_no {LL : List (List Int)} {k x v : Int} (h : isL LL.length x = false) : cutLL LL k x v = LL ∧ wentLL LL k x v = false ∧ mayLL LL k x v = true := by
  unfold cutLL wentLL mayLL
  rw [h]
  cases LL[x.toNat]? <;> exact ⟨rfl, rfl, rfl⟩
theorem cutLL_yes {LL : List (List Int)} {k v : Int} {q : Nat} (hq : q < LL.length) : cutLL LL k q v = (if (lfR k v LL[q]).isEmpty then LL else LL.set q (lfR k v LL[q])) ∧ wentLL LL k q v = (!(lfR k v LL[q]).isEmpty && decide ((lfR k v LL[q]).length < LL[q].length)) ∧ mayLL LL k q v = !(lfR k v LL[q]).isEmpty := by
  have h : isL LL.length (q : Int) = true := by simp [isL]; omega
  have e : LL[((q : Int)).toNat]? = some LL[q] := by simp [hq]
  unfold cutLL wentLL mayLL
  rw [h, e]
  generalize hb : (lfR k v LL[q]).isEmpty = b
  cases b
  · exact ⟨by simp [hb], by simp [hb], by simp [hb]⟩
  · exact ⟨by simp [hb], by simp [hb], by simp [hb]⟩
def RcOut (B : Nat) (S : Nat → Prop) (r : Nat) (LL : List (List Int)) (MM : List (List (List Int))) (k x v : Int) (w : World) (e : Ending) (w' : World) : Prop :=
  e = .returned (.tuple #[.bool (wentLL LL k x v), .bool (mayLL LL k x v)]) ∧ ∃ S', RsAt B S' w' r (cutLL LL k x v) MM ∧ SStp B S w w' ∧ Grown S w w' S'

set_option maxRecDepth 10000 in
set_option maxHeartbeats 1000000 in
theorem rCut_any {B : Nat} {S : Nat → Prop} {r : Nat} {LL : List (List Int)} {MM : List (List (List Int))} (k x v : Int) (w : World) (h : RsAt B S w r LL MM) : Calls Tryz.prog 22 #[.pointer (some ⟨r, 0, none⟩), .agg #[.int .i64 k, .int .i64 x, .int .i64 v]] w (RcOut B S r LL MM k x v w) := by
  have hBw : B ≤ w.heap.size := Nat.le_of_lt (Nat.lt_of_le_of_lt (h.lo r h.sr) (h.lt r h.sr))
  obtain ⟨W, hW⟩ : ∃ W, w.alloc (.cells #[.int .i64 k, .int .i64 x, .int .i64 v] 44) = W := ⟨_, rfl⟩
  have hb0 : Below w.heap.size w W := by rw [← hW]; exact (Below.refl _ _).alloc (Nat.le_refl _) _
  have HB : Hid (Below w.heap.size w W) := hb0
  have g0 : W.heap[w.heap.size]? = some (.cells #[.int .i64 k, .int .i64 x, .int .i64 v] 44 (0, 0)) := by rw [← hW]; exact heap_alloc_new w _
  have hlt := (Array.getElem?_eq_some_iff.1 g0).1
  have hA : RsAt B S W r LL MM := h.below hb0
  have HA : Hid (RsAt B S W r LL MM) := hA
  have HX : Hid (∀ w', Below W.heap.size W w' → w'.cell? ⟨w.heap.size, 0, none⟩ = some (.int .i64 k) ∧ w'.cell? ⟨w.heap.size, 1, none⟩ = some (.int .i64 x) ∧ w'.cell? ⟨w.heap.size, 2, none⟩ = some (.int .i64 v)) := fun w' hb => by
    have g1 := (hb.block _ hlt).trans g0
    exact ⟨cell_of g1 0, cell_of g1 1, cell_of g1 2⟩
  obtain ⟨c0, c1, c2⟩ := HX.out W (Below.refl _ _)
  cases hi : isL LL.length x with
  | false =>
    have HIs : Hid (Calls Tryz.prog 40 #[.pointer (some ⟨r, 0, none⟩), .int .i64 x] W fun e w' => e = .returned (.bool false) ∧ w' = W) := by
      have := rIs_any x W hA
      rw [hi] at this
      exact this
    obtain ⟨e1, e2, e3⟩ := cutLL_no (k := k) (v := v) hi
    have HE : Hid (cutLL LL k x v = LL ∧ wentLL LL k x v = false ∧ mayLL LL k x v = true) := ⟨e1, e2, e3⟩
    clear h hA hb0 e1 e2 e3 hi g0 hlt
    go_enter Tryz.func22, Tryz.ntmps22
    go_wp2_with fail
    refine calls_at HIs.out (by with_reducible rfl) (by with_reducible rfl) ?_
    rintro e w1 ⟨rfl, rfl⟩
    go_wp2_with fail
    refine bodyPost_ret (v := .tuple #[.bool false, .bool true]) (by simp [results, Tryz.results22, go_sem]) rfl ?_
    refine ⟨?_, S, ?_, SStp.of_below HB.out hBw, Grown.refl _ _ _⟩
    · rw [HE.out.2.1, HE.out.2.2]
    · rw [HE.out.1]; exact HA.out
  | true =>
    have HIs : Hid (Calls Tryz.prog 40 #[.pointer (some ⟨r, 0, none⟩), .int .i64 x] W fun e w' => e = .returned (.bool true) ∧ w' = W) := by
      have := rIs_any x W hA
      rw [hi] at this
      exact this
    obtain ⟨q, rfl, hq⟩ : ∃ q : Nat, x = (q : Int) ∧ q < LL.length := by
      simp [isL] at hi
      exact ⟨x.toNat, by omega, by omega⟩
    have HE : Hid (cutLL LL k q v = (if (lfR k v LL[q]).isEmpty then LL else LL.set q (lfR k v LL[q])) ∧ wentLL LL k q v = (!(lfR k v LL[q]).isEmpty && decide ((lfR k v LL[q]).length < LL[q].length)) ∧ mayLL LL k q v = !(lfR k v LL[q]).isEmpty) := cutLL_yes hq
    obtain ⟨dv, mv, ho, hd, hm⟩ := hA.ex
    have HEx : Hid (W.heap[r]? = some (.cells #[dv, mv] 85 (0, 0)) ∧ LssR S W dv LL ∧ MksR S W mv dv MM) := ⟨ho, hd, hm⟩
    obtain ⟨da, dcap, rfl, hc⟩ := hd.form
    obtain ⟨g, u, rfl, hSg, hu, hl, hz⟩ := hc q hq
    have hL64 := hA.few.ls LL[q] (List.getElem_mem hq)
    obtain ⟨L, hLL⟩ : ∃ L, LL[q] = L := ⟨_, rfl⟩
    rw [hLL] at hl HE hL64
    obtain ⟨la, lcap, rfl, hlc⟩ := hl.form
    have hltg := hA.lt g hSg
    have hltr := hA.lt r hA.sr
    have HD : Hid (∀ w', Below W.heap.size W w' → w'.cell? ⟨r, 0, none⟩ = some (.slice (some ⟨g, 0, none⟩) LL.length dcap) ∧ w'.cell? ⟨g, q, none⟩ = some (.slice la L.length lcap) ∧ ∀ i, w'.frozen? ⟨g, i, none⟩ = false) := fun w' hb =>
      ⟨(hb.cell (p := ⟨r, 0, none⟩) hltr).trans (cell_of ho 0), (hb.cell (p := ⟨g, q, none⟩) hltg).trans hu, fun i => by
        obtain ⟨cs, h1, _⟩ := hd
        obtain ⟨cur, hcur⟩ := own_type h1 (g := g) rfl
        exact frozen_of ((hb.block g hltg).trans hcur) i⟩
    have HLc : Hid (∀ w', Below W.heap.size W w' → ∀ j (hj : j < L.length), ∃ gl, la = some ⟨gl, 0, none⟩ ∧ w'.cell? ⟨gl, j, none⟩ = some (.int .i64 L[j])) := fun w' hb j hj => by
      obtain ⟨gl, e1, e2, e3⟩ := hlc j hj
      exact ⟨gl, e1, (hb.cell (p := ⟨gl, j, none⟩) (hA.lt gl e2)).trans e3⟩
    have HG : Hid (∀ (u : Int) (w' : World), Calls Tryz.prog 41 #[.agg #[.int .i64 k, .int .i64 q, .int .i64 v], .int .i64 u] w' fun e w2 => e = .returned (.bool (goB k v u)) ∧ Below w'.heap.size w' w2) := fun u w' => goes_any k q v u w'
    have hqI : (q : Int) < (LL.length : Int) := by omega
    have hn := hA.few.n
    have HLS : Hid (LL[q] = L) := hLL
    clear h hA hb0 hi g0 hlt hd hm ho hc hu hl hlc hz hLL hSg hltg hltr
    go_enter Tryz.func22, Tryz.ntmps22
    go_wp2_with fail
    refine calls_at HIs.out (by with_reducible rfl) (by with_reducible rfl) ?_
    rintro e w1 ⟨rfl, rfl⟩
    clear c0 c1 c2
    go_wp2_with fail
    go_loopw [6, 7] (fun lv iv wr => ∃ (j : Nat) (ov : Value), lv = ov ∧ iv = .int .i64 (j : Int) ∧ j ≤ L.length ∧ Hid (wr.ownsRow w1.heap.size 3 1 ov (lfR k v (L.take j)).length ((lfR k v (L.take j)).map (.int .i64))) ∧ Hid (Below w1.heap.size w1 wr)) (fun _ iv _ => L.length - (intOf iv).toNat)
    case atStart => exact ⟨0, _, rfl, rfl, Nat.zero_le _, World.ownsRow_nil _ _ _ _, Below.refl _ _⟩
    case round =>
      obtain ⟨j, _, rfl, rfl, hj, HO, HBr⟩ := hrel
      obtain ⟨x0, x1, x2⟩ := HX.out wr HBr.out
      obtain ⟨d0, d1, d2⟩ := HD.out wr HBr.out
      by_cases hjn : j < L.length
      · have hjI : (j : Int) < (L.length : Int) := by omega
        obtain ⟨gl, rfl, l0⟩ := HLc.out wr HBr.out j hjn
        have HS := lfR_succ k v L j hjn
        have hlen : (lfR k v (L.take j)).length ≤ 64 := Nat.le_trans (lfR_len _ _ _) (by rw [List.length_take]; omega)
        obtain ⟨y, hy⟩ : ∃ y, L[j] = y := ⟨_, rfl⟩
        rw [hy] at l0 HS
        go_wp2_with fail
        go_region
        go_wp2_with fail
        have HQ : Hid (∀ w', Below w1.heap.size w1 w' → w'.cell? ⟨w.heap.size, 0, none⟩ = some (.int .i64 k) ∧ w'.cell? ⟨w.heap.size, 1, none⟩ = some (.int .i64 q) ∧ w'.cell? ⟨w.heap.size, 2, none⟩ = some (.int .i64 v) ∧ w'.cell? ⟨r, 0, none⟩ = some (.slice (some ⟨g, 0, none⟩) LL.length dcap) ∧ w'.cell? ⟨g, q, none⟩ = some (.slice (some ⟨gl, 0, none⟩) L.length lcap) ∧ w'.cell? ⟨gl, j, none⟩ = some (.int .i64 y) ∧ Below w1.heap.size w1 w') := fun w' hb => by
          obtain ⟨y0, y1, y2⟩ := HX.out w' hb
          obtain ⟨z0, z1, _⟩ := HD.out w' hb
          obtain ⟨gl', e1, e2⟩ := HLc.out w' hb j hjn
          injection e1 with e1
          injection e1 with e1 _ _
          subst e1
          exact ⟨y0, y1, y2, z0, z1, by rw [e2, hy], hb⟩
        go_wp2_with fail
        go_region_held3 (fun w' => w'.cell? ⟨w.heap.size, 0, none⟩ = some (.int .i64 k) ∧ w'.cell? ⟨w.heap.size, 1, none⟩ = some (.int .i64 q) ∧ w'.cell? ⟨w.heap.size, 2, none⟩ = some (.int .i64 v) ∧ w'.cell? ⟨r, 0, none⟩ = some (.slice (some ⟨g, 0, none⟩) LL.length dcap) ∧ w'.cell? ⟨g, q, none⟩ = some (.slice (some ⟨gl, 0, none⟩) L.length lcap) ∧ w'.cell? ⟨gl, j, none⟩ = some (.int .i64 y) ∧ Below w1.heap.size w1 w')
          (first | exact HQ.out _ HBr.out.drew.drew | exact HQ.out _ (by assumption) | assumption)
          (first | (go_at_call 41; refine calls_at (HG.out y _) (by with_reducible rfl) (by with_reducible rfl) ?_; rintro e w2 ⟨rfl, hb2⟩; (have HB2 : Hid (Below wr.heap.size wr w2) := (Below.refl _ _).drew.drew.trans hb2); (have hb3 : Below w1.heap.size w1 w2 := HBr.out.trans (HB2.out.mono HBr.out.size)); clear hb2))
        have HB3 : Hid (Below w1.heap.size w1 w2) := by assumption
        have HO2 : Hid (w2.ownsRow w1.heap.size 3 1 u6 (lfR k v (L.take j)).length ((lfR k v (L.take j)).map (.int .i64))) := own_off (S := fun _ => False) HO.out (fun _ _ e => e) (Off.of_below HB2.out)
        have HQ2 : Hid (∀ w', Below w1.heap.size w1 w' → w'.cell? ⟨w.heap.size, 1, none⟩ = some (.int .i64 q) ∧ w'.cell? ⟨r, 0, none⟩ = some (.slice (some ⟨g, 0, none⟩) LL.length dcap) ∧ w'.cell? ⟨g, q, none⟩ = some (.slice (some ⟨gl, 0, none⟩) L.length lcap) ∧ w'.cell? ⟨gl, j, none⟩ = some (.int .i64 y) ∧ Below w1.heap.size w1 w') := fun w' hb => by
          obtain ⟨_, y1, _, y3, y4, y5, y6⟩ := HQ.out w' hb
          exact ⟨y1, y3, y4, y5, y6⟩
        clear HQ
        have HQ := HQ2
        clear HQ2
        cases hg : goB k v y with
        | true =>
          have HS1 : Hid (lfR k v (L.take (j + 1)) = lfR k v (L.take j)) := by show _ = _; rw [HS, hg]; simp
          clear HS hg
          go_wp2_with fail
          go_roundw
          case rel => exact ⟨j + 1, u6, rfl, by go_num, hjn, by rw [HS1.out]; exact HO2, HB3⟩
          case measure => simp [intOf]; omega
        | false =>
          have HS1 : Hid (lfR k v (L.take (j + 1)) = lfR k v (L.take j) ++ [y]) := by show _ = _; rw [HS, hg]; simp
          clear HS hg
          go_wp2_with fail
          obtain ⟨i3, hi3, hz3, hs3, hy3⟩ := info_of inf3
          have HO3 : Hid ((w2.drew.alloc (.cells #[.int .i64 y] 3)).ownsRow w1.heap.size 3 1 u6 (lfR k v (L.take j)).length ((lfR k v (L.take j)).map (.int .i64))) := own_off (S := fun _ => False) HO2.out (fun _ _ e => e) (Off.of_below ((Below.refl _ _).drew.alloc (Nat.le_refl _) _))
          have HBa : Hid (Below w1.heap.size w1 (w2.drew.alloc (.cells #[.int .i64 y] 3))) := HB3.out.drew.alloc HB3.out.size _
          have HNw : Hid (∀ i u, [(.int .i64 y : Value)][i]? = some u → (w2.drew.alloc (.cells #[.int .i64 y] 3)).cell? ((⟨w2.heap.size, 0, none⟩ : Addr).add i) = some u) := fun i u hiu => by
            cases i with
            | zero =>
              injection hiu with hiu
              subst hiu
              exact cell_of (t := 3) (cur := #[.int .i64 y]) (heap_alloc_new w2.drew _) 0
            | succ i => simp at hiu
          go_region_held_law (fun w' => w'.cell? ⟨w.heap.size, 1, none⟩ = some (.int .i64 q) ∧ w'.cell? ⟨r, 0, none⟩ = some (.slice (some ⟨g, 0, none⟩) LL.length dcap) ∧ w'.cell? ⟨g, q, none⟩ = some (.slice (some ⟨gl, 0, none⟩) L.length lcap) ∧ w'.cell? ⟨gl, j, none⟩ = some (.int .i64 y) ∧ Below w1.heap.size w1 w')
            (first | exact HQ.out _ HB3.out.drew | exact HQ.out _ HBa.out | exact HQ.out _ (by assumption) | assumption)
            (first | (refine step_append_lies _ (by rfl) _ _ 38 (by rfl) w1.heap.size 3 i3 (.int .i64 0) 1 8 un38 hi3 hz3 hs3 hy3 rfl (by decide) u6 _ _ (by rfl) HO3.out ⟨w2.heap.size, 0, none⟩ 1 1 [.int .i64 y] (by rfl) rfl HNw.out (by intro u hu; simp at hu; subst hu; rfl) (by decide) (by unfold maxLen; omega) (by omega) HBa.out.size _ rfl ?_; intro ga ca w6 ho6 hg6 hat hlt6; (have hb6 : Below w1.heap.size w1 w6 := HBa.out.grown hg6 HBa.out.size (fun g hg => (HO3.out.lt g hg).1)); (have HO6 : Hid (w6.ownsRow w1.heap.size 3 1 (.slice (some ⟨ga, 0, none⟩) ((lfR k v (L.take j)).length + 1) ca) ((lfR k v (L.take j)).length + 1) ((lfR k v (L.take j)).map (.int .i64) ++ [.int .i64 y])) := ho6); clear ho6 hg6 hat hlt6))
          have HB6 : Hid (Below w1.heap.size w1 w6) := by assumption
          go_wp2_with fail
          go_roundw
          case rel => exact ⟨j + 1, _, rfl, by go_num, hjn, by rw [HS1.out, List.map_append, List.length_append]; exact HO6, HB6⟩
          case measure => simp [intOf]; omega
      · have hje : j = L.length := by omega
        subst hje
        rw [List.take_length] at HO
        obtain ⟨F, hF⟩ : ∃ F, lfR k v L = F := ⟨_, rfl⟩
        have hFl : F.length ≤ L.length := by rw [← hF]; exact lfR_len _ _ _
        rw [hF] at HO HE
        clear hF
        obtain ⟨fa, fc, rfl⟩ : ∃ fa fc, u6 = .slice fa F.length fc := by
          rcases HO.out.2 with ⟨e, e2⟩ | ⟨g', cap', _, e, _⟩
          · exact ⟨none, 0, by rw [e, e2]⟩
          · exact ⟨_, _, e⟩
        have hnl : ¬ (L.length : Int) < (L.length : Int) := by omega
        by_cases h0 : F = []
        · subst h0
          have HA2 : Hid (RsAt B S wr r LL MM) := HA.out.below HBr.out
          go_wp2_with fail
          go_region
          go_wp2_with fail
          refine bodyPost_ret (v := .tuple #[.bool false, .bool false]) (by simp [results, Tryz.results22, go_sem]) rfl ?_
          refine ⟨?_, S, ?_, SStp.of_below (HB.out.trans (HBr.out.mono HB.out.size)).drew hBw, Grown.refl _ _ _⟩
          · rw [HE.out.2.1, HE.out.2.2]; rfl
          · rw [HE.out.1]; exact HA2.out.below (Below.refl _ _).drew
        · have hFp : 0 < F.length := List.length_pos_iff.2 h0
          have hFe : F.isEmpty = false := by simpa using h0
          have hFI : ((F.length : Int) == 0) = false := by simp; omega
          go_wp2_with fail
          go_region
          obtain ⟨x0, x1, x2⟩ := HX.out wr.drew HBr.out.drew
          obtain ⟨d0, d1, d2⟩ := HD.out wr.drew HBr.out.drew
          go_wp2_with fail
          go_region
          go_wp2_with fail
          obtain ⟨x0, x1, x2⟩ := HX.out wr.drew.drew HBr.out.drew.drew
          obtain ⟨d0, d1, d2⟩ := HD.out wr.drew.drew HBr.out.drew.drew
          go_region
          go_wp2_with fail
          refine bodyPost_ret (v := .tuple #[.bool (decide (F.length < L.length)), .bool true]) (by simp [results, Tryz.results22, go_sem]) rfl ?_
          have HU : wr.drew.drew.drew.ownsRow w1.heap.size 3 1 (.slice fa F.length fc) F.length (F.map (.int .i64)) := HO.out
          obtain ⟨S', q1, q2, q3⟩ := rs_put HA.out HEx.out.1 HEx.out.2.1 HEx.out.2.2 hq HBr.out.drew.drew.drew HU (by omega)
          refine ⟨?_, S', ?_, ⟨(HB.out.mono hBw).trans q2.below, (Off.of_below HB.out).trans q2.off⟩, fun k hk => ?_⟩
          · rw [HE.out.2.1, HE.out.2.2, hFe]; simp
          · rw [HE.out.1, hFe]; exact q1
          · rcases q3 k hk with e | e
            · exact .inl e
            · exact .inr ⟨Nat.le_trans HB.out.size e.1, e.2⟩
end Go.Proofs.YtdfbmfikhccajaaGreatDoor

namespace Go.Proofs.YtdfbmfikhccajaaGreatDoor
open Go.RowKit

/-- What is read of a store, now and later. -/
theorem RsAt.read {B : Nat} {S : Nat → Prop} {w : World} {r : Nat} {LL : List (List Int)} {MM : List (List (List Int))} (h : RsAt B S w r LL MM) : ∃ a cap, ∀ w', Below w.heap.size w w' → w'.cell? ⟨r, 0, none⟩ = some (.slice a LL.length cap) ∧ ∀ i (hi : i < LL.length), ∃ g la lc, a = some ⟨g, 0, none⟩ ∧ w'.cell? ⟨g, i, none⟩ = some (.slice la LL[i].length lc) ∧ ∀ j (hj : j < LL[i].length), ∃ gl, la = some ⟨gl, 0, none⟩ ∧ w'.cell? ⟨gl, j, none⟩ = some (.int .i64 LL[i][j]) := by
  obtain ⟨dv, mv, h1, h2, _⟩ := h.ex
  obtain ⟨a, cap, rfl, h3⟩ := h2.form
  refine ⟨a, cap, fun w' hb => ⟨(hb.cell (p := ⟨r, 0, none⟩) (h.lt r h.sr)).trans (cell_of h1 0), fun i hi => ?_⟩⟩
  obtain ⟨g, u, rfl, hS, hc, hl, _⟩ := h3 i hi
  obtain ⟨la, lc, rfl, h4⟩ := hl.form
  refine ⟨g, la, lc, rfl, (hb.cell (p := ⟨g, i, none⟩) (h.lt g hS)).trans hc, fun j hj => ?_⟩
  obtain ⟨gl, rfl, hS2, hc2⟩ := h4 j hj
  exact ⟨gl, rfl, (hb.cell (p := ⟨gl, j, none⟩) (h.lt gl hS2)).trans hc2⟩

end Go.Proofs.YtdfbmfikhccajaaGreatDoor
