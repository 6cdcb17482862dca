/-
  Put together: HlFew, HlGoes, HlMd.
-/
import Derived.Test.YtemnbcilmbojhaaGreatDoorMdFewM
import Derived.Test.YtemnbcilmbojhaaGreatDoorJ20
import Derived.Test.YtemnbcilmbojhaaGreatDoorJ45
import Derived.Laws.StructEq
import Derived.Test.YtemnbcilmbojhaaGreatDoorJ46
import Derived.Test.YtemnbcilmbojhaaGreatDoorJ44
namespace Go.Proofs.YtemnbcilmbojhaaGreatDoor
open Go.RowKit

set_option maxRecDepth 10000 in
set_option maxHeartbeats 2000000 in
theorem few_any (m : Md.Mo) (vv vc vg : Value) (a a2 : Option Addr) (n n2 cap cap2 : Nat) (w : World) (h : MoAt w m vv vc vg) (hn : n ≤ 9223372036854775807) :
    Calls Tryz.prog 6 #[moVal m vv vc vg, .slice a n cap, .slice a2 n2 cap2] w fun e w' => (∃ b : Bool, e = .returned (.bool b) ∧ (b = true → n ≤ 20000 ∧ n2 ≤ 70)) ∧ Below w.heap.size w w' := by
  obtain ⟨W, hW⟩ : ∃ W, w.alloc (.cells #[vv, vc, .bool m.has, vg] 26) = W := ⟨_, rfl⟩
  have hbW : Below w.heap.size w W := by rw [← hW]; exact (Below.refl _ _).alloc (Nat.le_refl _) _
  have hN : W.heap[w.heap.size]? = some (.cells #[vv, vc, .bool m.has, vg] 26 (0, 0)) := by rw [← hW]; exact heap_alloc_new w _
  obtain ⟨W1, hW1⟩ : ∃ W1, W.alloc (.cells #[.int .i64 20000] 101) = W1 := ⟨_, rfl⟩
  have hbW1 : Below W.heap.size W W1 := by rw [← hW1]; exact (Below.refl _ _).alloc (Nat.le_refl _) _
  have hcnt : CountAt W1 W.heap.size 20000 := by show _ = _; rw [← hW1]; exact heap_alloc_new W _
  have hb1 : Below w.heap.size w W1 := hbW.trans (hbW1.mono hbW.size)
  have HM : Hid (Calls Tryz.prog 21 #[.int .i64 20000] W fun e w' => e = .returned (.pointer (some ⟨W.heap.size, 0, none⟩)) ∧ w' = W1) := by
    have := manyCount_any 20000 W
    rw [hW1] at this; exact this
  have H21 : Hid (Calls Tryz.prog 22 #[.pointer (some ⟨W.heap.size, 0, none⟩), .agg #[vv, vc, .bool m.has, vg]] W1 fun e w' => e = .returned (.tuple #[]) ∧ Took W.heap.size 20000 (costM m) W1 w') :=
    model_count W.heap.size 20000 m _ _ _ W1 hcnt (by decide) (by decide) w h hb1 hbW.size
  have hlt0 := (Array.getElem?_eq_some_iff.1 hN).1
  have H23 : Hid (∀ l w', CountAt w' W.heap.size l → l ≤ 20000 → -9223372036854775807 ≤ l → Calls Tryz.prog 23 #[.pointer (some ⟨W.heap.size, 0, none⟩), .int .i64 (n : Int)] w' fun e w2 => IsBool e ∧ Took W.heap.size l (n : Int) w' w2) := fun l w' h1 h2 h3 => add_any W.heap.size l n w' h1 h2 h3 (by unfold maxLen; omega)
  have p0 := cell_of (hbW1.block _ hlt0 |>.trans hN) 0
  have p1 := cell_of (hbW1.block _ hlt0 |>.trans hN) 1
  have p2 := cell_of (hbW1.block _ hlt0 |>.trans hN) 2
  have p3 := cell_of (hbW1.block _ hlt0 |>.trans hN) 3
  have HB1 : Hid (Below w.heap.size w W1) := hb1
  have HP : Hid (w.heap.size ≤ W.heap.size) := hbW.size
  have hmv : moVal m vv vc vg = .agg #[vv, vc, .bool m.has, vg] := rfl
  rw [hmv]
  clear h hbW hN hbW1 hcnt hb1 hW1 hlt0 hmv
  go_enter Tryz.func6, Tryz.ntmps6
  go_upto_region 4 with (first
    | (go_at_call 21; (try rw [hW]); refine calls_at HM.out (by with_reducible rfl) (by with_reducible rfl) ?_; rintro e w' ⟨rfl, hww⟩; rw [hww]; clear hww)
    | (go_at_call 22; refine calls_at H21.out (by with_reducible rfl) (by with_reducible rfl) ?_; rintro e w2 ⟨rfl, ⟨⟨l2, hC2, h21, h22, hT2⟩, hG2⟩⟩;
       have HC2 : Hid (CountAt w2 W.heap.size l2) := hC2; have HG2 : Hid (W1.grownBy w2 (some W.heap.size)) := hG2; have HT2 : Hid (0 ≤ l2 → l2 + (costM m : Int) ≤ 20000) := hT2; clear hC2 hT2 hG2)
    | (go_at_call 23; refine calls_at (H23.out l2 _ HC2.out h21 h22) (by with_reducible rfl) (by with_reducible rfl) ?_; rintro e w4 ⟨⟨b4, rfl⟩, ⟨⟨l4, hC4, h41, h42, hT4⟩, hG4⟩⟩;
       have HC4 : Hid (CountAt w4 W.heap.size l4) := hC4; have HG4 : Hid (W1.grownBy w4 (some W.heap.size)) := grownBy_trans HG2.out hG4; have HT4 : Hid (0 ≤ l4 → l4 + (n : Int) ≤ l2) := hT4; clear hC4 hT4 hG4))
  by_cases hl : 0 ≤ l4
  · have hd : decide (0 ≤ l4) = true := decide_eq_true hl
    have HO : Hid (Calls Tryz.prog 24 #[.pointer (some ⟨W.heap.size, 0, none⟩)] w4 fun e w' => e = .returned (.bool true) ∧ w' = w4) := by
      have := ok_any W.heap.size l4 w4 HC4.out
      rw [hd] at this
      exact this
    have HX : Hid (n ≤ 20000) := by
      have := HT4.out hl
      have : 0 ≤ l2 := by omega
      have := HT2.out this
      show _ ≤ _
      omega
    clear hd
    go_wp2_with (go_at_call 24; refine calls_at HO.out (by with_reducible rfl) (by with_reducible rfl) ?_; rintro e w' ⟨rfl, hww⟩; rw [hww]; clear hww)
    go_ret
    refine ⟨⟨_, rfl, fun h => ?_⟩, below_grownBy HB1.out HG4.out HP.out⟩
    have h2 : (n2 : Int) ≤ 70 := by simpa using h
    exact ⟨HX.out, by omega⟩
  · have hd : decide (0 ≤ l4) = false := decide_eq_false hl
    have HO : Hid (Calls Tryz.prog 24 #[.pointer (some ⟨W.heap.size, 0, none⟩)] w4 fun e w' => e = .returned (.bool false) ∧ w' = w4) := by
      have := ok_any W.heap.size l4 w4 HC4.out
      rw [hd] at this
      exact this
    clear hd
    go_wp2_with (go_at_call 24; refine calls_at HO.out (by with_reducible rfl) (by with_reducible rfl) ?_; rintro e w' ⟨rfl, hww⟩; rw [hww]; clear hww)
    go_ret
    exact ⟨⟨false, rfl, fun h => by cases h⟩, below_grownBy HB1.out HG4.out HP.out⟩
end Go.Proofs.YtemnbcilmbojhaaGreatDoor

namespace Go.Proofs.YtemnbcilmbojhaaGreatDoor
open Go.RowKit

theorem czs_get {Z : List Cz} {us : List Value} (h : us.length = Z.length) (j : Nat) (hj : j < Z.length) (hu : j < us.length) (c : Nat) (hc : c < 7) : (czs Z us)[j * 7 + c]? = (Z[j].cells us[j])[c]? := by
  induction Z generalizing us j with
  | nil => exact absurd hj (by simp)
  | cons z Z ih =>
    cases us with
    | nil => exact absurd hu (by simp)
    | cons u us =>
      have e : czs (z :: Z) (u :: us) = z.cells u ++ czs Z us := by simp [czs]
      rw [e]
      have hl : (z.cells u).length = 7 := rfl
      cases j with
      | zero =>
        rw [Nat.zero_mul, Nat.zero_add, List.getElem?_append_left (by omega)]
        rfl
      | succ j =>
        rw [List.getElem?_append_right (by omega), hl, show (j + 1) * 7 + c - 7 = j * 7 + c by omega]
        exact ih (by simpa using h) j (by simpa using hj) (by simpa using hu)
/-- A list of causes in memory. -/
def ZsAt (w : World) (a : Option Addr) (Z : List Cz) : Prop := ∀ j (h : j < Z.length), ∃ b off u, a = some ⟨b, off, none⟩ ∧ b < w.heap.size ∧ (w.cell? ⟨b, off + j * 7 + 1, none⟩ = some (.int .i64 3) ∧ w.cell? ⟨b, off + j * 7 + 2, none⟩ = some (.int .i64 (Z[j].x : Int)) ∧ w.cell? ⟨b, off + j * 7 + 3, none⟩ = some (.int .i64 Z[j].v)) ∧ (w.cell? ⟨b, off + j * 7 + 4, none⟩ = some (.int .i64 Z[j].lo) ∧ w.cell? ⟨b, off + j * 7 + 5, none⟩ = some (.int .i64 Z[j].hi) ∧ w.cell? ⟨b, off + j * 7 + 6, none⟩ = some u) ∧ IntsAt w u Z[j].xs
theorem CzAt.zs {w : World} {B : Nat} {v : Value} {Z : List Cz} {us : List Value} (h : CzAt w B v Z us) (hl : ∀ z ∈ Z, z.xs.length ≤ 1000000) : ∃ a cap, v = .slice a Z.length cap ∧ ZsAt w a Z := by
  rcases h.row.2 with ⟨rfl, hn⟩ | ⟨g, cap, cur, rfl, _, h3, _, _, _, h7⟩
  · exact ⟨none, 0, by rw [hn], fun j hj => by omega⟩
  · refine ⟨_, cap, rfl, fun j hj => ?_⟩
    have hu : j < us.length := by rw [h.len]; exact hj
    have get : ∀ c v, c < 7 → (Z[j].cells us[j])[c]? = some v → w.cell? ⟨g, 0 + j * 7 + c, none⟩ = some v := fun c v hc hk => by
      rw [cell_of h3, Nat.zero_add]
      have := czs_get h.len j hj hu c hc
      rw [hk, ← h7, List.getElem?_take, if_pos (by omega)] at this
      simpa using this
    exact ⟨g, 0, us[j], rfl, (Array.getElem?_eq_some_iff.1 h3).1, ⟨get 1 _ (by decide) rfl, get 2 _ (by decide) rfl, get 3 _ (by decide) rfl⟩, ⟨get 4 _ (by decide) rfl, get 5 _ (by decide) rfl, get 6 _ (by decide) rfl⟩, own_ints (h.each j hu hj) (by unfold maxLen; have := hl _ (List.getElem_mem hj); omega)⟩
theorem ZsAt.below {w w' : World} {a : Option Addr} {Z : List Cz} (h : ZsAt w a Z) (hb : Below w.heap.size w w') : ZsAt w' a Z := fun j hj => by
  obtain ⟨b, off, u, e, hlt, ⟨h1, h2, h3⟩, ⟨h4, h5, h6⟩, hi⟩ := h j hj
  have hc : ∀ k, w'.cell? ⟨b, k, none⟩ = w.cell? ⟨b, k, none⟩ := fun k => hb.cell (p := ⟨b, _, none⟩) hlt
  exact ⟨b, off, u, e, Nat.lt_of_lt_of_le hlt hb.size, ⟨(hc _).trans h1, (hc _).trans h2, (hc _).trans h3⟩, ⟨(hc _).trans h4, (hc _).trans h5, (hc _).trans h6⟩, hi.below hb⟩
def goB (Z : List Cz) (x v : Int) : Bool := Z.any fun z => decide ((z.x : Int) = x) && decide (z.v = v)
theorem go_take {Z : List Cz} {x v : Int} {k : Nat} (hk : k < Z.length) : goB (Z.take (k + 1)) x v = (goB (Z.take k) x v || (decide ((Z[k].x : Int) = x) && decide (Z[k].v = v))) := by
  unfold goB
  rw [List.take_succ_eq_append_getElem hk, List.any_append]
  simp
set_option maxRecDepth 10000 in
set_option maxHeartbeats 1000000 in
theorem goes_any (a : Option Addr) (cap : Nat) (Z : List Cz) (x v : Int) (w : World) (hZ : ZsAt w a Z) (hl : Z.length ≤ 1000000) : Calls Tryz.prog 17 #[.slice a Z.length cap, .int .i64 x, .int .i64 v] w fun e w' => e = .returned (.bool (goB Z x v)) ∧ Below w.heap.size w w' := by
  have HZ : Hid (∀ j (h : j < Z.length), ∃ b off, a = some ⟨b, off, none⟩ ∧ (w.cell? ⟨b, off + j * 7 + 1, none⟩ = some (.int .i64 3) ∧ w.cell? ⟨b, off + j * 7 + 2, none⟩ = some (.int .i64 (Z[j].x : Int)) ∧ w.cell? ⟨b, off + j * 7 + 3, none⟩ = some (.int .i64 Z[j].v))) := fun j hj => by
    obtain ⟨b, off, u, e, hlt, h1, _⟩ := hZ j hj
    exact ⟨b, off, e, h1⟩
  clear hZ
  go_enter Tryz.func17, Tryz.ntmps17
  go_wp2_with fail
  go_loopw [7] (fun iv wr => ∃ (k : Nat), iv = .int .i64 (k : Int) ∧ k ≤ Z.length ∧ Hid (goB (Z.take k) x v = false) ∧ wr = w) (fun iv _ => Z.length - (intOf iv).toNat)
  case atStart => exact ⟨0, rfl, Nat.zero_le _, rfl, rfl⟩
  case round =>
  obtain ⟨k, rfl, hk, HA, rfl⟩ := hrel
  by_cases hkn : k < Z.length
  case neg =>
    have hke : k = Z.length := by omega
    subst hke
    have hkI : ¬ (Z.length : Int) < (Z.length : Int) := by omega
    go_wp2_with fail
    go_ret
    have := HA.out
    rw [List.take_length] at this
    rw [this]
    exact ⟨rfl, Below.refl _ _⟩
  case pos =>
  have hkI : (k : Int) < (Z.length : Int) := by omega
  obtain ⟨b, off, rfl, q1, q2, q3⟩ := HZ.out k hkn
  have HN : Hid (goB (Z.take (k + 1)) x v = (goB (Z.take k) x v || (decide ((Z[k].x : Int) = x) && decide (Z[k].v = v)))) := go_take hkn
  have HM : Hid ((decide ((Z[k].x : Int) = x) && decide (Z[k].v = v)) = true → goB Z x v = true) := fun h => List.any_eq_true.2 ⟨_, List.getElem_mem hkn, h⟩
  obtain ⟨zx, hzx⟩ : ∃ zx : Int, (Z[k].x : Int) = zx := ⟨_, rfl⟩
  obtain ⟨zv, hzv⟩ : ∃ zv : Int, Z[k].v = zv := ⟨_, rfl⟩
  rw [hzx, hzv] at HN HM
  rw [hzx] at q2
  rw [hzv] at q3
  clear hzx hzv
  by_cases h1 : zx = x
  · by_cases h2 : zv = v
    · have HM2 : Hid (goB Z x v = true) := HM.out (by simp [h1, h2])
      go_wp2_with fail
      go_ret
      rw [HM2.out]
      exact ⟨rfl, Below.refl _ _⟩
    · have HN2 : Hid (goB (Z.take (k + 1)) x v = false) := by show _ = _; rw [HN.out, HA.out]; simp [h2]
      clear HN HM HA
      go_wp2_with fail
      go_roundw
      case rel => exact ⟨k + 1, by go_num, hkn, HN2, trivial⟩
      case measure => simp [intOf]; omega
  · have HN2 : Hid (goB (Z.take (k + 1)) x v = false) := by show _ = _; rw [HN.out, HA.out]; simp [h1]
    clear HN HM HA
    go_wp2_with fail
    go_roundw
    case rel => exact ⟨k + 1, by go_num, hkn, HN2, trivial⟩
    case measure => simp [intOf]; omega
end Go.Proofs.YtemnbcilmbojhaaGreatDoor

namespace Go.Proofs.YtemnbcilmbojhaaGreatDoor

theorem width {s : St} (h : Alls s) : ∀ d ∈ s.now, d.hi - d.lo < 64 := fun d hd => by
  have hf := fine_of (h d hd).1 (h d hd).2
  obtain ⟨k, hk, e1, _⟩ := (Dm.has_is (h d hd).1 _).1 hf.loIn
  obtain ⟨j, hj, e2, _⟩ := (Dm.has_is (h d hd).1 _).1 hf.hiIn
  omega
theorem dmAt_get {D : List Dm} {x : Nat} (h : x < D.length) : D[x]? = some (dmAt D x) := by
  unfold dmAt
  rw [List.getD_eq_getElem?_getD, List.getElem?_eq_getElem h]
  rfl
theorem dmAt_fine {D : List Dm} (hF : Fines D) {x : Nat} (h : x < D.length) : (dmAt D x).Fine := hF.get x _ (dmAt_get h)
theorem dmAt_less {D' D : List Dm} (hF' : Fines D') (hF : Fines D) (hw : Fewer D' D) {x : Nat} (h : x < D.length) : (dmAt D x).lo ≤ (dmAt D' x).lo ∧ (dmAt D' x).hi ≤ (dmAt D x).hi := by
  have h' : x < D'.length := by rw [hw.len]; exact h
  have f := dmAt_fine hF h
  have f' := dmAt_fine hF' h'
  have hs := hw.get x _ _ (dmAt_get h') (dmAt_get h)
  exact ⟨f.least _ (hs _ f'.loIn), f.most _ (hs _ f'.hiIn)⟩
section
variable {D' D : List Dm} {xs : List Int}

theorem in_less (hF' : Fines D') (hF : Fines D) (hw : Fewer D' D) {a t y : Int} (hy : y ∈ plP D.length xs) (h : inW D a t y = true) : inW D' a t y = true := by
  have h0 := plP_in hy
  have := dmAt_less hF' hF hw (x := y.toNat) (by omega)
  have h1 := inW_iff.1 h
  exact inW_iff.2 ⟨by omega, by omega⟩
theorem wc_less (hF' : Fines D') (hF : Fines D) (hw : Fewer D' D) (a t : Int) : wc D (plP D.length xs) a t ≤ wc D' (plP D.length xs) a t := List.countP_mono_left fun _ hy h => in_less hF' hF hw hy h
theorem over_less (hF' : Fines D') (hF : Fines D) (hw : Fewer D' D) {a t : Int} (h : OF D (plP D.length xs) a t) : OF D' (plP D'.length xs) a t := by
  rw [hw.len]
  have := wc_less (xs := xs) hF' hF hw a t
  exact ⟨by have := h.1; omega, by have := h.2; omega⟩
/-- What goes of more, goes of less, or isn't there. -/
theorem goes_less (hF' : Fines D') (hF : Fines D) (hw : Fewer D' D) {Gs Gs' : List Gr} (hD : D.length ≤ 32) (hp : Gs.Perm (hcG D xs)) (hs : Gs.Pairwise fun a b => a.hi ≤ b.hi) (hp' : Gs'.Perm (hcG D' xs)) (hs' : Gs'.Pairwise fun a b => a.hi ≤ b.hi)
    (hno : (crL Gs (hcG D xs)).any ov = false) (hno' : (crL Gs' (hcG D' xs)).any ov = false) {z : Cz} (hz : z ∈ hcZ D xs (crL Gs (hcG D xs))) (hv : (dmAt D' z.x).has z.v = true) : ∃ z' ∈ hcZ D' xs (crL Gs' (hcG D' xs)), z'.x = z.x ∧ z'.v = z.v := by
  have hD' : D'.length ≤ 32 := by rw [hw.len]; exact hD
  have n0 : ∀ a t, ¬ OF D (plP D.length xs) a t := fun a t h => by
    have := (over_iff hD hp hs).2 ⟨a, t, h⟩
    rw [hno] at this
    cases this
  have n1 : ∀ a t, ¬ OF D' (plP D'.length xs) a t := fun a t h => by
    have := (over_iff hD' hp' hs').2 ⟨a, t, h⟩
    rw [hno'] at this
    cases this
  unfold hcZ at hz
  rw [List.mem_flatMap] at hz
  obtain ⟨g, hg, hz⟩ := hz
  unfold czL at hz
  rw [List.mem_flatMap] at hz
  obtain ⟨v, hva, hz⟩ := hz
  obtain ⟨m1, m2, m3, m4, m5, m6⟩ := hcG_mem hg
  have hf := dmAt_fine hF m2
  have hvh := (hf.all v).1 hva
  obtain ⟨e1, e2, i, hi, hif, hlo, hhi, _⟩ := cz1_mem (by rw [m3]; exact hf.least v hvh) hz
  obtain ⟨a, t, rfl, hw0, hw1⟩ := crowd_is hD hp hs hi
  have hlo2 : a ≤ v := hlo
  have hhi2 : v ≤ t := hhi
  clear hlo hhi
  have hfull : FU D (plP D.length xs) a t := by
    refine ⟨hw0, ?_⟩
    have : ¬ (t - a + 1 < (wc D (plP D.length xs) a t : Int)) := fun h => n0 a t ⟨hw0, h⟩
    omega
  have hgP := cntP_pos m6
  have hle := wc_less (xs := xs) hF' hF hw a t
  have hfull' : FU D' (plP D'.length xs) a t := by
    have h2 : 0 < wc D' (plP D'.length xs) a t := by rw [hw.len]; omega
    refine ⟨h2, ?_⟩
    have h3 : ¬ (t - a + 1 < (wc D' (plP D'.length xs) a t : Int)) := fun h => n1 a t ⟨h2, h⟩
    have h4 := hfull.2
    rw [hw.len] at h3 ⊢
    omega
  rw [ivO_f hD hgP] at hif
  have hgP' : ((g.x : Nat) : Int) ∈ plP D'.length xs := by rw [hw.len]; exact hgP
  have hnot : inW D' a t (g.x : Int) = false := by
    cases hc : inW D' a t (g.x : Int) with
    | false => rfl
    | true =>
      exfalso
      have h5 : wc D (plP D.length xs) a t < wc D' (plP D.length xs) a t := by
        unfold wc
        have : ∀ P : List Int, (∀ y ∈ P, inW D a t y = true → inW D' a t y = true) → ((g.x : Int) ∈ P) → P.countP (inW D a t) < P.countP (inW D' a t) := by
          intro P
          induction P with
          | nil => intro _ h; exact absurd h (by simp)
          | cons y P ih =>
            intro h1 h2
            rw [List.countP_cons, List.countP_cons]
            have hm : P.countP (inW D a t) ≤ P.countP (inW D' a t) := List.countP_mono_left fun z hz => h1 z (List.mem_cons_of_mem _ hz)
            rcases List.mem_cons.1 h2 with h2 | h2
            · rw [← h2, hif, hc]
              simp
              omega
            · have := ih (fun z hz => h1 z (List.mem_cons_of_mem _ hz)) h2
              have h3 := h1 y (by simp)
              by_cases h4 : inW D a t y = true
              · rw [if_pos h4, if_pos (h3 h4)]
                omega
              · rw [if_neg h4]
                omega
        exact this _ (fun y hy h => in_less hF' hF hw hy h) hgP
      have h6 := hfull'.2
      have h7 := hfull.2
      rw [hw.len] at h6
      omega
  obtain ⟨g', hg', x1, x2, x3⟩ := hcG_at hD' hgP'
  have h' : g.x < D'.length := by rw [hw.len]; exact m2
  have f' := dmAt_fine hF' h'
  rw [e1, e2] at hv
  have hi' := full_in hD' hp' hs' n1 hfull'
  obtain ⟨z', hz', y1, y2⟩ := cz1_takes (P := plP D'.length xs) (g := g') (v := v) (by rw [x2]; exact f'.least v hv) (by rw [x3]; exact f'.most v hv) hi' (by rw [x1, ivO_f hD' hgP']; exact hnot) hlo2 hhi2
  refine ⟨z', ?_, by rw [y1, x1, e1], by rw [y2, e2]⟩
  unfold hcZ
  rw [List.mem_flatMap]
  refine ⟨g', hg', ?_⟩
  unfold czL
  rw [List.mem_flatMap]
  exact ⟨v, by rw [x1]; exact (f'.all v).2 hv, hz'⟩
end
end Go.Proofs.YtemnbcilmbojhaaGreatDoor
