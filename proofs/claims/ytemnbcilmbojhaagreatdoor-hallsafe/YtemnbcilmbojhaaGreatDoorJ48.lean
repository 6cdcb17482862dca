/-
  Put together: HlFails, HlKn0, HlKnB.
-/
import Derived.Test.YtemnbcilmbojhaaGreatDoorJ47
import Derived.Laws.ResultCell
import Derived.Test.YtemnbcilmbojhaaGreatDoorJ34
namespace Go.Proofs.YtemnbcilmbojhaaGreatDoor
open Go.RowKit

/-- What Fails answers. -/
def HfOut (D : List Dm) (xs : List Int) (w : World) (e : Ending) (w' : World) : Prop := ∃ Gs, Gs.Perm (hcG D xs) ∧ Gs.Pairwise (fun a b => a.hi ≤ b.hi) ∧ Below w.heap.size w w' ∧
  (((crL Gs (hcG D xs)).any ov = false ∧ e = .returned (.tuple #[.agg #[.int .i64 0, .int .i64 0, .slice none 0 0], .bool false])) ∨ (∃ i ∈ crL Gs (hcG D xs), ov i = true ∧ ∃ v, e = .returned (.tuple #[.agg #[.int .i64 i.lo, .int .i64 i.hi, v], .bool true]) ∧ IntsAt w' v ((plP D.length xs).filter fun x => i.f x.toNat)))
theorem res_ct {P : Program} {fn : Func} {p u : Tmp} {ty : TypeId} (h : fn.results = #[.cell p ty, .tmp u]) (tmps : Array Value) (w : World) (g : Nat) (t : TypeId) (cs : Array Value) (fr : Nat × Nat) (d : TypeDesc)
    (hp : tmps.getD p undef = .pointer (some ⟨g, 0, none⟩)) (hg : w.heap[g]? = some (.cells cs t fr))
    (hu : P.underlying ty = some d) (hd : (match d with | .struct _ | .array _ _ => true | _ => false) = true) (hi : (P.info? ty).map (·.size) = some cs.size) :
    (results fn tmps).run P w = .ok (.tuple #[.agg cs, tmps.getD u undef]) w := by
  rw [results_cell_tmp h, hp]
  simp [asAddr, run_loadVar_row w g t ty cs fr d hg hu hd hi]
theorem res10 : Tryz.f10.results = #[.cell 4 37, .tmp 5] := rfl
set_option maxRecDepth 10000 in
set_option maxHeartbeats 4000000 in
theorem fails_any (xa : Option Addr) (xc : Nat) (xs : List Int) (B p : Nat) (nv mv : Value) (s : St) (w : World) (hX : IntsAt w (.slice xa xs.length xc) xs) (hxl : xs.length ≤ 1000000) (hS : StAt B w p nv mv s) (hT : Tz w) (hs : 0 < w.heap.size) : Calls Tryz.prog 10 #[.slice xa xs.length xc, .pointer (some ⟨p, 0, none⟩)] w (HfOut s.now xs w) := by
  obtain ⟨W, hW⟩ : ∃ W, w.alloc (.cells #[.int .i64 0, .int .i64 0, .slice none 0 0] 37) = W := ⟨_, rfl⟩
  have hb0 : Below w.heap.size w W := by rw [← hW]; exact (Below.refl _ _).alloc (Nat.le_refl _) _
  have HW0 : Hid (W.heap[w.heap.size]? = some (.cells #[.int .i64 0, .int .i64 0, .slice none 0 0] 37 (0, 0))) := by rw [← hW]; exact heap_alloc_new w _
  have hsW : 0 < W.heap.size := Nat.lt_of_lt_of_le hs hb0.size
  have HPl : Hid (Calls Tryz.prog 26 #[.slice xa xs.length xc, .pointer (some ⟨p, 0, none⟩)] W (PlOut s.now xs W)) := places_any xa xc xs B p nv mv s W (hX.below hb0) hxl (hS.below hb0) (hT.below hb0 hs) hsW
  have HBW : Hid (Below w.heap.size w W) := hb0
  have HGo : Hid (∀ g ∈ hcG s.now xs, g.Ok) := hcG_ok hS.good hxl
  have HPi : Hid (∀ y ∈ plP s.now.length xs, 0 ≤ y ∧ y < 32) := fun y hy => by
    have := plP_in hy
    have := hS.n32
    omega
  have HPn : Hid ((plP s.now.length xs).length ≤ 1000000) := Nat.le_trans (plP_len _ _) hxl
  have HGl : Hid ((hcG s.now xs).length ≤ 32) := hcG_len _ _
  obtain ⟨D, hD⟩ : ∃ D, s.now = D := ⟨_, rfl⟩
  rw [hD] at HPl HGo HPi HPn HGl ⊢
  have HOut : Hid (∀ Gs e w', Gs.Perm (hcG D xs) → Gs.Pairwise (fun a b => a.hi ≤ b.hi) → Below w.heap.size w w' → (((crL Gs (hcG D xs)).any ov = false ∧ e = .returned (.tuple #[.agg #[.int .i64 0, .int .i64 0, .slice none 0 0], .bool false])) ∨ (∃ i ∈ crL Gs (hcG D xs), ov i = true ∧ ∃ v, e = .returned (.tuple #[.agg #[.int .i64 i.lo, .int .i64 i.hi, v], .bool true]) ∧ IntsAt w' v ((plP D.length xs).filter fun x => i.f x.toNat))) → HfOut D xs w e w') := fun Gs e w' h1 h2 h3 h4 => ⟨Gs, h1, h2, h3, h4⟩
  unfold PlOut at HPl
  rw [show grL D (plP D.length xs) 32 = hcG D xs from rfl] at HPl
  clear hX hS hT hD hb0
  obtain ⟨P, hP⟩ : ∃ P, plP D.length xs = P := ⟨_, rfl⟩
  obtain ⟨G, hG⟩ : ∃ G, hcG D xs = G := ⟨_, rfl⟩
  rw [hP] at HPl HPi HPn HOut
  rw [hG] at HPl HGo HGl HOut
  clear hP hG
  go_enter Tryz.func10, Tryz.ntmps10
  go_upto_region 1 with fail
  try rw [hW]
  clear hW
  go_upto_region 2 with (first | (go_at_call 26; refine calls_at HPl.out (by with_reducible rfl) (by with_reducible rfl) ?_; intro e w1 hh; (obtain ⟨pv, gv, h1, h2, h3, h4⟩ := hh); subst h1; (obtain ⟨pa, pc, e1⟩ := own_slice h2); (obtain ⟨ga, gc, e2⟩ := own_slice h3); subst e1; subst e2; (have HO1 : Hid _ := h2); (have HO2 : Hid _ := h3); (have HB1 : Hid _ := h4); clear h2 h3 h4))
  obtain ⟨V, hV⟩ : ∃ V, w1.alloc (.cells #[.slice pa P.length pc, .slice ga G.length gc] 66) = V := ⟨_, rfl⟩
  have hbV : Below w1.heap.size w1 V := by rw [← hV]; exact (Below.refl _ _).alloc (Nat.le_refl _) _
  have gV : V.heap[w1.heap.size]? = some (.cells #[.slice pa P.length pc, .slice ga G.length gc] 66 (0, 0)) := by rw [← hV]; exact heap_alloc_new w1 _
  have HgV : Hid (V.heap[w1.heap.size]? = some (.cells #[.slice pa P.length pc, .slice ga G.length gc] 66 (0, 0))) := gV
  have HO3 : Hid (V.ownsRow W.heap.size 79 4 (.slice ga G.length gc) G.length (grs G)) := own_bl HO2.out hbV
  have HO4 : Hid (V.ownsRow W.heap.size 3 1 (.slice pa P.length pc) P.length (P.map (.int .i64))) := own_bl HO1.out hbV
  have HBV : Hid (Below W.heap.size W V) := bl_next HB1.out hbV
  try rw [hV]
  have z0 := cell_of gV 0
  have z1 := cell_of gV 1
  clear hV hbV gV HO1 HO2 HB1 HPl
  have HCr : Hid (Calls Tryz.prog 27 #[.agg #[.slice pa P.length pc, .slice ga G.length gc]] V (CrOut G V)) := crowd_any _ W.heap.size ga gc G V HO3.out HGo.out HGl.out
  go_upto_region 3 with (first | (go_at_call 27; refine calls_at HCr.out (by with_reducible rfl) (by with_reducible rfl) ?_; intro e w2 hh; (obtain ⟨Gs, lv, h1, h2, h3, h4, h5⟩ := hh); subst h3; (obtain ⟨la, lc, e1⟩ := own_slice h4); subst e1; (have HPe : Hid _ := h1); (have HPa : Hid _ := h2); (have HLo : Hid _ := h4); (have HB2 : Hid _ := h5); clear h1 h2 h4 h5))
  clear z0 z1 HCr
  have HGso : Hid (∀ g ∈ Gs, g.Ok) := fun g hg => HGo.out g (HPe.out.mem_iff.1 hg)
  have HLok : Hid (∀ i ∈ crL Gs G, i.Ok) := crL_ok HGo.out HGso.out (by rw [HPe.out.length_eq]; exact HGl.out)
  have hLl : (crL Gs G).length ≤ 1024 := crL_len (by rw [HPe.out.length_eq]; exact HGl.out) HGl.out
  have HOu2 : Hid (∀ e w', Below w.heap.size w w' → (((crL Gs G).any ov = false ∧ e = .returned (.tuple #[.agg #[.int .i64 0, .int .i64 0, .slice none 0 0], .bool false])) ∨ (∃ i ∈ crL Gs G, ov i = true ∧ ∃ v, e = .returned (.tuple #[.agg #[.int .i64 i.lo, .int .i64 i.hi, v], .bool true]) ∧ IntsAt w' v (P.filter fun x => i.f x.toNat))) → HfOut D xs w e w') := fun e w' h1 h2 => HOut.out Gs e w' HPe.out HPa.out h1 h2
  obtain ⟨L, hL⟩ : ∃ L, crL Gs G = L := ⟨_, rfl⟩
  rw [hL] at HLo HLok hLl HOu2 ⊢
  clear hL HOut HPe HPa
  have HBW2 : Hid (Below W.heap.size W w2) := bl_next HBV.out HB2.out
  have HIv : Hid (∀ w', Below w2.heap.size w2 w' → ∀ j (h : j < L.length), ∃ b off, la = some ⟨b, off, none⟩ ∧ IvAt w' b (off + j * 7) L[j]) := fun w' hb j hj => by
    obtain ⟨a, c, e, h⟩ := own_ivs HLo.out
    injection e with e1 _ _
    subst e1
    obtain ⟨b, off, e2, _, h2⟩ := (h.below hb) j hj
    exact ⟨b, off, e2, h2⟩
  have HgV2 : Hid (∀ w', Below w2.heap.size w2 w' → w'.heap[w1.heap.size]? = some (.cells #[.slice pa P.length pc, .slice ga G.length gc] 66 (0, 0))) := fun w' hb => ((HB2.out.trans (hb.mono HB2.out.size)).block _ (Array.getElem?_eq_some_iff.1 HgV.out).1).trans HgV.out
  have HP2 : Hid (∀ w', Below w2.heap.size w2 w' → IntsAt w' (.slice pa P.length pc) P) := fun w' hb => own_ints (own_bl HO4.out (HB2.out.trans (hb.mono HB2.out.size))) (by unfold maxLen; have := HPn.out; omega)
  have HW2 : Hid (∀ w', Below w2.heap.size w2 w' → w'.heap[w.heap.size]? = some (.cells #[.int .i64 0, .int .i64 0, .slice none 0 0] 37 (0, 0))) := fun w' hb => ((HBW2.out.trans (hb.mono HBW2.out.size)).block _ (Array.getElem?_eq_some_iff.1 HW0.out).1).trans HW0.out
  have HBw2 : Hid (∀ w', Below w2.heap.size w2 w' → Below w.heap.size w w') := fun w' hb => HBW.out.trans ((HBW2.out.trans (hb.mono HBW2.out.size)).mono HBW.out.size)
  have Hlt : Hid (w.heap.size < w2.heap.size) := Nat.lt_of_lt_of_le (Array.getElem?_eq_some_iff.1 HW0.out).1 HBW2.out.size
  clear HB2 HgV HO3 HO4 HBV HLo HW0 HBW HBW2 HGso HGo HGl
  go_loopw [15] (fun iv wr => ∃ (k : Nat), iv = .int .i64 (k : Int) ∧ k ≤ L.length ∧ Hid ((L.take k).any ov = false) ∧ Hid (Below w2.heap.size w2 wr)) (fun iv _ => L.length - (intOf iv).toNat)
  case atStart => exact ⟨0, rfl, Nat.zero_le _, rfl, Below.refl _ _⟩
  case round =>
  obtain ⟨k, rfl, hk, HA, HBr⟩ := hrel
  by_cases hkn : k < L.length
  case neg =>
    have hke : k = L.length := by omega
    subst hke
    have hkI : ¬ (L.length : Int) < (L.length : Int) := by omega
    have HA2 : Hid (L.any ov = false) := by
      have := HA.out
      rw [List.take_length] at this
      exact this
    have y := HW2.out wr HBr.out
    have HY : Hid (wr.heap[w.heap.size]? = some (.cells #[.int .i64 0, .int .i64 0, .slice none 0 0] 37 (0, 0))) := y
    have s0 := cell_of y 0
    have s1 := cell_of y 1
    have s2 := cell_of y 2
    have sz : ∀ i, wr.frozen? ⟨w.heap.size, i, none⟩ = false := fun i => frozen_of y i
    clear y
    go_wp2_with fail
    refine bodyPost_ret (v := .tuple #[.agg #[.int .i64 0, .int .i64 0, .slice none 0 0], .bool false]) (res_ct res10 _ _ w.heap.size 37 #[.int .i64 0, .int .i64 0, .slice none 0 0] (0, 0) _ rfl (set3h HY.out _ _ _) Tryz.underlying37 rfl info37s) rfl ?_
    exact HOu2.out _ _ ((((HBw2.out _ HBr.out).setCell (Nat.le_refl _) _).setCell (Nat.le_refl _) _).setCell (Nat.le_refl _) _) (.inl ⟨HA2.out, rfl⟩)
  case pos =>
  have hkI : (k : Int) < (L.length : Int) := by omega
  obtain ⟨b, off, rfl, hI⟩ := HIv.out wr HBr.out k hkn
  have HN : Hid ((L.take (k + 1)).any ov = ((L.take k).any ov || ov L[k])) := any_take hkn
  have HM : Hid (L[k] ∈ L) := List.getElem_mem hkn
  have hok := HLok.out _ (List.getElem_mem hkn)
  obtain ⟨i, hi⟩ : ∃ i, L[k] = i := ⟨_, rfl⟩
  rw [hi] at hI HN HM hok
  clear hi
  obtain ⟨q0, q1, q2, q3, q4, q5, q6⟩ := hI
  obtain ⟨X, hX⟩ : ∃ X, wr.alloc (.cells #[.int .i64 i.lo, .int .i64 i.hi, .int .u8 (wd i.f 0 : Int), .int .u8 (wd i.f 1 : Int), .int .u8 (wd i.f 2 : Int), .int .u8 (wd i.f 3 : Int), .int .i64 i.n] 76) = X := ⟨_, rfl⟩
  have hbX : Below wr.heap.size wr X := by rw [← hX]; exact (Below.refl _ _).alloc (Nat.le_refl _) _
  have gX : X.heap[wr.heap.size]? = some (.cells #[.int .i64 i.lo, .int .i64 i.hi, .int .u8 (wd i.f 0 : Int), .int .u8 (wd i.f 1 : Int), .int .u8 (wd i.f 2 : Int), .int .u8 (wd i.f 3 : Int), .int .i64 i.n] 76 (0, 0)) := by rw [← hX]; exact heap_alloc_new wr _
  have HBX : Hid (Below w2.heap.size w2 X) := bl_next HBr.out hbX
  have HGX : Hid (∀ w', Below X.heap.size X w' → w'.cell? ⟨wr.heap.size, 0, none⟩ = some (.int .i64 i.lo) ∧ w'.cell? ⟨wr.heap.size, 1, none⟩ = some (.int .i64 i.hi) ∧ w'.cell? ⟨wr.heap.size, 2, none⟩ = some (.int .u8 (wd i.f 0 : Int)) ∧ w'.cell? ⟨wr.heap.size, 3, none⟩ = some (.int .u8 (wd i.f 1 : Int)) ∧ w'.cell? ⟨wr.heap.size, 4, none⟩ = some (.int .u8 (wd i.f 2 : Int)) ∧ w'.cell? ⟨wr.heap.size, 5, none⟩ = some (.int .u8 (wd i.f 3 : Int)) ∧ w'.cell? ⟨wr.heap.size, 6, none⟩ = some (.int .i64 i.n)) := fun w' hb => by
    have y := (hb.block _ (Array.getElem?_eq_some_iff.1 gX).1).trans gX
    exact ⟨cell_of y 0, cell_of y 1, cell_of y 2, cell_of y 3, cell_of y 4, cell_of y 5, cell_of y 6⟩
  obtain ⟨r, hr⟩ : ∃ r, ov i = r := ⟨_, rfl⟩
  have HRo : Hid (ov i = r) := hr
  have HC : Hid (Calls Tryz.prog 29 #[.agg #[.int .i64 i.lo, .int .i64 i.hi, .int .u8 (wd i.f 0 : Int), .int .u8 (wd i.f 1 : Int), .int .u8 (wd i.f 2 : Int), .int .u8 (wd i.f 3 : Int), .int .i64 i.n]] X fun e w' => e = .returned (.bool r) ∧ Below X.heap.size X w') := by rw [← hr]; exact isOver_any i hok X
  have HHl : Hid (∀ w', Below w2.heap.size w2 w' → Calls Tryz.prog 32 #[.agg #[.slice pa P.length pc, .slice ga G.length gc], .agg #[.int .i64 i.lo, .int .i64 i.hi, .int .u8 (wd i.f 0 : Int), .int .u8 (wd i.f 1 : Int), .int .u8 (wd i.f 2 : Int), .int .u8 (wd i.f 3 : Int), .int .i64 i.n]] w' fun e w'' => ∃ v, e = .returned (.agg #[.int .i64 i.lo, .int .i64 i.hi, v]) ∧ Hid (w''.ownsRow w'.heap.size 3 1 v (P.filter fun x => i.f x.toNat).length ((P.filter fun x => i.f x.toNat).map (.int .i64))) ∧ Below w'.heap.size w' w'') := fun w' hb => hall_any pa pc P _ i w' (HP2.out w' hb) HPi.out hok HPn.out
  rw [hr] at HN
  clear hr hok
  obtain ⟨t0, t1, t2, t3, t4, t5, t6⟩ := HGX.out X (Below.refl _ _)
  go_upto_region 5 with fail
  try rw [hX]
  clear hX hbX gX q0 q1 q2 q3 q4 q5 q6
  cases r with
  | false =>
    have HN2 : Hid ((L.take (k + 1)).any ov = false) := by show _ = _; rw [HN.out, HA.out]; rfl
    go_wp2_with (go_at_call 29; refine calls_at HC.out (by with_reducible rfl) (by with_reducible rfl) ?_; rintro e w4 ⟨rfl, hb4⟩)
    go_roundw
    case rel => exact ⟨k + 1, by go_num, hkn, HN2, bl_next HBX.out hb4⟩
    case measure => simp [intOf]; omega
  | true =>
    go_upto_region 6 with (go_at_call 29; refine calls_at HC.out (by with_reducible rfl) (by with_reducible rfl) ?_; rintro e w4 ⟨rfl, hb4⟩)
    have HB4 : Hid (Below w2.heap.size w2 w4) := bl_next HBX.out hb4
    obtain ⟨m0, m1, m2, m3, m4, m5, m6⟩ := HGX.out w4 hb4
    have y := HgV2.out w4 HB4.out
    have z0 := cell_of y 0
    have z1 := cell_of y 1
    clear y hb4 t0 t1 t2 t3 t4 t5 t6
    go_wp2_with (go_at_call 32; refine calls_at (HHl.out _ HB4.out) (by with_reducible rfl) (by with_reducible rfl) ?_; rintro e w5 ⟨v5, rfl, ho5, hb5⟩; (have HB5 : Hid (Below w2.heap.size w2 w5) := bl_next HB4.out hb5); clear hb5; (have y := HW2.out w5 HB5.out); (have HY : Hid (w5.heap[w.heap.size]? = some (.cells #[.int .i64 0, .int .i64 0, .slice none 0 0] 37 (0, 0))) := y); (have s0 := cell_of y 0); (have s1 := cell_of y 1); (have s2 := cell_of y 2); (have sz : ∀ i, w5.frozen? ⟨w.heap.size, i, none⟩ = false := fun i => frozen_of y i); clear y; (obtain ⟨a5, c5, e5⟩ := own_slice ho5.out); subst e5)
    refine bodyPost_ret (v := .tuple #[.agg #[.int .i64 i.lo, .int .i64 i.hi, .slice a5 (P.filter fun x => i.f x.toNat).length c5], .bool true]) (res_ct res10 _ _ w.heap.size 37 #[.int .i64 i.lo, .int .i64 i.hi, .slice a5 (P.filter fun x => i.f x.toNat).length c5] (0, 0) _ rfl (set3h HY.out _ _ _) Tryz.underlying37 rfl info37s) rfl ?_
    refine HOu2.out _ _ ((((HBw2.out _ HB5.out).setCell (Nat.le_refl _) _).setCell (Nat.le_refl _) _).setCell (Nat.le_refl _) _) (.inr ⟨i, HM.out, HRo.out, _, rfl, ?_⟩)
    refine own_ints (B := w4.heap.size) (own_off ho5.out (fun g hg e => ?_) ((Off.set (S := fun b => b = w.heap.size) _ rfl).trans ((Off.set (S := fun b => b = w.heap.size) _ rfl).trans (Off.set (S := fun b => b = w.heap.size) _ rfl)))) (by
      unfold maxLen
      have := List.length_filter_le (fun x : Int => i.f x.toNat) P
      have := HPn.out
      omega)
    have := (ho5.out.lt g hg).1
    have := Hlt.out
    have := HB4.out.size
    omega
end Go.Proofs.YtemnbcilmbojhaaGreatDoor

namespace Go.Proofs.YtemnbcilmbojhaaGreatDoor
open Go.RowKit

def kM : Md.Mo := ⟨[⟨⟨#[120]⟩, 1, 2⟩, ⟨⟨#[121]⟩, 1, 2⟩, ⟨⟨#[122]⟩, 1, 4⟩, ⟨⟨#[119]⟩, 4, 4⟩], [], false, []⟩
def kD : List Dm := [⟨1, 3, 0⟩, ⟨1, 3, 0⟩, ⟨1, 15, 0⟩, ⟨4, 1, 0⟩]
def kS : St := ⟨kD, [], 0⟩
theorem knS : newS kM = kS := by kernel_rfl
def kG : List Gr := [⟨1, 2, 0, 1⟩, ⟨1, 2, 1, 1⟩, ⟨1, 4, 2, 1⟩, ⟨4, 4, 3, 1⟩]
def kH : List Gr := [⟨1, 2, 0, 2⟩, ⟨1, 2, 1, 1⟩]
theorem kgG : hcG kD [0, 1, 2, 3] = kG := by kernel_rfl
theorem kgH : hcG kD [0, 1, 0] = kH := by kernel_rfl
theorem kpG : plP kD.length [0, 1, 2, 3] = [0, 1, 2, 3] := by kernel_rfl
theorem kpH : plP kD.length [0, 1, 0] = [0, 1, 0] := by kernel_rfl
theorem kstG : stL kG = [1, 4] := by
  unfold stL
  have e : kG.map Gr.lo = [1, 1, 1, 4] := rfl
  rw [e, List.mergeSort_of_pairwise (by decide)]
  rfl
theorem kstH : stL kH = [1] := by
  unfold stL
  have e : kH.map Gr.lo = [1, 1] := rfl
  rw [e, List.mergeSort_of_pairwise (by decide)]
  rfl
def kG1 : List Gr := [⟨1, 2, 0, 1⟩, ⟨1, 2, 1, 1⟩, ⟨1, 4, 2, 1⟩, ⟨4, 4, 3, 1⟩]
def kG2 : List Gr := [⟨1, 2, 1, 1⟩, ⟨1, 2, 0, 1⟩, ⟨1, 4, 2, 1⟩, ⟨4, 4, 3, 1⟩]
def kG3 : List Gr := [⟨1, 2, 0, 1⟩, ⟨1, 2, 1, 1⟩, ⟨4, 4, 3, 1⟩, ⟨1, 4, 2, 1⟩]
def kG4 : List Gr := [⟨1, 2, 1, 1⟩, ⟨1, 2, 0, 1⟩, ⟨4, 4, 3, 1⟩, ⟨1, 4, 2, 1⟩]
def tup (g : Gr) : Int × Int × Nat × Int := (g.lo, g.hi, g.x, g.n)
def unt (t : Int × Int × Nat × Int) : Gr := ⟨t.1, t.2.1, t.2.2.1, t.2.2.2⟩
theorem unt_map (l : List Gr) : (l.map tup).map unt = l := by
  rw [List.map_map]
  have : ∀ g ∈ l, (unt ∘ tup) g = id g := fun g _ => rfl
  rw [List.map_congr_left this]
  simp
theorem map_tup {l l' : List Gr} (h : l.map tup = l'.map tup) : l = l' := by rw [← unt_map l, h, unt_map]
theorem kper : ∀ p ∈ kG.map tup, ∀ q ∈ kG.map tup, ∀ r ∈ kG.map tup, ∀ s ∈ kG.map tup, ([p, q, r, s].isPerm (kG.map tup) && (decide (p.2.1 ≤ q.2.1) && (decide (q.2.1 ≤ r.2.1) && decide (r.2.1 ≤ s.2.1)))) = true → [p, q, r, s] = kG1.map tup ∨ [p, q, r, s] = kG2.map tup ∨ [p, q, r, s] = kG3.map tup ∨ [p, q, r, s] = kG4.map tup := by decide +kernel
theorem kper2 : ∀ p ∈ kH.map tup, ∀ q ∈ kH.map tup, ([p, q].isPerm (kH.map tup)) = true → [p, q] = kH.map tup ∨ [p, q] = kH.reverse.map tup := by decide +kernel
theorem kGs {Gs : List Gr} (hp : Gs.Perm kG) (hs : Gs.Pairwise fun a b => a.hi ≤ b.hi) : Gs = kG1 ∨ Gs = kG2 ∨ Gs = kG3 ∨ Gs = kG4 := by
  have hl := hp.length_eq
  match Gs, hl with
  | [p, q, r, s], _ =>
    have hm : ∀ g ∈ [p, q, r, s], tup g ∈ kG.map tup := fun g hg => List.mem_map.2 ⟨g, hp.mem_iff.1 hg, rfl⟩
    have h0 := kper (tup p) (hm p (by simp)) (tup q) (hm q (by simp)) (tup r) (hm r (by simp)) (tup s) (hm s (by simp)) (by
      rw [Bool.and_eq_true]
      refine ⟨List.isPerm_iff.2 (hp.map tup), ?_⟩
      simp only [List.pairwise_cons] at hs
      have h1 := hs.1 q (by simp)
      have h2 := hs.2.1 r (by simp)
      have h3 := hs.2.2.1 s (by simp)
      simp [tup, h1, h2, h3])
    have e : [tup p, tup q, tup r, tup s] = [p, q, r, s].map tup := rfl
    rw [e] at h0
    rcases h0 with h | h | h | h
    · exact .inl (map_tup h)
    · exact .inr (.inl (map_tup h))
    · exact .inr (.inr (.inl (map_tup h)))
    · exact .inr (.inr (.inr (map_tup h)))
theorem kHs {Gs : List Gr} (hp : Gs.Perm kH) : Gs = kH ∨ Gs = kH.reverse := by
  have hl := hp.length_eq
  match Gs, hl with
  | [p, q], _ =>
    have hm : ∀ g ∈ [p, q], tup g ∈ kH.map tup := fun g hg => List.mem_map.2 ⟨g, hp.mem_iff.1 hg, rfl⟩
    have h0 := kper2 (tup p) (hm p (by simp)) (tup q) (hm q (by simp)) (List.isPerm_iff.2 (hp.map tup))
    have e : [tup p, tup q] = [p, q].map tup := rfl
    rw [e] at h0
    rcases h0 with h | h
    · exact .inl (map_tup h)
    · exact .inr (map_tup h)
def kZ : List Cz := [⟨2, 1, 1, 2, [0, 1]⟩, ⟨2, 2, 1, 2, [0, 1]⟩, ⟨2, 4, 4, 4, [3]⟩]
def kL (Gs : List Gr) : List Iv := [1, 4].flatMap fun a => cfL a Gs
def kL2 (Gs : List Gr) : List Iv := [1].flatMap fun a => cfL a Gs
theorem kz1 : hcZ kD [0, 1, 2, 3] (kL kG1) = kZ ∧ (kL kG1).any ov = false := ⟨by kernel_rfl, by kernel_rfl⟩
theorem kz2 : hcZ kD [0, 1, 2, 3] (kL kG2) = kZ ∧ (kL kG2).any ov = false := ⟨by kernel_rfl, by kernel_rfl⟩
theorem kz3 : hcZ kD [0, 1, 2, 3] (kL kG3) = kZ ∧ (kL kG3).any ov = false := ⟨by kernel_rfl, by kernel_rfl⟩
theorem kz4 : hcZ kD [0, 1, 2, 3] (kL kG4) = kZ ∧ (kL kG4).any ov = false := ⟨by kernel_rfl, by kernel_rfl⟩
theorem kzG {Gs : List Gr} (hp : Gs.Perm (hcG kD [0, 1, 2, 3])) (hs : Gs.Pairwise fun a b => a.hi ≤ b.hi) : hcZ kD [0, 1, 2, 3] (crL Gs (hcG kD [0, 1, 2, 3])) = kZ ∧ (crL Gs (hcG kD [0, 1, 2, 3])).any ov = false := by
  rw [kgG] at *
  have e : crL Gs kG = kL Gs := by unfold crL kL; rw [kstG]
  rw [e]
  rcases kGs hp hs with rfl | rfl | rfl | rfl
  · exact kz1
  · exact kz2
  · exact kz3
  · exact kz4
def kOk (i : Iv) : Bool := decide (i.lo = 1) && (decide (i.hi = 2) && decide (([0, 1, 0] : List Int).filter (fun x => i.f x.toNat) = [0, 1, 0]))
theorem kh1 : (kL2 kH).any ov = true ∧ (kL2 kH).all kOk = true := ⟨by kernel_rfl, by kernel_rfl⟩
theorem kh2 : (kL2 kH.reverse).any ov = true ∧ (kL2 kH.reverse).all kOk = true := ⟨by kernel_rfl, by kernel_rfl⟩
theorem kzH {Gs : List Gr} (hp : Gs.Perm (hcG kD [0, 1, 0])) : (crL Gs (hcG kD [0, 1, 0])).any ov = true ∧ ∀ i ∈ crL Gs (hcG kD [0, 1, 0]), i.lo = 1 ∧ i.hi = 2 ∧ (plP kD.length [0, 1, 0]).filter (fun x => i.f x.toNat) = [0, 1, 0] := by
  rw [kgH] at *
  rw [kpH]
  have e : crL Gs kH = kL2 Gs := by unfold crL kL2; rw [kstH]
  rw [e]
  have key : (kL2 Gs).any ov = true ∧ (kL2 Gs).all kOk = true := by
    rcases kHs hp with rfl | rfl
    · exact kh1
    · exact kh2
  refine ⟨key.1, fun i hi => ?_⟩
  have := List.all_eq_true.1 key.2 i hi
  unfold kOk at this
  simp only [Bool.and_eq_true, decide_eq_true_eq] at this
  exact this
end Go.Proofs.YtemnbcilmbojhaaGreatDoor

namespace Go.Proofs.YtemnbcilmbojhaaGreatDoor
open Go.RowKit

theorem kterms0 (w : World) : TermsAt w (.slice none 0 0) [] := ⟨none, 0, rfl, Nat.zero_le _, fun h => absurd h (Nat.not_lt_zero _)⟩
theorem kcons0 (w : World) : ConsAt w (.slice none 0 0) [] := ⟨none, 0, rfl, Nat.zero_le _, fun h => absurd h (Nat.not_lt_zero _)⟩
theorem lit_ints {W : World} {N : Nat} {L : List Int} {cs : Array Value} {t : TypeId} (h : W.heap[N]? = some (.cells cs t (0, 0))) (hc : cs = (L.map (.int .i64)).toArray) (hl : L.length ≤ 1000) (n : Nat) (hn : n = L.length) : IntsAt W (.slice (some ⟨N, 0, none⟩) n n) L := by
  subst hc hn
  refine ⟨_, _, rfl, by unfold maxLen; omega, fun _ => ⟨N, 0, rfl, (Array.getElem?_eq_some_iff.1 h).1, fun j hj => ?_⟩⟩
  rw [cell_of h, Nat.zero_add]
  simp [hj]
theorem kM_at {W : World} {N : Nat} (h : W.heap[N]? = some (.cells #[.string ⟨#[120]⟩, .int .i64 1, .int .i64 2, .string ⟨#[121]⟩, .int .i64 1, .int .i64 2, .string ⟨#[122]⟩, .int .i64 1, .int .i64 4, .string ⟨#[119]⟩, .int .i64 4, .int .i64 4] 62 (0, 0))) : MoAt W kM (.slice (some ⟨N, 0, none⟩) 4 4) (.slice none 0 0) (.slice none 0 0) := by
  refine ⟨⟨_, 4, rfl, by unfold maxLen; decide, ?_, fun _ => ⟨N, 0, rfl, (Array.getElem?_eq_some_iff.1 h).1, fun j hj => ?_⟩⟩, ?_, kcons0 W, kterms0 W⟩
  · intro x hx
    have hx : x = ⟨⟨#[120]⟩, 1, 2⟩ ∨ x = ⟨⟨#[121]⟩, 1, 2⟩ ∨ x = ⟨⟨#[122]⟩, 1, 4⟩ ∨ x = ⟨⟨#[119]⟩, 4, 4⟩ := by simpa [kM] using hx
    rcases hx with rfl | rfl | rfl | rfl <;> (show (1 : Nat) ≤ maxLen; unfold maxLen; decide)
  · match j, hj with
    | 0, _ => exact ⟨cell_of h 0, cell_of h 1, cell_of h 2⟩
    | 1, _ => exact ⟨cell_of h 3, cell_of h 4, cell_of h 5⟩
    | 2, _ => exact ⟨cell_of h 6, cell_of h 7, cell_of h 8⟩
    | 3, _ => exact ⟨cell_of h 9, cell_of h 10, cell_of h 11⟩
  · intro a n cp e
    injection e with _ e1 e2
    omega
theorem ints_cells {w : World} {a : Option Addr} {cap : Nat} {l : List Int} (h : IntsAt w (.slice a l.length cap) l) (k : Nat) (hk : k < l.length) : ∃ b off, a = some ⟨b, off, none⟩ ∧ w.cell? ⟨b, off + k, none⟩ = some (.int .i64 l[k]) := by
  obtain ⟨a', c', e, _, hcl⟩ := h
  injection e with e1 _ _
  subst e1
  obtain ⟨b, off, e, hlt, hc⟩ := hcl (by omega)
  exact ⟨b, off, e, hc k hk⟩
set_option maxRecDepth 10000 in
set_option maxHeartbeats 1000000 in
theorem sameInts_eq (a a2 : Option Addr) (cap cap2 : Nat) (l : List Int) (w : World) (h1 : IntsAt w (.slice a l.length cap) l) (h2 : IntsAt w (.slice a2 l.length cap2) l) (hl : l.length ≤ 1000000) : Calls Tryz.prog 45 #[.slice a l.length cap, .slice a2 l.length cap2] w fun e w' => e = .returned (.bool true) ∧ Below w.heap.size w w' := by
  have H1 : Hid (∀ w', Below w.heap.size w w' → ∀ k (hk : k < l.length), ∃ b off, a = some ⟨b, off, none⟩ ∧ w'.cell? ⟨b, off + k, none⟩ = some (.int .i64 l[k])) := fun w' hb k hk => ints_cells (h1.below hb) k hk
  have H2 : Hid (∀ w', Below w.heap.size w w' → ∀ k (hk : k < l.length), ∃ b off, a2 = some ⟨b, off, none⟩ ∧ w'.cell? ⟨b, off + k, none⟩ = some (.int .i64 l[k])) := fun w' hb k hk => ints_cells (h2.below hb) k hk
  clear h1 h2
  go_enter Tryz.func45, Tryz.ntmps45
  go_wp2_with fail
  go_loopw [5] (fun iv wr => ∃ (k : Nat), iv = .int .i64 (k : Int) ∧ k ≤ l.length ∧ Hid (Below w.heap.size w wr)) (fun iv _ => l.length - (intOf iv).toNat)
  case atStart => exact ⟨0, rfl, Nat.zero_le _, Below.refl _ _⟩
  case round =>
  obtain ⟨k, rfl, hk, HB⟩ := hrel
  by_cases hkn : k < l.length
  case neg =>
    have hke : k = l.length := by omega
    subst hke
    have hkI : ¬ (l.length : Int) < (l.length : Int) := by omega
    go_wp2_with fail
    go_ret
    exact ⟨rfl, HB.out⟩
  case pos =>
  have hkI : (k : Int) < (l.length : Int) := by omega
  obtain ⟨b, off, rfl, q1⟩ := H1.out wr HB.out k hkn
  obtain ⟨b', off', rfl, q2⟩ := H2.out wr HB.out k hkn
  go_upto_region 6 with fail
  go_quiet (fail)
  go_wp2_with fail
  go_roundw
  case rel => exact ⟨k + 1, by go_num, hkn, HB.out.trans ((bl_drewN _ _).mono HB.out.size)⟩
  case measure => simp [intOf]; omega
set_option maxRecDepth 10000 in
set_option maxHeartbeats 1000000 in
theorem sameHall_eq (a a2 : Option Addr) (cap cap2 : Nat) (l : List Int) (x y : Int) (w : World) (h1 : IntsAt w (.slice a l.length cap) l) (h2 : IntsAt w (.slice a2 l.length cap2) l) (hl : l.length ≤ 1000000) : Calls Tryz.prog 25 #[.agg #[.int .i64 x, .int .i64 y, .slice a l.length cap], .agg #[.int .i64 x, .int .i64 y, .slice a2 l.length cap2]] w fun e w' => e = .returned (.bool true) ∧ Below w.heap.size w w' := by
  obtain ⟨W, hW⟩ : ∃ W, (w.alloc (.cells #[.int .i64 x, .int .i64 y, .slice a l.length cap] 37)).alloc (.cells #[.int .i64 x, .int .i64 y, .slice a2 l.length cap2] 37) = W := ⟨_, rfl⟩
  have hb0 : Below w.heap.size w W := by rw [← hW]; exact ((Below.refl _ _).alloc (Nat.le_refl _) _).alloc (by simp) _
  have g0 : W.heap[w.heap.size]? = some (.cells #[.int .i64 x, .int .i64 y, .slice a l.length cap] 37 (0, 0)) := by rw [← hW, heap_alloc_old (w.alloc _) _ (by simp)]; exact heap_alloc_new w _
  have g1 : W.heap[w.heap.size + 1]? = some (.cells #[.int .i64 x, .int .i64 y, .slice a2 l.length cap2] 37 (0, 0)) := by rw [← hW]; exact heap_alloc2_new w _ _
  have HS : Hid (Calls Tryz.prog 45 #[.slice a l.length cap, .slice a2 l.length cap2] W fun e w' => e = .returned (.bool true) ∧ Below W.heap.size W w') := sameInts_eq a a2 cap cap2 l W (h1.below hb0) (h2.below hb0) hl
  have HB : Hid (Below w.heap.size w W) := hb0
  have c0 := cell_of g0 0
  have c1 := cell_of g0 1
  have c2 := cell_of g0 2
  have d0 := cell_of g1 0
  have d1 := cell_of g1 1
  have d2 := cell_of g1 2
  clear h1 h2 hb0 g0 g1
  go_enter Tryz.func25, Tryz.ntmps25
  go_upto_region 1 with fail
  try rw [hW]
  clear hW
  go_wp2_with (go_at_call 45; refine calls_at HS.out (by with_reducible rfl) (by with_reducible rfl) ?_; rintro e w4 ⟨rfl, hb4⟩)
  go_ret
  exact ⟨rfl, HB.out.trans (hb4.mono HB.out.size)⟩
end Go.Proofs.YtemnbcilmbojhaaGreatDoor
